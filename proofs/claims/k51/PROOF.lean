import PyProof.Rows.All
import Wide.All
import OpenK.AllK
import Wide.FinOn
import Lean
import PyProof.EqAt
import PyProof.EqKinds
import PyProof.TupleCall
import Open.Row
import PySem.SetOps
import PyProof.SetRoads
import PyProof.Rows.SetFrom
import PyProof.FactsAll.subtypes_4
import PyProof.WalksMore
import OpenK.KOwn
import PyProof.NeData
import PyProof.ReprRoads
import PyProof.WalksEnum
import PyProof.EnumMake
import PyProof.Rows.EnumRows
import KE.KTryMore
import KE.KIntText
import KE.KDictList
import PyProof.ConsumeS
import PyProof.ListRange
import PyProof.ListMulRoad
import PyProof.DictUpdate
import PyProof.Rows.TupDisplay
import PyProof.DictWalks
import PyProof.TupleOfGen
import PyProof.CompUse
import PyProof.CompFree
import KE.BitLaws
import PyProof.Draws
import PyProof.StrLawsChain
import KE.KxText
import PySem.Challenge.RW_quarterfold_k51_beside
set_option Elab.async false
set_option linter.all false
set_option maxRecDepth 100000
set_option maxHeartbeats 8000000
namespace L2
open PySem
def defArgs (s:Stmt):Arguments:=match s with
 |.FunctionDef _ a _ _ _ _ _ _ _ _=>a
 |_=>{ posonlyargs:=[],args:=[],vararg:=none,kwonlyargs:=[],kw_defaults:=[],kwarg:=none,defaults:=[] }
def defBody (s:Stmt):List Stmt:=match s with
 |.FunctionDef _ _ b _ _ _ _ _ _ _=>b
 |_=>[]
def defScope (s:Stmt):Scope:=match s with
 |.FunctionDef _ _ _ _ _ _ sc _ _ _=>sc
 |_=>{ kind:=.function,names:=[],isGenerator:=false,isCoroutine:=false }
end L2
namespace Pr
open PySem
def top (i:Nat):Stmt:=PySem.Challenge.pw_quarterfold_k51_beside.main.body.getD i (.Pass ⟨0,0,0,0⟩)
end Pr
namespace Hd
open PySem PySem.W
abbrev pw:Program:=PySem.Challenge.pw_quarterfold_k51_beside
abbrev u0_:Value:=.str "quarterfold.floors" 314
abbrev u1_:Value:=.str "law_quarterfold_k51_beside" 537
abbrev u2_:Value:=.str "quarterfold.tellings" 383
abbrev u3_:Value:=.str "quarterfold.rows" 271
abbrev u4_:Value:=.str "quarterfold.beside" 453
def kh (P:Params) (x:Str):Int:=PySem.PyData.keyHash P x
def oF (n:Str) (st:Stmt) (m:Value) (c:Nat):Obj:=⟨.type "function",none,.func (fnOf n n (L2.defArgs st) (L2.defBody st) (L2.defScope st) .none .none .none m none (.ref c) .none),#[]⟩
def oT (n q:Str) (st:Stmt):Obj:=⟨.none,none,.func { fnOf n q (L2.defArgs st) (L2.defBody st) (L2.defScope st) .none .none .none .none none .none .none with globals:=0 },#[]⟩
def oC (n q:Str) (t1 t2 t3 l a r1 r2:Nat) (y z:Value) (r6 k t5:Nat):Obj:=⟨.type "code",none,.fields #[.str n t1,.str q t2,.str "/claim/cut.py" t3,.int l 0,.int a 0,.int 0 0,.int 0 0,.int 3 0,.ref r1,.bool true,.int 181 0,.ref r2,.none,y,z,.ref r6,.int k 0,.int l 0,.str "/claim/cut.py" t5],#[]⟩
def K0 (P:Params):Frag:=
(nat_lit 2,⟨.none,none,(.dict #[] 0),#[]⟩) ::
(nat_lit 3,⟨.type "dict",none,(.dict #[⟨kh P "__name__",.str "__name__" 165,.str "law_quarterfold_k51_beside" 537⟩,⟨kh P "__doc__",.str "__doc__" 166,.none⟩,⟨kh P "__package__",.str "__package__" 167,.none⟩,⟨kh P "__loader__",.str "__loader__" 168,.builtin "__main__.__loader__#opaque"⟩,⟨kh P "__spec__",.str "__spec__" 169,.none⟩,⟨kh P "__annotations__",.str "__annotations__" 170,.ref 6⟩,⟨kh P "__builtins__",.str "__builtins__" 171,.ref 4⟩,⟨kh P "__file__",.str "__file__" 173,.str "/claim/cut.py" 172⟩,⟨kh P "__cached__",.str "__cached__" 174,.none⟩,⟨kh P "FloorError",.str "FloorError" 206,.ref 24⟩,⟨kh P "NoAddress",.str "NoAddress" 222,.ref 37⟩,⟨kh P "NoShape",.str "NoShape" 238,.ref 49⟩,⟨kh P "TooMany",.str "TooMany" 254,.ref 61⟩,⟨kh P "NoSide",.str "NoSide" 270,.ref 73⟩,⟨kh P "FIRST",.str "FIRST" 274,.int 2 273⟩,⟨kh P "is_whole",.str "is_whole" 281,.ref 82⟩,⟨kh P "is_plain",.str "is_plain" 288,.ref 89⟩,⟨kh P "depths_of",.str "depths_of" 294,.ref 94⟩,⟨kh P "end_rows",.str "end_rows" 304,.ref 101⟩,⟨kh P "places_as_ended",.str "places_as_ended" 313,.ref 108⟩,⟨kh P "GREATEST_SIZE",.str "GREATEST_SIZE" 317,.int 12 316⟩,⟨kh P "is_size",.str "is_size" 324,.ref 115⟩,⟨kh P "is_address",.str "is_address" 330,.ref 120⟩,⟨kh P "is_cell",.str "is_cell" 340,.ref 127⟩,⟨kh P "want_address",.str "want_address" 348,.ref 134⟩,⟨kh P "side_of",.str "side_of" 355,.ref 141⟩,⟨kh P "quarter_of",.str "quarter_of" 364,.ref 148⟩,⟨kh P "box_at",.str "box_at" 376,.ref 155⟩,⟨kh P "address_at",.str "address_at" 382,.ref 160⟩,⟨kh P "is_number",.str "is_number" 392,.ref 167⟩,⟨kh P "is_row",.str "is_row" 398,.ref 172⟩,⟨kh P "are_rows",.str "are_rows" 404,.ref 177⟩,⟨kh P "is_telling",.str "is_telling" 414,.ref 184⟩,⟨kh P "is_shape",.str "is_shape" 420,.ref 189⟩,⟨kh P "want_shape",.str "want_shape" 427,.ref 196⟩,⟨kh P "MOST_LEAVES",.str "MOST_LEAVES" 431,.int 2000 430⟩,⟨kh P "count_leaves",.str "count_leaves" 437,.ref 201⟩,⟨kh P "want_leaves",.str "want_leaves" 445,.ref 208⟩,⟨kh P "want_coarse",.str "want_coarse" 452,.ref 215⟩,⟨kh P "SIDES",.str "SIDES" 473,.ref 224⟩,⟨kh P "want_side",.str "want_side" 480,.ref 231⟩,⟨kh P "way_down",.str "way_down" 492,.ref 238⟩,⟨kh P "gather_along",.str "gather_along" 504,.ref 245⟩,⟨kh P "leaves_beside",.str "leaves_beside" 527,.ref 252⟩,⟨kh P "beside",.str "beside" 536,.ref 259⟩,⟨kh P "_law_pot",.str "_law_pot" 547,.ref 266⟩,⟨kh P "_law_digit",.str "_law_digit" 556,.ref 273⟩,⟨kh P "_law_cells",.str "_law_cells" 562,.ref 278⟩,⟨kh P "_law_box",.str "_law_box" 577,.ref 285⟩,⟨kh P "_law_boxes",.str "_law_boxes" 583,.ref 290⟩,⟨kh P "_law_meets",.str "_law_meets" 593,.ref 297⟩,⟨kh P "_law_has",.str "_law_has" 603,.ref 304⟩,⟨kh P "_law_number",.str "_law_number" 609,.ref 309⟩,⟨kh P "_law_shape",.str "_law_shape" 619,.ref 316⟩,⟨kh P "_law_leaf",.str "_law_leaf" 634,.ref 323⟩,⟨kh P "_law_square",.str "_law_square" 646,.ref 330⟩,⟨kh P "_law_near_box",.str "_law_near_box" 658,.ref 337⟩,⟨kh P "_law_address",.str "_law_address" 664,.ref 342⟩,⟨kh P "_law_due",.str "_law_due" 685,.ref 349⟩,⟨kh P "law",.str "law" 702,.ref 356⟩] 60),#[]⟩) ::
(nat_lit 15,⟨.type "tuple",none,(.seq #[.type "ValueError"] 0),#[]⟩) ::
(nat_lit 22,⟨.type "tuple",none,(.seq #[] 0),#[]⟩) ::
(nat_lit 23,⟨.type "dict",none,(.dict #[⟨kh P "__module__",.str "__module__" 196,.str "quarterfold.errors" 187⟩,⟨kh P "__firstlineno__",.str "__firstlineno__" 200,.int 2 199⟩,⟨kh P "__static_attributes__",.str "__static_attributes__" 201,.ref 22⟩,⟨kh P "__weakref__",.str "__weakref__" 203,.ref 25⟩,⟨kh P "__doc__",.str "__doc__" 204,.none⟩] 3),#[]⟩) ::
(nat_lit 24,⟨.type "type",none,(.cls ⟨"FloorError",[.type "ValueError"],[.ref 24,.type "ValueError",.type "Exception",.type "BaseException",.type "object"],23, "FloorError",true,[],[.ref 37,.ref 49,.ref 61,.ref 73],false,none,false⟩),#[some (.ref 15),none,some (.str "FloorError" 189),some (.str "FloorError" 197),some (.builtin "ValueError.__new__"),some (.bool true)]⟩) ::
(nat_lit 25,⟨.type "getset_descriptor",none,(.fields #[.str "__weakref__" 202,.ref 24,.builtin "ExceptionGroup.__weakref__",.none]),#[]⟩) ::
(nat_lit 28,⟨.type "tuple",none,(.seq #[.ref 24] 0),#[]⟩) ::
(nat_lit 35,⟨.type "tuple",none,(.seq #[] 0),#[]⟩) ::
(nat_lit 36,⟨.type "dict",none,(.dict #[⟨kh P "__module__",.str "__module__" 214,.str "quarterfold.errors" 187⟩,⟨kh P "__firstlineno__",.str "__firstlineno__" 218,.int 4 217⟩,⟨kh P "__static_attributes__",.str "__static_attributes__" 219,.ref 35⟩,⟨kh P "__doc__",.str "__doc__" 220,.none⟩] 2),#[]⟩) ::
(nat_lit 37,⟨.type "type",none,(.cls ⟨"NoAddress",[.ref 24],[.ref 37,.ref 24,.type "ValueError",.type "Exception",.type "BaseException",.type "object"],36, "NoAddress",true,[],[],false,none,false⟩),#[some (.ref 28),none,some (.str "NoAddress" 207),some (.str "NoAddress" 215),some (.builtin "ValueError.__new__"),some (.bool true)]⟩) ::
(nat_lit 40,⟨.type "tuple",none,(.seq #[.ref 24] 0),#[]⟩) ::
(nat_lit 47,⟨.type "tuple",none,(.seq #[] 0),#[]⟩) ::
(nat_lit 48,⟨.type "dict",none,(.dict #[⟨kh P "__module__",.str "__module__" 230,.str "quarterfold.errors" 187⟩,⟨kh P "__firstlineno__",.str "__firstlineno__" 234,.int 6 233⟩,⟨kh P "__static_attributes__",.str "__static_attributes__" 235,.ref 47⟩,⟨kh P "__doc__",.str "__doc__" 236,.none⟩] 2),#[]⟩) ::
(nat_lit 49,⟨.type "type",none,(.cls ⟨"NoShape",[.ref 24],[.ref 49,.ref 24,.type "ValueError",.type "Exception",.type "BaseException",.type "object"],48, "NoShape",true,[],[],false,none,false⟩),#[some (.ref 40),none,some (.str "NoShape" 223),some (.str "NoShape" 231),some (.builtin "ValueError.__new__"),some (.bool true)]⟩) ::
(nat_lit 52,⟨.type "tuple",none,(.seq #[.ref 24] 0),#[]⟩) ::
(nat_lit 59,⟨.type "tuple",none,(.seq #[] 0),#[]⟩) ::
(nat_lit 60,⟨.type "dict",none,(.dict #[⟨kh P "__module__",.str "__module__" 246,.str "quarterfold.errors" 187⟩,⟨kh P "__firstlineno__",.str "__firstlineno__" 250,.int 8 249⟩,⟨kh P "__static_attributes__",.str "__static_attributes__" 251,.ref 59⟩,⟨kh P "__doc__",.str "__doc__" 252,.none⟩] 2),#[]⟩) ::
(nat_lit 61,⟨.type "type",none,(.cls ⟨"TooMany",[.ref 24],[.ref 61,.ref 24,.type "ValueError",.type "Exception",.type "BaseException",.type "object"],60, "TooMany",true,[],[],false,none,false⟩),#[some (.ref 52),none,some (.str "TooMany" 239),some (.str "TooMany" 247),some (.builtin "ValueError.__new__"),some (.bool true)]⟩) ::
(nat_lit 64,⟨.type "tuple",none,(.seq #[.ref 24] 0),#[]⟩) ::
(nat_lit 71,⟨.type "tuple",none,(.seq #[] 0),#[]⟩) ::
(nat_lit 72,⟨.type "dict",none,(.dict #[⟨kh P "__module__",.str "__module__" 262,.str "quarterfold.errors" 187⟩,⟨kh P "__firstlineno__",.str "__firstlineno__" 266,.int 10 265⟩,⟨kh P "__static_attributes__",.str "__static_attributes__" 267,.ref 71⟩,⟨kh P "__doc__",.str "__doc__" 268,.none⟩] 2),#[]⟩) ::
(nat_lit 73,⟨.type "type",none,(.cls ⟨"NoSide",[.ref 24],[.ref 73,.ref 24,.type "ValueError",.type "Exception",.type "BaseException",.type "object"],72, "NoSide",true,[],[],false,none,false⟩),#[some (.ref 64),none,some (.str "NoSide" 255),some (.str "NoSide" 263),some (.builtin "ValueError.__new__"),some (.bool true)]⟩) ::
(nat_lit 76,⟨.type "tuple",none,(.seq #[] 0),#[]⟩) ::
(nat_lit 78,⟨.type "tuple",none,(.seq #[.str "thing" 278] 0),#[]⟩) ::
(nat_lit 79,⟨.type "tuple",none,(.seq #[] 0),#[]⟩) ::
(nat_lit 81,oC "is_whole" "is_whole" 275 276 277 14 1 76 77 (.ref 78) (.ref 79) 80 279 280) ::
(nat_lit 82,oF "is_whole" (Pr.top 8) u3_ 81) ::
(nat_lit 83,⟨.type "tuple",none,(.seq #[] 0),#[]⟩) ::
(nat_lit 85,⟨.type "tuple",none,(.seq #[.str "row" 285] 0),#[]⟩) ::
(nat_lit 86,⟨.type "tuple",none,(.seq #[] 0),#[]⟩) ::
(nat_lit 88,oC "is_plain" "is_plain" 282 283 284 16 1 83 84 (.ref 85) (.ref 86) 87 286 287) ::
(nat_lit 89,oF "is_plain" (Pr.top 9) u3_ 88) ::
(nat_lit 90,⟨.type "tuple",none,(.seq #[] 0),#[]⟩) ::
(nat_lit 93,oC "depths_of" "depths_of" 289 290 291 18 1 90 91 .none .none 92 292 293) ::
(nat_lit 94,oF "depths_of" (Pr.top 10) u3_ 93) ::
(nat_lit 95,⟨.type "tuple",none,(.seq #[] 0),#[]⟩) ::
(nat_lit 97,⟨.type "tuple",none,(.seq #[.str "rows" 298,.str "number" 299,.str "ended" 300,.str "quarter" 301] 0),#[]⟩) ::
(nat_lit 98,⟨.type "tuple",none,(.seq #[] 0),#[]⟩) ::
(nat_lit 100,oC "end_rows" "end_rows" 295 296 297 23 3 95 96 (.ref 97) (.ref 98) 99 302 303) ::
(nat_lit 101,oF "end_rows" (Pr.top 11) u3_ 100) ::
(nat_lit 102,⟨.type "tuple",none,(.seq #[] 0),#[]⟩) ::
(nat_lit 104,⟨.type "tuple",none,(.seq #[.str "rows" 308,.str "top" 309,.str "ended" 310] 0),#[]⟩) ::
(nat_lit 105,⟨.type "tuple",none,(.seq #[] 0),#[]⟩) ::
(nat_lit 107,oC "places_as_ended" "places_as_ended" 305 306 307 29 2 102 103 (.ref 104) (.ref 105) 106 311 312) ::
(nat_lit 108,oF "places_as_ended" (Pr.top 12) u3_ 107) ::
(nat_lit 109,⟨.type "tuple",none,(.seq #[] 0),#[]⟩) ::
(nat_lit 111,⟨.type "tuple",none,(.seq #[.str "thing" 321] 0),#[]⟩) ::
(nat_lit 112,⟨.type "tuple",none,(.seq #[] 0),#[]⟩) ::
(nat_lit 114,oC "is_size" "is_size" 318 319 320 35 1 109 110 (.ref 111) (.ref 112) 113 322 323) ::
(nat_lit 115,oF "is_size" (Pr.top 15) u0_ 114) ::
(nat_lit 116,⟨.type "tuple",none,(.seq #[] 0),#[]⟩) ::
(nat_lit 119,oC "is_address" "is_address" 325 326 327 37 2 116 117 .none .none 118 328 329) ::
(nat_lit 120,oF "is_address" (Pr.top 16) u0_ 119) ::
(nat_lit 121,⟨.type "tuple",none,(.seq #[] 0),#[]⟩) ::
(nat_lit 123,⟨.type "tuple",none,(.seq #[.str "n" 334,.str "row" 335,.str "column" 336,.str "side" 337] 0),#[]⟩) ::
(nat_lit 124,⟨.type "tuple",none,(.seq #[] 0),#[]⟩) ::
(nat_lit 126,oC "is_cell" "is_cell" 331 332 333 39 3 121 122 (.ref 123) (.ref 124) 125 338 339) ::
(nat_lit 127,oF "is_cell" (Pr.top 17) u0_ 126) ::
(nat_lit 128,⟨.type "tuple",none,(.seq #[] 0),#[]⟩) ::
(nat_lit 130,⟨.type "tuple",none,(.seq #[.str "n" 344,.str "address" 345] 0),#[]⟩) ::
(nat_lit 131,⟨.type "tuple",none,(.seq #[] 0),#[]⟩) ::
(nat_lit 133,oC "want_address" "want_address" 341 342 343 42 2 128 129 (.ref 130) (.ref 131) 132 346 347) ::
(nat_lit 134,oF "want_address" (Pr.top 18) u0_ 133) ::
(nat_lit 135,⟨.type "tuple",none,(.seq #[] 0),#[]⟩) ::
(nat_lit 137,⟨.type "tuple",none,(.seq #[.str "n" 352] 0),#[]⟩) ::
(nat_lit 138,⟨.type "tuple",none,(.seq #[] 0),#[]⟩) ::
(nat_lit 140,oC "side_of" "side_of" 349 350 351 45 1 135 136 (.ref 137) (.ref 138) 139 353 354) ::
(nat_lit 141,oF "side_of" (Pr.top 19) u0_ 140) ::
(nat_lit 142,⟨.type "tuple",none,(.seq #[] 0),#[]⟩) ::
(nat_lit 144,⟨.type "tuple",none,(.seq #[.str "row" 359,.str "column" 360,.str "k" 361] 0),#[]⟩) ::
(nat_lit 145,⟨.type "tuple",none,(.seq #[] 0),#[]⟩) ::
(nat_lit 147,oC "quarter_of" "quarter_of" 356 357 358 47 3 142 143 (.ref 144) (.ref 145) 146 362 363) ::
(nat_lit 148,oF "quarter_of" (Pr.top 20) u0_ 147) ::
(nat_lit 149,⟨.type "tuple",none,(.seq #[] 0),#[]⟩) ::
(nat_lit 151,⟨.type "tuple",none,(.seq #[.str "n" 368,.str "address" 369,.str "row" 370,.str "column" 371,.str "side" 372,.str "figure" 373] 0),#[]⟩) ::
(nat_lit 152,⟨.type "tuple",none,(.seq #[] 0),#[]⟩) ::
(nat_lit 154,oC "box_at" "box_at" 365 366 367 49 2 149 150 (.ref 151) (.ref 152) 153 374 375) ::
(nat_lit 155,oF "box_at" (Pr.top 21) u0_ 154) ::
(nat_lit 156,⟨.type "tuple",none,(.seq #[] 0),#[]⟩) ::
(nat_lit 159,oC "address_at" "address_at" 377 378 379 57 4 156 157 .none .none 158 380 381) ::
(nat_lit 160,oF "address_at" (Pr.top 22) u0_ 159) ::
(nat_lit 161,⟨.type "tuple",none,(.seq #[] 0),#[]⟩) ::
(nat_lit 163,⟨.type "tuple",none,(.seq #[.str "thing" 388,.str "many" 389] 0),#[]⟩) ::
(nat_lit 164,⟨.type "tuple",none,(.seq #[] 0),#[]⟩) ::
(nat_lit 166,oC "is_number" "is_number" 385 386 387 60 2 161 162 (.ref 163) (.ref 164) 165 390 391) ::
(nat_lit 167,oF "is_number" (Pr.top 24) u2_ 166) ::
(nat_lit 168,⟨.type "tuple",none,(.seq #[] 0),#[]⟩) ::
(nat_lit 171,oC "is_row" "is_row" 393 394 395 62 2 168 169 .none .none 170 396 397) ::
(nat_lit 172,oF "is_row" (Pr.top 25) u2_ 171) ::
(nat_lit 173,⟨.type "tuple",none,(.seq #[] 0),#[]⟩) ::
(nat_lit 176,oC "are_rows" "are_rows" 399 400 401 66 1 173 174 .none .none 175 402 403) ::
(nat_lit 177,oF "are_rows" (Pr.top 26) u2_ 176) ::
(nat_lit 178,⟨.type "tuple",none,(.seq #[] 0),#[]⟩) ::
(nat_lit 180,⟨.type "tuple",none,(.seq #[.str "thing" 408,.str "n" 409,.str "top" 410,.str "rows" 411] 0),#[]⟩) ::
(nat_lit 181,⟨.type "tuple",none,(.seq #[] 0),#[]⟩) ::
(nat_lit 183,oC "is_telling" "is_telling" 405 406 407 68 1 178 179 (.ref 180) (.ref 181) 182 412 413) ::
(nat_lit 184,oF "is_telling" (Pr.top 27) u2_ 183) ::
(nat_lit 185,⟨.type "tuple",none,(.seq #[] 0),#[]⟩) ::
(nat_lit 188,oC "is_shape" "is_shape" 415 416 417 75 1 185 186 .none .none 187 418 419) ::
(nat_lit 189,oF "is_shape" (Pr.top 28) u2_ 188) ::
(nat_lit 190,⟨.type "tuple",none,(.seq #[] 0),#[]⟩) ::
(nat_lit 192,⟨.type "tuple",none,(.seq #[.str "shape" 424] 0),#[]⟩) ::
(nat_lit 193,⟨.type "tuple",none,(.seq #[] 0),#[]⟩) ::
(nat_lit 195,oC "want_shape" "want_shape" 421 422 423 82 1 190 191 (.ref 192) (.ref 193) 194 425 426) ::
(nat_lit 196,oF "want_shape" (Pr.top 29) u2_ 195) ::
(nat_lit 197,⟨.type "tuple",none,(.seq #[] 0),#[]⟩) ::
(nat_lit 200,oC "count_leaves" "count_leaves" 432 433 434 87 2 197 198 .none .none 199 435 436) ::
(nat_lit 201,oF "count_leaves" (Pr.top 32) (.str "quarterfold.leaves" 428) 200) ::
(nat_lit 202,⟨.type "tuple",none,(.seq #[] 0),#[]⟩) ::
(nat_lit 204,⟨.type "tuple",none,(.seq #[.str "shape" 441,.str "most" 442] 0),#[]⟩) ::
(nat_lit 205,⟨.type "tuple",none,(.seq #[] 0),#[]⟩) ::
(nat_lit 207,oC "want_leaves" "want_leaves" 438 439 440 92 2 202 203 (.ref 204) (.ref 205) 206 443 444) ::
(nat_lit 208,oF "want_leaves" (Pr.top 33) (.str "quarterfold.leaves" 428) 207) ::
(nat_lit 209,⟨.type "tuple",none,(.seq #[] 0),#[]⟩) ::
(nat_lit 211,⟨.type "tuple",none,(.seq #[.str "shape" 449] 0),#[]⟩) ::
(nat_lit 212,⟨.type "tuple",none,(.seq #[] 0),#[]⟩) ::
(nat_lit 214,oC "want_coarse" "want_coarse" 446 447 448 95 1 209 210 (.ref 211) (.ref 212) 213 450 451) ::
(nat_lit 215,oF "want_coarse" (Pr.top 34) (.str "quarterfold.leaves" 428) 214) ::
(nat_lit 216,⟨.type "tuple",none,(.seq #[.int 2 458,.int 3 459] 0),#[]⟩) ::
(nat_lit 217,⟨.type "tuple",none,(.seq #[.int (-1) 456,.int 0 457,.ref 216] 0),#[]⟩) ::
(nat_lit 218,⟨.type "tuple",none,(.seq #[.int 0 462,.int 2 463] 0),#[]⟩) ::
(nat_lit 219,⟨.type "tuple",none,(.seq #[.int 0 460,.int 1 461,.ref 218] 0),#[]⟩) ::
(nat_lit 220,⟨.type "tuple",none,(.seq #[.int 0 466,.int 1 467] 0),#[]⟩) ::
(nat_lit 221,⟨.type "tuple",none,(.seq #[.int 1 464,.int 0 465,.ref 220] 0),#[]⟩) ::
(nat_lit 222,⟨.type "tuple",none,(.seq #[.int 1 471,.int 3 472] 0),#[]⟩) ::
(nat_lit 223,⟨.type "tuple",none,(.seq #[.int 0 468,.int (-1) 470,.ref 222] 0),#[]⟩) ::
(nat_lit 224,⟨.type "tuple",none,(.seq #[.ref 217,.ref 219,.ref 221,.ref 223] 0),#[]⟩) ::
(nat_lit 225,⟨.type "tuple",none,(.seq #[] 0),#[]⟩) ::
(nat_lit 227,⟨.type "tuple",none,(.seq #[.str "side" 477] 0),#[]⟩) ::
(nat_lit 228,⟨.type "tuple",none,(.seq #[] 0),#[]⟩) ::
(nat_lit 230,oC "want_side" "want_side" 474 475 476 99 1 225 226 (.ref 227) (.ref 228) 229 478 479) ::
(nat_lit 231,oF "want_side" (Pr.top 37) u4_ 230) ::
(nat_lit 232,⟨.type "tuple",none,(.seq #[] 0),#[]⟩) ::
(nat_lit 234,⟨.type "tuple",none,(.seq #[.str "rows" 484,.str "top" 485,.str "address" 486,.str "number" 487,.str "at" 488,.str "figure" 489] 0),#[]⟩) ::
(nat_lit 235,⟨.type "tuple",none,(.seq #[] 0),#[]⟩) ::
(nat_lit 237,oC "way_down" "way_down" 481 482 483 102 3 232 233 (.ref 234) (.ref 235) 236 490 491) ::
(nat_lit 238,oF "way_down" (Pr.top 38) u4_ 237) ::
(nat_lit 239,⟨.type "tuple",none,(.seq #[] 0),#[]⟩) ::
(nat_lit 241,⟨.type "tuple",none,(.seq #[.str "rows" 496,.str "number" 497,.str "address" 498,.str "along" 499,.str "addresses" 500,.str "at" 501] 0),#[]⟩) ::
(nat_lit 242,⟨.type "tuple",none,(.seq #[] 0),#[]⟩) ::
(nat_lit 244,oC "gather_along" "gather_along" 493 494 495 109 5 239 240 (.ref 241) (.ref 242) 243 502 503) ::
(nat_lit 245,oF "gather_along" (Pr.top 39) u4_ 244) ::
(nat_lit 246,⟨.type "tuple",none,(.seq #[] 0),#[]⟩) ::
(nat_lit 248,⟨.type "tuple",none,(.seq #[.str "shape" 508,.str "address" 509,.str "side" 510,.str "n" 511,.str "top" 512,.str "rows" 513,.str "down" 514,.str "right" 515,.str "along" 516,.str "row" 517,.str "column" 518,.str "cells" 519,.str "next_row" 520,.str "next_column" 521,.str "number" 522,.str "there" 523,.str "addresses" 524] 0),#[]⟩) ::
(nat_lit 249,⟨.type "tuple",none,(.seq #[] 0),#[]⟩) ::
(nat_lit 251,oC "leaves_beside" "leaves_beside" 505 506 507 115 3 246 247 (.ref 248) (.ref 249) 250 525 526) ::
(nat_lit 252,oF "leaves_beside" (Pr.top 40) u4_ 251) ::
(nat_lit 253,⟨.type "tuple",none,(.seq #[] 0),#[]⟩) ::
(nat_lit 255,⟨.type "tuple",none,(.seq #[.str "shape" 531,.str "address" 532,.str "side" 533] 0),#[]⟩) ::
(nat_lit 256,⟨.type "tuple",none,(.seq #[] 0),#[]⟩) ::
(nat_lit 258,oC "beside" "beside" 528 529 530 129 3 253 254 (.ref 255) (.ref 256) 257 534 535) ::
(nat_lit 259,oF "beside" (Pr.top 41) u4_ 258) ::
(nat_lit 260,⟨.type "tuple",none,(.seq #[] 0),#[]⟩) ::
(nat_lit 262,⟨.type "tuple",none,(.seq #[.str "_law_script" 542,.str "_law_k" 543,.str "_law_cell" 544] 0),#[]⟩) ::
(nat_lit 263,⟨.type "tuple",none,(.seq #[] 0),#[]⟩) ::
(nat_lit 265,oC "_law_pot" "_law_pot" 539 540 541 136 2 260 261 (.ref 262) (.ref 263) 264 545 546) ::
(nat_lit 266,oF "_law_pot" (Pr.top 43) u1_ 265) ::
(nat_lit 267,⟨.type "tuple",none,(.seq #[] 0),#[]⟩) ::
(nat_lit 269,⟨.type "tuple",none,(.seq #[.str "_law_pot_here" 551,.str "_law_many" 552,.str "_law_digit_here" 553] 0),#[]⟩) ::
(nat_lit 270,⟨.type "tuple",none,(.seq #[] 0),#[]⟩) ::
(nat_lit 272,oC "_law_digit" "_law_digit" 548 549 550 141 2 267 268 (.ref 269) (.ref 270) 271 554 555) ::
(nat_lit 273,oF "_law_digit" (Pr.top 44) u1_ 272) ::
(nat_lit 274,⟨.type "tuple",none,(.seq #[] 0),#[]⟩) ::
(nat_lit 277,oC "_law_cells" "_law_cells" 557 558 559 148 2 274 275 .none .none 276 560 561) ::
(nat_lit 278,oF "_law_cells" (Pr.top 45) u1_ 277) ::
(nat_lit 279,⟨.type "tuple",none,(.seq #[] 0),#[]⟩) ::
(nat_lit 281,⟨.type "tuple",none,(.seq #[.str "_law_pot_here" 566,.str "_law_n" 567,.str "_law_most" 568,.str "_law_side" 569,.str "_law_size" 570,.str "_law_row" 571,.str "_law_column" 572,.str "_law_high" 573,.str "_law_wide" 574] 0),#[]⟩) ::
(nat_lit 282,⟨.type "tuple",none,(.seq #[] 0),#[]⟩) ::
(nat_lit 284,oC "_law_box" "_law_box" 563 564 565 151 3 279 280 (.ref 281) (.ref 282) 283 575 576) ::
(nat_lit 285,oF "_law_box" (Pr.top 46) u1_ 284) ::
(nat_lit 286,⟨.type "tuple",none,(.seq #[] 0),#[]⟩) ::
(nat_lit 289,oC "_law_boxes" "_law_boxes" 578 579 580 163 2 286 287 .none .none 288 581 582) ::
(nat_lit 290,oF "_law_boxes" (Pr.top 47) u1_ 289) ::
(nat_lit 291,⟨.type "tuple",none,(.seq #[] 0),#[]⟩) ::
(nat_lit 293,⟨.type "tuple",none,(.seq #[.str "_law_box_here" 587,.str "_law_row" 588,.str "_law_column" 589,.str "_law_side" 590] 0),#[]⟩) ::
(nat_lit 294,⟨.type "tuple",none,(.seq #[] 0),#[]⟩) ::
(nat_lit 296,oC "_law_meets" "_law_meets" 584 585 586 167 4 291 292 (.ref 293) (.ref 294) 295 591 592) ::
(nat_lit 297,oF "_law_meets" (Pr.top 48) u1_ 296) ::
(nat_lit 298,⟨.type "tuple",none,(.seq #[] 0),#[]⟩) ::
(nat_lit 300,⟨.type "tuple",none,(.seq #[.str "_law_box_here" 597,.str "_law_row" 598,.str "_law_column" 599,.str "_law_side" 600] 0),#[]⟩) ::
(nat_lit 301,⟨.type "tuple",none,(.seq #[] 0),#[]⟩) ::
(nat_lit 303,oC "_law_has" "_law_has" 594 595 596 171 4 298 299 (.ref 300) (.ref 301) 302 601 602) ::
(nat_lit 304,oF "_law_has" (Pr.top 49) u1_ 303) ::
(nat_lit 305,⟨.type "tuple",none,(.seq #[] 0),#[]⟩) ::
(nat_lit 308,oC "_law_number" "_law_number" 604 605 606 175 5 305 306 .none .none 307 607 608) ::
(nat_lit 309,oF "_law_number" (Pr.top 50) u1_ 308) ::
(nat_lit 310,⟨.type "tuple",none,(.seq #[] 0),#[]⟩) ::
(nat_lit 312,⟨.type "tuple",none,(.seq #[.str "_law_n" 613,.str "_law_boxes_here" 614,.str "_law_rows" 615,.str "_law_top" 616] 0),#[]⟩) ::
(nat_lit 313,⟨.type "tuple",none,(.seq #[] 0),#[]⟩) ::
(nat_lit 315,oC "_law_shape" "_law_shape" 610 611 612 186 2 310 311 (.ref 312) (.ref 313) 314 617 618) ::
(nat_lit 316,oF "_law_shape" (Pr.top 51) u1_ 315) ::
(nat_lit 317,⟨.type "tuple",none,(.seq #[] 0),#[]⟩) ::
(nat_lit 319,⟨.type "tuple",none,(.seq #[.str "_law_told" 623,.str "_law_row" 624,.str "_law_column" 625,.str "_law_n" 626,.str "_law_number_here" 627,.str "_law_rows" 628,.str "_law_address_here" 629,.str "_law_k" 630,.str "_law_quarter" 631] 0),#[]⟩) ::
(nat_lit 320,⟨.type "tuple",none,(.seq #[] 0),#[]⟩) ::
(nat_lit 322,oC "_law_leaf" "_law_leaf" 620 621 622 190 3 317 318 (.ref 319) (.ref 320) 321 632 633) ::
(nat_lit 323,oF "_law_leaf" (Pr.top 52) u1_ 322) ::
(nat_lit 324,⟨.type "tuple",none,(.seq #[] 0),#[]⟩) ::
(nat_lit 326,⟨.type "tuple",none,(.seq #[.str "_law_n" 638,.str "_law_address_here" 639,.str "_law_row" 640,.str "_law_column" 641,.str "_law_side" 642,.str "_law_figure" 643] 0),#[]⟩) ::
(nat_lit 327,⟨.type "tuple",none,(.seq #[] 0),#[]⟩) ::
(nat_lit 329,oC "_law_square" "_law_square" 635 636 637 199 2 324 325 (.ref 326) (.ref 327) 328 644 645) ::
(nat_lit 330,oF "_law_square" (Pr.top 53) u1_ 329) ::
(nat_lit 331,⟨.type "tuple",none,(.seq #[] 0),#[]⟩) ::
(nat_lit 333,⟨.type "tuple",none,(.seq #[.str "_law_pot_here" 650,.str "_law_boxes_here" 651,.str "_law_n" 652,.str "_law_row" 653,.str "_law_column" 654,.str "_law_box_here" 655] 0),#[]⟩) ::
(nat_lit 334,⟨.type "tuple",none,(.seq #[] 0),#[]⟩) ::
(nat_lit 336,oC "_law_near_box" "_law_near_box" 647 648 649 208 3 331 332 (.ref 333) (.ref 334) 335 656 657) ::
(nat_lit 337,oF "_law_near_box" (Pr.top 54) u1_ 336) ::
(nat_lit 338,⟨.type "tuple",none,(.seq #[] 0),#[]⟩) ::
(nat_lit 341,oC "_law_address" "_law_address" 659 660 661 216 3 338 339 .none .none 340 662 663) ::
(nat_lit 342,oF "_law_address" (Pr.top 55) u1_ 341) ::
(nat_lit 343,⟨.type "tuple",none,(.seq #[] 0),#[]⟩) ::
(nat_lit 345,⟨.type "tuple",none,(.seq #[.str "_law_told" 668,.str "_law_address_here" 669,.str "_law_side" 670,.str "_law_row" 671,.str "_law_column" 672,.str "_law_many" 673,.str "_law_down" 674,.str "_law_right" 675,.str "_law_due_here" 676,.str "_law_place" 677,.str "_law_leaf_here" 678,.str "_law_number_here" 679,.str "_law_first" 680,.str "_law_left" 681,.str "_law_wide" 682] 0),#[]⟩) ::
(nat_lit 346,⟨.type "tuple",none,(.seq #[] 0),#[]⟩) ::
(nat_lit 348,oC "_law_due" "_law_due" 665 666 667 220 3 343 344 (.ref 345) (.ref 346) 347 683 684) ::
(nat_lit 349,oF "_law_due" (Pr.top 56) u1_ 348) ::
(nat_lit 350,⟨.type "tuple",none,(.seq #[] 0),#[]⟩) ::
(nat_lit 352,⟨.type "tuple",none,(.seq #[.str "_law_script" 689,.str "_law_k" 690,.str "_law_pot_here" 691,.str "_law_n" 692,.str "_law_boxes_here" 693,.str "_law_told" 694,.str "_law_turn" 695,.str "_law_address_here" 696,.str "_law_side" 697,.str "_law_due_here" 698,.str "_law_some" 699] 0),#[]⟩) ::
(nat_lit 353,⟨.type "tuple",none,(.seq #[] 0),#[]⟩) ::
(nat_lit 355,oC "law" "law" 686 687 688 236 1 350 351 (.ref 352) (.ref 353) 354 700 701) ::
(nat_lit 356,oF "law" (Pr.top 57) u1_ 355)::[]
def as0:List Addr:=[2,3,15,22,23,24,25,28,35,36,37,40,47,48,49,52,59,60,61,64,71,72,73,76,78,79,81,82,83,85,86,88,89,90,93,94,95,97,98,100,101,102,104,105,107,108,109,111,112,114,115,116,119,120,121,123,124,126,127,128,130,131,133,134,135,137,138,140,141,142,144,145,147,148,149,151,152,154,155,156,159,160,161,163,164,166,167,168,171,172,173,176,177,178,180,181,183,184,185,188,189,190,192,193,195,196,197,200,201,202,204,205,207,208,209,211,212,214,215,216,217,218,219,220,221,222,223,224,225,227,228,230,231,232,234,235,237,238,239,241,242,244,245,246,248,249,251,252,253,255,256,258,259,260,262,263,265,266,267,269,270,272,273,274,277,278,279,281,282,284,285,286,289,290,291,293,294,296,297,298,300,301,303,304,305,308,309,310,312,313,315,316,317,319,320,322,323,324,326,327,329,330,331,333,334,336,337,338,341,342,343,345,346,348,349,350,352,353,355,356]
def keep0:List Nat:=[1,2,3,4,5,7,8,9,10,11,12,14,15,16,17,18,19,20,21,22,24,25,26,27,28,29,31,32,33,34,36,37,38,39,40,41,43,44,45,46,47,48,49,50,51,52,53,54,55,56,57]
def N0:Nat:=5080
noncomputable def bx (P:Params) (a t l:Nat) (x:Str):List Obj:=[⟨.type "tuple",none,(.seq #[.ref 24] 0),#[]⟩,
⟨.type "builtin_function_or_method",none,(.fields #[.builtin "type.__prepare__",.type "type"]),#[]⟩,
⟨.type "dict",none,(.dict #[⟨kh P "__module__",.str "__module__" (t+7),.str "quarterfold.errors" 187⟩,⟨kh P "__qualname__",.str "__qualname__" (t+9),.str x (t+8)⟩,⟨kh P "__firstlineno__",.str "__firstlineno__" (t+11),.int l (t+10)⟩,⟨kh P "__static_attributes__",.str "__static_attributes__" (t+12),.ref (a+7)⟩] 4),#[]⟩,
⟨.type "tuple",none,(.seq #[] 0),#[]⟩,
⟨.none,none,(.fields #[]),#[]⟩,
⟨.type "code",none,(.fields #[.str x (t+2),.str x (t+3),.str "/claim/cut.py" (t+4),.int l 0,.int 0 0,.int 0 0,.int 0 0,.int 0 0,.ref (a+3),.bool false,.int 181 0,.ref (a+4),.none,.none,.none,.none,.int (t+5) 0,.int l 0,.str "/claim/cut.py" (t+6)]),#[]⟩,
⟨.type "frame",none,.plain,#[some (.ref (a+5)),some (.ref 3),some (.ref (a+2)),none,some (.str "quarterfold.errors" 187),none,some (.ref 0)]⟩,
⟨.type "tuple",none,(.seq #[] 0),#[]⟩,
⟨.type "dict",none,(.dict #[⟨kh P "__module__",.str "__module__" (t+7),.str "quarterfold.errors" 187⟩,⟨kh P "__firstlineno__",.str "__firstlineno__" (t+11),.int l (t+10)⟩,⟨kh P "__static_attributes__",.str "__static_attributes__" (t+12),.ref (a+7)⟩,⟨kh P "__doc__",.str "__doc__" (t+13),.none⟩] 2),#[]⟩,
⟨.type "type",none,(.cls ⟨x,[.ref 24],[.ref (a+9),.ref 24,.type "ValueError",.type "Exception",.type "BaseException",.type "object"],(a+8),x,true,[],[],false,none,false⟩),#[some (.ref a),none,some (.str x t),some (.str x (t+8)),some (.builtin "ValueError.__new__"),some (.bool true)]⟩,
⟨.type "super",none,(.fields #[.ref (a+9),.ref (a+9),.ref (a+9)]),#[]⟩,
⟨.type "builtin_function_or_method",none,(.fields #[.builtin "object.__init_subclass__",.ref (a+9)]),#[]⟩]
noncomputable def ob (P:Params):List Obj:=[boot_o_0 P,boot_o_1 P,boot_o_2 P,⟨.type "dict",none,(.dict #[⟨kh P "__name__",.str "__name__" 165,.str "quarterfold.leaves" 428⟩,⟨kh P "__doc__",.str "__doc__" 166,.none⟩,⟨kh P "__package__",.str "__package__" 167,.none⟩,⟨kh P "__loader__",.str "__loader__" 168,.builtin "__main__.__loader__#opaque"⟩,⟨kh P "__spec__",.str "__spec__" 169,.none⟩,⟨kh P "__annotations__",.str "__annotations__" 170,.ref 6⟩,⟨kh P "__builtins__",.str "__builtins__" 171,.ref 4⟩,⟨kh P "__file__",.str "__file__" 173,.str "/claim/cut.py" 172⟩,⟨kh P "__cached__",.str "__cached__" 174,.none⟩,⟨kh P "FloorError",.str "FloorError" 206,.ref 24⟩,⟨kh P "NoAddress",.str "NoAddress" 222,.ref 37⟩,⟨kh P "NoShape",.str "NoShape" 238,.ref 49⟩,⟨kh P "TooMany",.str "TooMany" 254,.ref 61⟩,⟨kh P "NoSide",.str "NoSide" 270,.ref 73⟩,⟨kh P "FIRST",.str "FIRST" 274,.int 2 273⟩,⟨kh P "is_whole",.str "is_whole" 281,.ref 82⟩,⟨kh P "is_plain",.str "is_plain" 288,.ref 89⟩,⟨kh P "depths_of",.str "depths_of" 294,.ref 94⟩,⟨kh P "end_rows",.str "end_rows" 304,.ref 101⟩,⟨kh P "places_as_ended",.str "places_as_ended" 313,.ref 108⟩,⟨kh P "GREATEST_SIZE",.str "GREATEST_SIZE" 317,.int 12 316⟩,⟨kh P "is_size",.str "is_size" 324,.ref 115⟩,⟨kh P "is_address",.str "is_address" 330,.ref 120⟩,⟨kh P "is_cell",.str "is_cell" 340,.ref 127⟩,⟨kh P "want_address",.str "want_address" 348,.ref 134⟩,⟨kh P "side_of",.str "side_of" 355,.ref 141⟩,⟨kh P "quarter_of",.str "quarter_of" 364,.ref 148⟩,⟨kh P "box_at",.str "box_at" 376,.ref 155⟩,⟨kh P "address_at",.str "address_at" 382,.ref 160⟩,⟨kh P "is_number",.str "is_number" 392,.ref 167⟩,⟨kh P "is_row",.str "is_row" 398,.ref 172⟩,⟨kh P "are_rows",.str "are_rows" 404,.ref 177⟩,⟨kh P "is_telling",.str "is_telling" 414,.ref 184⟩,⟨kh P "is_shape",.str "is_shape" 420,.ref 189⟩,⟨kh P "want_shape",.str "want_shape" 427,.ref 196⟩] 35),#[]⟩,boot_o_4 P,boot_o_5 P,boot_o_6 P,boot_o_7 P,boot_o_8 P,boot_o_9 P,boot_o_10 P,⟨.type "tuple",none,(.seq #[] 0),#[]⟩,⟨.none,none,(.fields #[.int 2 0,.int 0 0,.ref 20,.int 4 0,.int 0 0,.ref 33,.int 6 0,.int 0 0,.ref 45,.int 8 0,.int 0 0,.ref 57,.int 10 0,.int 0 0,.ref 69,.int 14 0,.int 0 0,.ref 81,.int 16 0,.int 0 0,.ref 88,.int 18 0,.int 0 0,.ref 93,.int 23 0,.int 0 0,.ref 100,.int 29 0,.int 0 0,.ref 107,.int 35 0,.int 0 0,.ref 114,.int 37 0,.int 0 0,.ref 119,.int 39 0,.int 0 0,.ref 126,.int 42 0,.int 0 0,.ref 133,.int 45 0,.int 0 0,.ref 140,.int 47 0,.int 0 0,.ref 147,.int 49 0,.int 0 0,.ref 154,.int 57 0,.int 0 0,.ref 159,.int 60 0,.int 0 0,.ref 166,.int 62 0,.int 0 0,.ref 171,.int 66 0,.int 0 0,.ref 176,.int 68 0,.int 0 0,.ref 183,.int 75 0,.int 0 0,.ref 188,.int 82 0,.int 0 0,.ref 195]),#[]⟩,⟨.type "code",none,(.fields #[.str "<module>" 182,.str "<module>" 183,.str "/claim/cut.py" 184,.int 1 0,.int 0 0,.int 0 0,.int 0 0,.int 0 0,.ref 11,.bool false,.int 181 0,.ref 12,.none,.none,.none,.none,.int 185 0,.int 1 0,.str "/claim/cut.py" 186]),#[]⟩,⟨.type "frame",none,.plain,#[some (.ref 13),some (.ref 3),some (.ref 3),none,some (.str "__main__" 164),none,some (.ref 0)]⟩,⟨.type "tuple",none,(.seq #[.type "ValueError"] 0),#[]⟩,⟨.type "builtin_function_or_method",none,(.fields #[.builtin "type.__prepare__",.type "type"]),#[]⟩,⟨.type "dict",none,(.dict #[⟨kh P "__module__",.str "__module__" 196,.str "quarterfold.errors" 187⟩,⟨kh P "__qualname__",.str "__qualname__" 198,.str "FloorError" 197⟩,⟨kh P "__firstlineno__",.str "__firstlineno__" 200,.int 2 199⟩,⟨kh P "__static_attributes__",.str "__static_attributes__" 201,.ref 22⟩] 4),#[]⟩,⟨.type "tuple",none,(.seq #[] 0),#[]⟩,⟨.none,none,(.fields #[]),#[]⟩,⟨.type "code",none,(.fields #[.str "FloorError" 191,.str "FloorError" 192,.str "/claim/cut.py" 193,.int 2 0,.int 0 0,.int 0 0,.int 0 0,.int 0 0,.ref 18,.bool false,.int 181 0,.ref 19,.none,.none,.none,.none,.int 194 0,.int 2 0,.str "/claim/cut.py" 195]),#[]⟩,⟨.type "frame",none,.plain,#[some (.ref 20),some (.ref 3),some (.ref 17),none,some (.str "quarterfold.errors" 187),none,some (.ref 0)]⟩,⟨.type "tuple",none,(.seq #[] 0),#[]⟩,⟨.type "dict",none,(.dict #[⟨kh P "__module__",.str "__module__" 196,.str "quarterfold.errors" 187⟩,⟨kh P "__firstlineno__",.str "__firstlineno__" 200,.int 2 199⟩,⟨kh P "__static_attributes__",.str "__static_attributes__" 201,.ref 22⟩,⟨kh P "__weakref__",.str "__weakref__" 203,.ref 25⟩,⟨kh P "__doc__",.str "__doc__" 204,.none⟩] 3),#[]⟩,⟨.type "type",none,(.cls ⟨"FloorError",[.type "ValueError"],[.ref 24,.type "ValueError",.type "Exception",.type "BaseException",.type "object"],23, "FloorError",true,[],[.ref 37,.ref 49,.ref 61,.ref 73],false,none,false⟩),#[some (.ref 15),none,some (.str "FloorError" 189),some (.str "FloorError" 197),some (.builtin "ValueError.__new__"),some (.bool true)]⟩,⟨.type "getset_descriptor",none,(.fields #[.str "__weakref__" 202,.ref 24,.builtin "ExceptionGroup.__weakref__",.none]),#[]⟩,⟨.type "super",none,(.fields #[.ref 24,.ref 24,.ref 24]),#[]⟩,⟨.type "builtin_function_or_method",none,(.fields #[.builtin "object.__init_subclass__",.ref 24]),#[]⟩]++(bx P 28 207 4 "NoAddress" ++ (bx P 40 223 6 "NoShape" ++ (bx P 52 239 8 "TooMany" ++ (bx P 64 255 10 "NoSide" ++ ([⟨.type "tuple",none,(.seq #[] 0),#[]⟩,⟨.none,none,(.fields #[]),#[]⟩,⟨.type "tuple",none,(.seq #[.str "thing" 278] 0),#[]⟩,⟨.type "tuple",none,(.seq #[] 0),#[]⟩,oT "is_whole" "is_whole" (Pr.top 8),oC "is_whole" "is_whole" 275 276 277 14 1 76 77 (.ref 78) (.ref 79) 80 279 280,oF "is_whole" (Pr.top 8) u3_ 81,⟨.type "tuple",none,(.seq #[] 0),#[]⟩,⟨.none,none,(.fields #[]),#[]⟩,⟨.type "tuple",none,(.seq #[.str "row" 285] 0),#[]⟩,⟨.type "tuple",none,(.seq #[] 0),#[]⟩,oT "is_plain" "is_plain" (Pr.top 9),oC "is_plain" "is_plain" 282 283 284 16 1 83 84 (.ref 85) (.ref 86) 87 286 287,oF "is_plain" (Pr.top 9) u3_ 88,⟨.type "tuple",none,(.seq #[] 0),#[]⟩,⟨.none,none,(.fields #[]),#[]⟩,oT "depths_of" "depths_of" (Pr.top 10),oC "depths_of" "depths_of" 289 290 291 18 1 90 91 .none .none 92 292 293,oF "depths_of" (Pr.top 10) u3_ 93,⟨.type "tuple",none,(.seq #[] 0),#[]⟩,⟨.none,none,(.fields #[]),#[]⟩,⟨.type "tuple",none,(.seq #[.str "rows" 298,.str "number" 299,.str "ended" 300,.str "quarter" 301] 0),#[]⟩,⟨.type "tuple",none,(.seq #[] 0),#[]⟩,oT "end_rows" "end_rows" (Pr.top 11),oC "end_rows" "end_rows" 295 296 297 23 3 95 96 (.ref 97) (.ref 98) 99 302 303,oF "end_rows" (Pr.top 11) u3_ 100,⟨.type "tuple",none,(.seq #[] 0),#[]⟩,⟨.none,none,(.fields #[]),#[]⟩,⟨.type "tuple",none,(.seq #[.str "rows" 308,.str "top" 309,.str "ended" 310] 0),#[]⟩,⟨.type "tuple",none,(.seq #[] 0),#[]⟩,oT "places_as_ended" "places_as_ended" (Pr.top 12),oC "places_as_ended" "places_as_ended" 305 306 307 29 2 102 103 (.ref 104) (.ref 105) 106 311 312,oF "places_as_ended" (Pr.top 12) u3_ 107,⟨.type "tuple",none,(.seq #[] 0),#[]⟩,⟨.none,none,(.fields #[]),#[]⟩,⟨.type "tuple",none,(.seq #[.str "thing" 321] 0),#[]⟩,⟨.type "tuple",none,(.seq #[] 0),#[]⟩,oT "is_size" "is_size" (Pr.top 15),oC "is_size" "is_size" 318 319 320 35 1 109 110 (.ref 111) (.ref 112) 113 322 323,oF "is_size" (Pr.top 15) u0_ 114,⟨.type "tuple",none,(.seq #[] 0),#[]⟩,⟨.none,none,(.fields #[]),#[]⟩,oT "is_address" "is_address" (Pr.top 16),oC "is_address" "is_address" 325 326 327 37 2 116 117 .none .none 118 328 329,oF "is_address" (Pr.top 16) u0_ 119,⟨.type "tuple",none,(.seq #[] 0),#[]⟩,⟨.none,none,(.fields #[]),#[]⟩,⟨.type "tuple",none,(.seq #[.str "n" 334,.str "row" 335,.str "column" 336,.str "side" 337] 0),#[]⟩,⟨.type "tuple",none,(.seq #[] 0),#[]⟩,oT "is_cell" "is_cell" (Pr.top 17),oC "is_cell" "is_cell" 331 332 333 39 3 121 122 (.ref 123) (.ref 124) 125 338 339,oF "is_cell" (Pr.top 17) u0_ 126,⟨.type "tuple",none,(.seq #[] 0),#[]⟩,⟨.none,none,(.fields #[]),#[]⟩,⟨.type "tuple",none,(.seq #[.str "n" 344,.str "address" 345] 0),#[]⟩,⟨.type "tuple",none,(.seq #[] 0),#[]⟩,oT "want_address" "want_address" (Pr.top 18),oC "want_address" "want_address" 341 342 343 42 2 128 129 (.ref 130) (.ref 131) 132 346 347,oF "want_address" (Pr.top 18) u0_ 133,⟨.type "tuple",none,(.seq #[] 0),#[]⟩,⟨.none,none,(.fields #[]),#[]⟩,⟨.type "tuple",none,(.seq #[.str "n" 352] 0),#[]⟩,⟨.type "tuple",none,(.seq #[] 0),#[]⟩,oT "side_of" "side_of" (Pr.top 19),oC "side_of" "side_of" 349 350 351 45 1 135 136 (.ref 137) (.ref 138) 139 353 354,oF "side_of" (Pr.top 19) u0_ 140,⟨.type "tuple",none,(.seq #[] 0),#[]⟩,⟨.none,none,(.fields #[]),#[]⟩,⟨.type "tuple",none,(.seq #[.str "row" 359,.str "column" 360,.str "k" 361] 0),#[]⟩,⟨.type "tuple",none,(.seq #[] 0),#[]⟩,oT "quarter_of" "quarter_of" (Pr.top 20),oC "quarter_of" "quarter_of" 356 357 358 47 3 142 143 (.ref 144) (.ref 145) 146 362 363,oF "quarter_of" (Pr.top 20) u0_ 147,⟨.type "tuple",none,(.seq #[] 0),#[]⟩,⟨.none,none,(.fields #[]),#[]⟩,⟨.type "tuple",none,(.seq #[.str "n" 368,.str "address" 369,.str "row" 370,.str "column" 371,.str "side" 372,.str "figure" 373] 0),#[]⟩,⟨.type "tuple",none,(.seq #[] 0),#[]⟩,oT "box_at" "box_at" (Pr.top 21),oC "box_at" "box_at" 365 366 367 49 2 149 150 (.ref 151) (.ref 152) 153 374 375,oF "box_at" (Pr.top 21) u0_ 154,⟨.type "tuple",none,(.seq #[] 0),#[]⟩,⟨.none,none,(.fields #[]),#[]⟩,oT "address_at" "address_at" (Pr.top 22),oC "address_at" "address_at" 377 378 379 57 4 156 157 .none .none 158 380 381,oF "address_at" (Pr.top 22) u0_ 159,⟨.type "tuple",none,(.seq #[] 0),#[]⟩,⟨.none,none,(.fields #[]),#[]⟩,⟨.type "tuple",none,(.seq #[.str "thing" 388,.str "many" 389] 0),#[]⟩,⟨.type "tuple",none,(.seq #[] 0),#[]⟩,oT "is_number" "is_number" (Pr.top 24),oC "is_number" "is_number" 385 386 387 60 2 161 162 (.ref 163) (.ref 164) 165 390 391,oF "is_number" (Pr.top 24) u2_ 166,⟨.type "tuple",none,(.seq #[] 0),#[]⟩,⟨.none,none,(.fields #[]),#[]⟩,oT "is_row" "is_row" (Pr.top 25),oC "is_row" "is_row" 393 394 395 62 2 168 169 .none .none 170 396 397,oF "is_row" (Pr.top 25) u2_ 171,⟨.type "tuple",none,(.seq #[] 0),#[]⟩,⟨.none,none,(.fields #[]),#[]⟩,oT "are_rows" "are_rows" (Pr.top 26),oC "are_rows" "are_rows" 399 400 401 66 1 173 174 .none .none 175 402 403,oF "are_rows" (Pr.top 26) u2_ 176,⟨.type "tuple",none,(.seq #[] 0),#[]⟩,⟨.none,none,(.fields #[]),#[]⟩,⟨.type "tuple",none,(.seq #[.str "thing" 408,.str "n" 409,.str "top" 410,.str "rows" 411] 0),#[]⟩,⟨.type "tuple",none,(.seq #[] 0),#[]⟩,oT "is_telling" "is_telling" (Pr.top 27),oC "is_telling" "is_telling" 405 406 407 68 1 178 179 (.ref 180) (.ref 181) 182 412 413,oF "is_telling" (Pr.top 27) u2_ 183,⟨.type "tuple",none,(.seq #[] 0),#[]⟩,⟨.none,none,(.fields #[]),#[]⟩,oT "is_shape" "is_shape" (Pr.top 28),oC "is_shape" "is_shape" 415 416 417 75 1 185 186 .none .none 187 418 419,oF "is_shape" (Pr.top 28) u2_ 188,⟨.type "tuple",none,(.seq #[] 0),#[]⟩,⟨.none,none,(.fields #[]),#[]⟩,⟨.type "tuple",none,(.seq #[.str "shape" 424] 0),#[]⟩,⟨.type "tuple",none,(.seq #[] 0),#[]⟩,oT "want_shape" "want_shape" (Pr.top 29),oC "want_shape" "want_shape" 421 422 423 82 1 190 191 (.ref 192) (.ref 193) 194 425 426,oF "want_shape" (Pr.top 29) u2_ 195])))))
noncomputable def hA (P:Params):Heap:=⟨⟨((((ob P).take 15).set 3 (boot_o_3 P)).set 12 (⟨.none,none,(.fields #[]),#[]⟩))⟩,(boot_heap P).life⟩
noncomputable def h1 (P:Params):Heap:=⟨⟨((((ob P).take 83).set 3 (⟨.type "dict",none,(.dict #[⟨kh P "__name__",.str "__name__" 165,.str "quarterfold.rows" 271⟩,⟨kh P "__doc__",.str "__doc__" 166,.none⟩,⟨kh P "__package__",.str "__package__" 167,.none⟩,⟨kh P "__loader__",.str "__loader__" 168,.builtin "__main__.__loader__#opaque"⟩,⟨kh P "__spec__",.str "__spec__" 169,.none⟩,⟨kh P "__annotations__",.str "__annotations__" 170,.ref 6⟩,⟨kh P "__builtins__",.str "__builtins__" 171,.ref 4⟩,⟨kh P "__file__",.str "__file__" 173,.str "/claim/cut.py" 172⟩,⟨kh P "__cached__",.str "__cached__" 174,.none⟩,⟨kh P "FloorError",.str "FloorError" 206,.ref 24⟩,⟨kh P "NoAddress",.str "NoAddress" 222,.ref 37⟩,⟨kh P "NoShape",.str "NoShape" 238,.ref 49⟩,⟨kh P "TooMany",.str "TooMany" 254,.ref 61⟩,⟨kh P "NoSide",.str "NoSide" 270,.ref 73⟩,⟨kh P "FIRST",.str "FIRST" 274,.int 2 273⟩,⟨kh P "is_whole",.str "is_whole" 281,.ref 82⟩] 16),#[]⟩)).set 12 (⟨.none,none,(.fields #[.int 2 0,.int 0 0,.ref 20,.int 4 0,.int 0 0,.ref 33,.int 6 0,.int 0 0,.ref 45,.int 8 0,.int 0 0,.ref 57,.int 10 0,.int 0 0,.ref 69,.int 14 0,.int 0 0,.ref 81]),#[]⟩))⟩,(boot_heap P).life⟩
noncomputable def h2 (P:Params):Heap:=⟨⟨(ob P)⟩,(boot_heap P).life⟩
noncomputable def bd:List Stmt:=behindTheImports pw
noncomputable def ev:Env:={ scope:=pw.main.scope,locals:=mainNs,globals:=mainNs,cells:=[],code:=.ref 13,frame:=some 14 }
noncomputable def cE:Code:=.body bd ev
noncomputable abbrev sh (h:Params->Heap) (k:Nat) (w:World) (os:OsState):Shared:=⟨h w.params,Array.mk [],boot_drawn,k,os⟩
noncomputable abbrev fr:List Frame:=[topFrame ⟨0,0,0,0⟩]
theorem pre0 (w:World) (os:OsState):topGo treeTable pw w 11 (some (.ref 6)) 12 (sh boot_heap boot_toks w os) (topStub pw)=some (sh hA 187 w os,⟨denote treeTable cE,cE,⟨0,0,0,0⟩,fr⟩):=by kernel_rfl
theorem blk0 (w:World) (os:OsState):segRun treeTable pw w 11 (some (.ref 6)) 1 1 (sh hA 187 w os) (blockOf bd ev cE ⟨0,0,0,0⟩ fr)=some (.next,sh hA 187 w os,cE,⟨0,0,0,0⟩):=by kernel_rfl
theorem piece_split {tb:String->Option Builtin}{p:Program}{w:World}{n₀:Nat}{ann:Option Value}{env:Env}{q:Pos}{n N j:Nat}{s s' r:Shared}{l:List Stmt}{c:Code}{pos p':Pos}(h:segRun tb p w n₀ ann 1 n s (piecesOf (l.take j) env c pos [topFrame q])=some (.next,s',c,p'))
  (k:topRun tb p w n₀ ann N s' (restOf (l.drop j) env c p' [topFrame q])=some r):topRun tb p w n₀ ann (n+N) s (restOf l env c pos [topFrame q])=some r:=by
 have:=piece_app (l:=l.take j) (rest:=l.drop j) h k
 rwa [List.take_append_drop] at this
theorem left_mid {p q:Program}{loose:List Str}{Xt:Shared->Bool}{α:Type}{Yf:Shared->α}{Ya:World->α}{N:Nat}{g0:Bool}{H₀:Params->Heap}{gs₀:Array GenState}{d₀:Drawn}{k₀ m₀ M N2:Nat}{ann:Option Value}{Z:World->OsState->Shared}{T:Thread}
  (open_:∀w:World,(fencedOpening treeTable p w N).map (λs=>(s.heap,s.gens,s.drawn,s.toks))=some (H₀ w.params,gs₀,d₀,k₀))
  (size:∀w:World,((H₀ w.params).isNs mainGlobals&&gs₀.size==0,(H₀ w.params).objs.size,(H₀ w.params).nsMap mainGlobals "__annotations__")=(true,m₀,ann))
  (run:∀(w:World) (os:OsState) (r:Shared),topRun treeTable p w m₀ ann N2 (Z w os) T=some r->topRun treeTable p w m₀ ann M ⟨H₀ w.params,gs₀,d₀,k₀,os⟩ (topStub p)=some r) (le:Nat.ble M N=true)
  (fin:∀(w:World) (os:OsState),(topRun treeTable p w m₀ ann N2 (Z w os) T).map (λs=>(staticsOk (importedModules p.main.body) (H₀ w.params) s.heap&&namesBound p s.heap&&gensDone s&&laidKept (H₀ w.params) s.heap,openSeen q loose (importedModules p.main.body) Xt g0 s,Yf s))=some (true,openGood q loose,Ya w)):LeftO p q loose Xt Yf Ya N g0:=λw=>by
 obtain⟨⟨h,gs,d,k,os⟩,e,e'⟩:=Option.map_eq_some_iff.mp (open_ w)
 obtain⟨rfl,rfl,rfl,rfl⟩:h=H₀ w.params/\gs=gs₀/\d=d₀/\k=k₀:=by simpa using e'
 obtain⟨z1,z2,z3⟩:_/\_/\_:=by simpa only [Prod.mk.injEq] using size w
 obtain⟨r,hr,e2⟩:=Option.map_eq_some_iff.mp (fin w os)
 obtain⟨l1,l2,l3⟩:_/\_/\_:=by simpa only [Prod.mk.injEq] using e2
 have r1:=topRun_mono (N-M) _ _ _ _ (run w os r hr)
 rw[show M+(N-M)=N by have:=Nat.le_of_ble_eq_true le;lia] at r1
 have t:topFrom treeTable p w N ⟨H₀ w.params,gs,d,k,os⟩=some r:=by
  unfold topFrom
  dsimp only
  rw[z1,z2,z3,r1]
  show (match staticsOk (importedModules p.main.body) (H₀ w.params) r.heap&&namesBound p r.heap&&gensDone r&&laidKept (H₀ w.params) r.heap with|true=>_|false=>_)=_
  rw[l1]
 unfold openEnds
 rw[e]
 show (topFrom treeTable p w N ⟨H₀ w.params,gs,d,k,os⟩).map _=_
 rw[t]
 show some (_,_)=some (_,_)
 rw[l2,l3]
theorem seg1 (w:World) (os:OsState):segRun treeTable pw w 11 (some (.ref 6)) 1 1144 (sh hA 187 w os) (piecesOf (bd.take 9) ev cE ⟨0,0,0,0⟩ fr)=some (.next,sh h1 282 w os,cE,⟨14,0,15,67⟩):=by kernel_rfl
theorem seg2 (w:World) (os:OsState):segRun treeTable pw w 11 (some (.ref 6)) 1 610 (sh h1 282 w os) (piecesOf ((bd.drop 9).take 22) ev cE ⟨14,0,15,67⟩ fr)=some (.next,sh h2 430 w os,cE,⟨85,0,85,8⟩):=by kernel_rfl
theorem run0 (w:World) (os:OsState) (r:Shared) (h:topRun treeTable pw w 11 (some (.ref 6)) 884 (sh h2 430 w os) (restOf ((bd.drop 9).drop 22) ev cE ⟨85,0,85,8⟩ fr)=some r):topRun treeTable pw w 11 (some (.ref 6)) (12+(1+(1144+(610+884)))) (sh boot_heap boot_toks w os) (topStub pw)=some r:=go_top (pre0 w os) (piece_block (blk0 w os) (piece_split (seg1 w os) (piece_split (seg2 w os) h)))
theorem opn0:opening pw=plainProg pw.main.scope.names:=by kernel_rfl
theorem fen0 (s:Shared):fenceModules? pw s=some s:=by kernel_rfl
def q0:Program:={ pw with main:={ pw.main with body:=keep0.map Pr.top } }
theorem as_K:∀P,as0=(K0 P).map (·.1):=λ_=>by kernel_rfl
abbrev X0:Shared->Bool:=λs=>xlAt q0 [] s&&recOk (RowW.records (OpenRow.toRowW (OpenLaw.row PySem.Challenge.rw_quarterfold_k51_beside))) s
set_option maxHeartbeats 0 in
theorem fin0 (w:World) (os:OsState):(topRun treeTable pw w 11 (some (.ref 6)) 884 (sh h2 430 w os) (restOf ((bd.drop 9).drop 22) ev cE ⟨85,0,85,8⟩ fr)).map (λs=>(staticsOk (importedModules pw.main.body) (boot_heap w.params) s.heap&&namesBound pw s.heap&&gensDone s&&laidKept (boot_heap w.params) s.heap,openSeen q0 [] (importedModules pw.main.body) X0 true s,Hook.obs (kHook Hd.K0 Hd.as0 Hd.as_K) s))=some (true,openGood q0 [],Hook.val (kHook Hd.K0 Hd.as0 Hd.as_K) w):=by kernel_rfl
theorem left0:LeftO pw q0 [] X0 (Hook.obs (kHook Hd.K0 Hd.as0 Hd.as_K)) (Hook.val (kHook Hd.K0 Hd.as0 Hd.as_K)) N0:=left_mid (boot_open opn0 rfl fen0) (λw=>by kernel_rfl) run0 (by rfl) fin0
end Hd
namespace L2
open PySem PySem.Spec PyProof.Rows
abbrev Key:=Sum Int Str
def keyIs:Key->Value->Bool
 |.inl k,v=>Value.isInt k v
 |.inr x,v=>Value.isStrOf x v
def keyH (w:World):Key->Int
 |.inl k=>hashInt k
 |.inr x=>hashStr w x
theorem keyIs_shape:∀{k:Key}{v:Value},keyIs k v=true->(∃i t,k=Sum.inl i/\v=Value.int i t)\/(∃x t,k=Sum.inr x/\v=Value.str x t)
 |.inl i,v,h=>by
  obtain⟨t,e⟩:=Value.isInt_shape (k:=i) (v:=v) h
  exact .inl ⟨i,t,rfl,e⟩
 |.inr x,v,h=>by
  obtain⟨t,e⟩:=Value.isStrOf_shape (x:=x) (v:=v) h
  exact .inr ⟨x,t,rfl,e⟩
theorem keyIs_int (i:Int) (t:Tok):keyIs (.inl i) (.int i t)=true:=by simp[keyIs,Value.isInt]
theorem keyIs_str (x:Str) (t:Tok):keyIs (.inr x) (.str x t)=true:=by simp[keyIs,Value.isStrOf]
theorem key_ll (a b:Int):decide ((Sum.inl a:Key)=Sum.inl b)=(a==b):=by
 by_cases e:a=b
 ·subst e;simp
 ·have h:¬(Sum.inl a:Key)=Sum.inl b:=λq=>e (Sum.inl.inj q)
  rw[decide_eq_false h]
  exact (beq_eq_false_iff_ne.mpr e).symm
theorem key_rr (a b:Str):decide ((Sum.inr a:Key)=Sum.inr b)=decide (a=b):=by
 by_cases e:a=b
 ·subst e;simp
 ·have h:¬(Sum.inr a:Key)=Sum.inr b:=λq=>e (Sum.inr.inj q)
  rw[decide_eq_false h,decide_eq_false e]
theorem key_lr (a:Int) (b:Str):decide ((Sum.inl a:Key)=Sum.inr b)=false:=decide_eq_false (λq=>nomatch q)
theorem key_rl (a:Str) (b:Int):decide ((Sum.inr a:Key)=Sum.inl b)=false:=decide_eq_false (λq=>nomatch q)
def mixKind (prog:Program) (w:World):PySem.KeyKind prog w Key where
 is:=keyIs
 hash:=keyH w
 inj:=λv a b ha hb=>by
  rcases keyIs_shape ha with ⟨i,t,rfl,rfl⟩|⟨x,t,rfl,rfl⟩
  ·rcases keyIs_shape hb with ⟨j,u,rfl,e⟩|⟨y,u,rfl,e⟩
   ·injection e with e1 _;rw[e1]
   ·exact nomatch e
  ·rcases keyIs_shape hb with ⟨j,u,rfl,e⟩|⟨y,u,rfl,e⟩
   ·exact nomatch e
   ·injection e with e1 _;rw[e1]
 byValue:=λk v h=>by
  rcases keyIs_shape h with ⟨i,t,rfl,rfl⟩|⟨x,t,rfl,rfl⟩<;>rfl
 pyHash:=λhv h=>by
  rcases keyIs_shape hv with ⟨i,t,rfl,rfl⟩|⟨x,t,rfl,rfl⟩
  ·exact wpAny_pyHash_int h
  ·exact wpAny_pyHash_str h
 eqBool:=λhu hv h=>by
  rcases keyIs_shape hu with ⟨i,t,rfl,rfl⟩|⟨x,t,rfl,rfl⟩
  ·rcases keyIs_shape hv with ⟨j,u,rfl,rfl⟩|⟨y,u,rfl,rfl⟩
   ·rw[key_ll] at h;exact wpAny_eqBool_int h
   ·rw[key_lr] at h;exact SeqAt.EqAt.int_str i t y u _ _ _ _ h
  ·rcases keyIs_shape hv with ⟨j,u,rfl,rfl⟩|⟨y,u,rfl,rfl⟩
   ·rw[key_rl] at h;exact SeqAt.EqAt.str_int x t j u _ _ _ _ h
   ·rw[key_rr] at h;exact wpAny_eqBool_str h
 «strs»:=λk x t v h=>by
  rcases keyIs_shape h with ⟨i,u,rfl,e⟩|⟨y,u,rfl,e⟩
  ·exact nomatch e
  ·injection e with e1 _
   subst e1
   cases v<;>rfl
theorem mixKind_int (prog:Program) (w:World) (i:Int) (t:Tok):(mixKind prog w).is (.inl i) (.int i t)=true:=keyIs_int i t
theorem mixKind_str (prog:Program) (w:World) (x:Str) (t:Tok):(mixKind prog w).is (.inr x) (.str x t)=true:=keyIs_str x t
end L2
namespace L2
open PySem PySem.Spec PyProof.Rows
inductive V where
 |non|bl (b:Bool)|int (i:Int)|str (x:Str)|byt (b:Array UInt8)|flt (b:UInt64)|ref (a:Addr)|ty (n:String)
 deriving DecidableEq
def RelV:V->Value->Prop
 |.non,u=>u=Value.none
 |.bl b,u=>u=Value.bool b
 |.int i,u=>∃t,u=Value.int i t
 |.str x,u=>∃t,u=Value.str x t
 |.byt b,u=>∃t,u=Value.bytes b t
 |.flt b,u=>∃t,u=Value.float b t
 |.ref a,u=>u=Value.ref a
 |.ty n,u=>u=Value.type n
abbrev Vals:List V->List Value->Prop:=Paired RelV
theorem Vals.length {xs:List V}{us:List Value}(r:Vals xs us):xs.length=us.length:=Paired.length r
theorem Vals.get:∀{xs:List V}{us:List Value}{i:Nat}{x:V},Vals xs us->xs[i]?=some x->∃u,us[i]?=some u/\RelV x u
 |_,_,_,_,.nil,e=>by simp at e
 |_,_,0,_,.cons r _,e=>by simp at e;subst e;exact⟨_,rfl,r⟩
 |_,_,i+1,x,.cons _ t,e=>by
  obtain⟨u,h1,h2⟩:=Vals.get (i:=i) (x:=x) t (by simpa using e)
  exact⟨u,by simpa using h1,h2⟩
theorem Vals.set {x:V}{u:Value}(r:RelV x u):∀{xs:List V}{us:List Value}(i:Nat),Vals xs us->Vals (xs.set i x) (us.set i u)
 |_,_,_,.nil=>.nil
 |_,_,0,.cons _ t=>.cons r t
 |_,_,i+1,.cons q t=>.cons q (Vals.set r i t)
theorem Vals.append:∀{xs ys:List V}{us ws:List Value},Vals xs us->Vals ys ws->Vals (xs++ys) (us++ws)
 |_,_,_,_,.nil,s=>s
 |_,_,_,_,.cons r t,s=>.cons r (Vals.append t s)
theorem Vals.take:∀{xs:List V}{us:List Value}(n:Nat),Vals xs us->Vals (xs.take n) (us.take n)
 |_,_,0,_=>.nil
 |_,_,_+1,.nil=>.nil
 |_,_,n+1,.cons r t=>.cons r (Vals.take n t)
theorem Vals.drop:∀{xs:List V}{us:List Value}(n:Nat),Vals xs us->Vals (xs.drop n) (us.drop n)
 |_,_,0,r=>r
 |_,_,_+1,.nil=>.nil
 |_,_,n+1,.cons _ t=>Vals.drop n t
def RelO:Option V->Option Value->Prop
 |some v,some u=>RelV v u
 |none,none=>True
 |_,_=>False
def KV {κ:Type}:List (κ×V)->List (κ×Value)->Prop:=Paired λ(p:κ×V) (q:κ×Value)=>p.1=q.1/\RelV p.2 q.2
def kV:Key->V
 |.inl i=>.int i
 |.inr x=>.str x
inductive HO where
 |lst (xs:List V)
 |tup (xs:List V)
 |dK (kvs:List (Key×V))|dT (kvs:List (List Key×V))
 |set (S:Int->Bool) (n:Nat)
 |ins (C dx:Addr) (fs:List (Str×V))
 |own (x:Addr)
 |xd (fs:List (Str×V))
 |met (f x:Addr)
 |rng (lo hi:Int)
 |frz (o:Obj) (u:HO)
 |tbl (ps:Array Value)
 |ext (φ:Heap->Prop)
abbrev Hp:=Addr->Option HO
def upd (H:Hp) (a:Addr) (o:HO):Hp:=λb=>if b=a then some o else H b
theorem upd_same {H:Hp}{a:Addr}{o:HO}:upd H a o a=some o:=by unfold upd;rw[if_pos rfl]
theorem upd_ne {H:Hp}{a b:Addr}{o:HO}(h:b≠a):upd H a o b=H b:=by unfold upd;rw[if_neg h]
theorem upd_upd {H:Hp}{a:Addr}{o u:HO}:upd (upd H a o) a u=upd H a u:=by
 funext b;unfold upd;split<;>rfl
theorem ne_of {H:Hp}{a b:Addr}{o u:HO}(h:H a=some o) (h':H b=some u) (d:o≠u):a≠b:=by
 intro e;subst e;rw[h] at h';exact d (Option.some.inj h')
theorem ne_of_none {H:Hp}{a b:Addr}{o:HO}(h:H a=some o) (h':H b=none):a≠b:=by
 intro e;subst e;rw[h] at h';cases h'
def IsTupX (h:Heap) (a:Addr) (items:Array Value):Prop:=∃o,h.get? a=some o/\o.cls=.type "tuple" /\ ∃n:{n:Nat // o.dict=none},o.data=.seq items n.1
theorem IsTupX.is {h:Heap}{a:Addr}{items:Array Value}(x:IsTupX h a items):IsTup h a items:=let ⟨o,h1,h2,n,h3⟩:=x;⟨o,h1,h2,n.1,h3⟩
theorem IsTupX.new (h:Heap) (items:Array Value):IsTupX (h.push { cls:=.type "tuple",data:=.seq items }) h.objs.size items:=⟨_,Heap.get?_push_size _ rfl,rfl,⟨_,rfl⟩,rfl⟩
instance {h:Heap}{a:Addr}{items:Array Value}:Coe (IsTupX h a items) (IsTup h a items):=⟨IsTupX.is⟩
instance {h:Heap}{a:Addr}{items:Array Value}:Coe (IsTupX h a items) (h.IsTuple a items):=⟨IsTupX.is⟩
section
variable (P:Program) (w:World)
def ObjOk (H:Hp) (h:Heap) (a:Addr):HO->Prop
 |.lst xs=>xs.length<=sizeLine/\∃(its:List Value) (n:Nat),Vals xs its/\h.get? a=some { cls:=.type "list",data:=.seq its.toArray n }
 |.tup xs=>xs.length<=sizeLine/\∃its:List Value,Vals xs its/\IsTupX h a its.toArray
 |.dK kvs=>kvs.length<=sizeLine/\(a==sysModules)=false/\∃vs,KV kvs vs/\h.DictOf (mixKind P w) a vs
 |.dT kvs=>kvs.length<=sizeLine/\(a==sysModules)=false/\∃xs:List (List Key×Addr×Value),
   Paired (λ(p:List Key×V) (q:List Key×Addr×Value)=>p.1=q.1/\H q.2.1=some (.tup (p.1.map kV))/\RelV p.2 q.2.2) kvs xs /\
   ∃o es ep,h.get? a=some o/\o.ExactDict/\o.data=.dict es ep/\es.toList=xs.map (entryOfKey (tupleKind (mixKind P w)))/\(xs.map (·.1)).Nodup
 |.set S n=>h.SetOf (intKind P w) a S n
 |.ins C dx fs=>H dx=some (.own a)/\fs.length<=1000/\dx≠a/\h.get? a=some (PySem.W.instObj C dx) /\
   ∃mA,h.Ns1 dx mA/\(∀f,RelO (fs.lookup f) (mA f))/\PySem.Within mA (fs.map (·.1))
 |.own _=>∃o,h.get? a=some o
 |.xd fs=>∃mA,h.Ns1 a mA/\∀f,RelO (fs.lookup f) (mA f)
 |.rng lo hi=>∃t u v,h.get? a=some { cls:=.type "range",data:=.fields #[.int lo t,.int hi u,.int 1 v] }
 |.frz o u=>h.get? a=some o/\ObjOk H h a u
 |.tbl ps=>h.get? a=some { cls:=.none,data:=.fields ps }
 |.met f x=>h.get? a=some (PySem.W.methodObj (.ref f) (.ref x))
 |.ext φ=>φ h/\(∃o,h.get? a=some o)/\∀h1 h2:Heap,φ h1->(∀o,h1.get? a=some o->h2.get? a=some o)->φ h2
def HOk (H:Hp) (h:Heap):Prop:=∀a o,H a=some o->ObjOk P w H h a o
end
section
variable {P:Program}{w:World}{H H':Hp}{h h':Heap}{a:Addr}{o:HO}
theorem ObjOk.lt (x:ObjOk P w H h a o):a<h.objs.size:=by
 cases o with
 |lst xs=>obtain⟨_,_,_,_,e⟩:=x;exact Heap.lt_size e
 |tup xs=>obtain⟨_,_,_,p⟩:=x;exact (IsTupX.is p).lt
 |dK kvs=>obtain⟨_,_,_,_,o,_,_,e,_⟩:=x;exact Heap.lt_size e
 |dT kvs=>obtain⟨_,_,_,_,o,_,_,e,_⟩:=x;exact Heap.lt_size e
 |set S n=>obtain⟨o,_,_,_,e,_⟩:=x;exact Heap.lt_size e
 |ins C dx fs=>obtain⟨_,_,_,e,_⟩:=x;exact Heap.lt_size e
 |own y=>obtain⟨_,e⟩:=x;exact Heap.lt_size e
 |xd fs=>obtain⟨_,⟨_,_,_,e,_⟩,_⟩:=x;exact Heap.lt_size e
 |rng lo hi=>obtain⟨_,_,_,e⟩:=x;exact Heap.lt_size e
 |frz ob u=>obtain⟨e,_⟩:=x;exact Heap.lt_size e
 |tbl ps=>exact Heap.lt_size (show h.get? a=some _ from x)
 |met f y=>exact Heap.lt_size (show h.get? a=some _ from x)
 |ext φ=>obtain⟨_,⟨_,e⟩,_⟩:=x;exact Heap.lt_size e
theorem Paired.mapP {α β:Type}{F G:α->β->Prop}:∀{l₁:List α}{l₂:List β},Paired F l₁ l₂->(∀a b,F a b->G a b)->Paired G l₁ l₂
 |_,_,.nil,_=>.nil
 |_,_,.cons r t,f=>.cons (f _ _ r) (Paired.mapP t f)
theorem ObjOk.stay (x:ObjOk P w H h a o) (k:∀b u,(b=a\/H b=some (.own a))->h.get? b=some u->h'.get? b=some u)
  (ho:∀b,H b=some (.own a)->H' b=some (.own a)) (ht:∀b xs,H b=some (.tup xs)->H' b=some (.tup xs)):ObjOk P w H' h' a o:=by
 induction o with
 |lst xs=>obtain⟨z,its,n,r,e⟩:=x;exact⟨z,its,n,r,k _ _ (.inl rfl) e⟩
 |tup xs=>obtain⟨z,its,r,ob,e,c⟩:=x;exact⟨z,its,r,ob,k _ _ (.inl rfl) e,c⟩
 |dK kvs=>obtain⟨z,y,vs,r,ob,es,ep,e,c⟩:=x;exact⟨z,y,vs,r,ob,es,ep,k _ _ (.inl rfl) e,c⟩
 |dT kvs=>
  obtain⟨z,y,xs,r,ob,es,ep,e,c⟩:=x
  exact⟨z,y,xs,Paired.mapP r λp q z=>⟨z.1,ht _ _ z.2.1,z.2.2⟩,ob,es,ep,k _ _ (.inl rfl) e,c⟩
 |set S n=>obtain⟨ob,es,ep,t,e,c⟩:=x;exact⟨ob,es,ep,t,k _ _ (.inl rfl) e,c⟩
 |ins C dx fs=>
  obtain⟨d,z,ne,e,mA,⟨od,es,ep,e2,c⟩,r⟩:=x
  exact⟨ho _ d,z,ne,k _ _ (.inl rfl) e,mA,⟨od,es,ep,k _ _ (.inr d) e2,c⟩,r⟩
 |own y=>obtain⟨ob,e⟩:=x;exact⟨ob,k _ _ (.inl rfl) e⟩
 |xd fs=>obtain⟨mA,⟨od,es,ep,e,c⟩,r⟩:=x;exact⟨mA,⟨od,es,ep,k _ _ (.inl rfl) e,c⟩,r⟩
 |rng lo hi=>obtain⟨t,u,v,e⟩:=x;exact⟨t,u,v,k _ _ (.inl rfl) e⟩
 |frz ob u ih=>obtain⟨e,q⟩:=x;exact⟨k _ _ (.inl rfl) e,ih q⟩
 |tbl ps=>
  have e:h.get? a=some { cls:=.none,data:=.fields ps }:=x
  show h'.get? a=some { cls:=.none,data:=.fields ps }
  exact k a _ (.inl rfl) e
 |met f y=>
  have e:h.get? a=some (PySem.W.methodObj (.ref f) (.ref y)):=x
  show h'.get? a=some (PySem.W.methodObj (.ref f) (.ref y))
  exact k a _ (.inl rfl) e
 |ext φ=>obtain⟨p,⟨o,e⟩,st⟩:=x;exact⟨st _ _ p λo q=>k _ _ (.inl rfl) q,⟨o,k _ _ (.inl rfl) e⟩,st⟩
theorem HOk.lt (x:HOk P w H h) (e:H a=some o):a<h.objs.size:=(x a o e).lt
theorem HOk.fresh (x:HOk P w H h) (e:h.objs.size<=a):H a=none:=by
 cases q:H a with
 |none=>rfl
 |some u=>exact absurd (Nat.lt_of_lt_of_le (x.lt q) e) (Nat.lt_irrefl _)
theorem HOk.kept (x:HOk P w H h) (k:∀b u,h.get? b=some u->h'.get? b=some u):HOk P w H h':=λa o e=>
 (x a o e).stay (λb u _ q=>k b u q) (λ_ q=>q) λ_ _ q=>q
theorem HOk.laid (x:HOk P w H h) (k:∀b u,h.get? b=some u->h'.get? b=some u) (hp:h.objs.size<=a) (new:ObjOk P w (upd H a o) h' a o):HOk P w (upd H a o) h':=λb u e=>by
 have hn:=x.fresh hp
 by_cases hb:b=a
 ·subst hb;rw[upd_same] at e;cases e;exact new
 ·rw[upd_ne hb] at e
  exact (x b u e).stay (λc v _ q=>k c v q) (λc q=>by rw[upd_ne (ne_of_none q hn)];exact q) λc xs q=>by rw[upd_ne (ne_of_none q hn)];exact q
end
def Rd (H:Hp) (a:Addr) (u:HO):Prop:=H a=some u\/∃o,H a=some (.frz o u)
theorem Rd.ok {P:Program}{w:World}{H:Hp}{h:Heap}{a:Addr}{u:HO}(r:Rd H a u) (x:HOk P w H h):ObjOk P w H h a u:=by
 rcases r with r|⟨o,r⟩
 ·exact x a u r
 ·obtain⟨_,q⟩:=x a _ r
  exact q
def Mut:Option HO->Prop
 |some (.lst _)=>True
 |some (.dK _)=>True
 |some (.dT _)=>True
 |some (.set _ _)=>True
 |some (.ins _ _ _)=>True
 |some (.ext _)=>True
 |_=>False
section
variable {P:Program}{w:World}{H:Hp}{h h':Heap}{x e:Addr}{o':HO}
theorem HOk.write (ok:HOk P w H h) (mu:Mut (H x)) (he:e=x\/H e=some (.own x)) (k:∀b u,b≠e->h.get? b=some u->h'.get? b=some u) (heo:∃u,h'.get? e=some u)
  (new:ObjOk P w (upd H x o') h' x o'):HOk P w (upd H x o') h':=λb u q=>by
 have nown:∀c y,H c=some (.own y)->c≠x:=λc y r z=>by subst z;rw[r] at mu;exact mu
 have ntup:∀c xs,H c=some (.tup xs)->c≠x:=λc xs r z=>by subst z;rw[r] at mu;exact mu
 by_cases hb:b=x
 ·subst hb;rw[upd_same] at q;cases q;exact new
 ·rw[upd_ne hb] at q
  by_cases hbe:b=e
  ·have q':H b=some (.own x):=by
    rcases he with z|z
    ·exact absurd (hbe.trans z) hb
    ·rw[hbe];exact z
   rw[q] at q';cases q'
   obtain⟨v,hv⟩:=heo
   exact⟨v,by rw[hbe];exact hv⟩
  ·refine (ok b u q).stay (λc v hc r=>k c v ?_ r) (λc r=>by rw[upd_ne (nown c b r)];exact r) λc xs r=>by rw[upd_ne (ntup c xs r)];exact r
   rcases hc with rfl|hc
   ·exact hbe
   ·rintro rfl
    rcases he with z|z
    ·exact nown c b hc z
    ·rw[hc] at z;cases z;exact hb rfl
end
structure Un (fs ex:List Addr) (H H':Hp) (h h':Heap):Prop where
 keep:∀b o,h.get? b=some o->H b=none->b∉fs->b∉ex->h'.get? b=some o
 slot:∀b o,h.get? b=some o->H b=none->b∈fs->b∉ex->∃sl,h'.get? b=some { o with slots:=sl }
 free:∀b o,h.get? b=some o->H b=none->b∉ex->H' b=none
 there:∀b o,h.get? b=some o->b∉ex->∃o',h'.get? b=some o'
 tups:∀b xs,H b=some (.tup xs)->H' b=some (.tup xs)
 frzs:∀b o u,H b=some (.frz o u)->H' b=some (.frz o u)
 tbls:∀b ps,H b=some (.tbl ps)->∃more,H' b=some (.tbl (ps++more))
section
variable {fs fs' ex ex':List Addr}{H H1 H2:Hp}{h h1 h2 h':Heap}{a x e:Addr}{o:HO}
theorem Un.any (u:Un fs ex H H1 h h1){b:Addr}{ob:Obj}(q:h.get? b=some ob) (n:H b=none) (hx:b∉ex):∃sl,h1.get? b=some { ob with slots:=sl }:=by
 by_cases hb:b∈fs
 ·exact u.slot b ob q n hb hx
 ·exact⟨ob.slots,u.keep b ob q n hb hx⟩
theorem Un.kept (k:∀b u,h.get? b=some u->h'.get? b=some u):Un fs ex H H h h':=
 ⟨λb ob q _ _ _=>k b ob q,λb ob q _ _ _=>⟨ob.slots,k b ob q⟩,λ_ _ _ n _=>n,λb ob q _=>⟨ob,k b ob q⟩,λ_ _ q=>q,λ_ _ _ q=>q,λ_ ps q=>⟨#[],by rw[q];simp⟩⟩
theorem Un.refl:Un fs ex H H h h:=Un.kept λ_ _ q=>q
theorem Un.laid (k:∀b u,h.get? b=some u->h'.get? b=some u) (hp:h.objs.size<=a) (hn:H a=none):Un fs ex H (upd H a o) h h' where
 keep:=λb u q _ _ _=>k b u q
 slot:=λb u q _ _ _=>⟨u.slots,k b u q⟩
 free:=λb u q n _=>by rw[upd_ne (Nat.ne_of_lt (Nat.lt_of_lt_of_le (Heap.lt_size q) hp))];exact n
 there:=λb u q _=>⟨u,k b u q⟩
 tups:=λb xs q=>by rw[upd_ne (ne_of_none q hn)];exact q
 frzs:=λb u xs q=>by rw[upd_ne (ne_of_none q hn)];exact q
 tbls:=λb ps q=>⟨#[],by rw[upd_ne (ne_of_none q hn),q];simp⟩
theorem Un.write (mu:Mut (H x)) (he:e=x\/H e=some (.own x)) (k:∀b u,b≠e->h.get? b=some u->h'.get? b=some u) (heo:∃u,h'.get? e=some u):Un fs ex H (upd H x o) h h':=by
 have hx:∀b,H b=none->b≠x:=λb n z=>by subst z;rw[n] at mu;exact mu
 have hb:∀b,H b=none->b≠e:=λb n z=>by
  subst z
  rcases he with r|r
  ·exact hx b n r
  ·rw[n] at r;cases r
 have hm:∀b u,H b=some u->¬Mut (some u)->b≠x:=λb u q nm z=>by subst z;rw[q] at mu;exact nm mu
 refine⟨λb u q n _ _=>k b u (hb b n) q,λb u q n _ _=>⟨u.slots,k b u (hb b n) q⟩,λb u q n _=>by rw[upd_ne (hx b n)];exact n,λb u q _=>?_,
  λb xs q=>by rw[upd_ne (hm b _ q λz=>z)];exact q,λb u xs q=>by rw[upd_ne (hm b _ q λz=>z)];exact q,λb ps q=>⟨#[],by rw[upd_ne (hm b _ q λz=>z),q];simp⟩⟩
 by_cases hbe:b=e
 ·subst hbe;exact heo
 ·exact⟨u,k b u hbe q⟩
end
def trk (h:Heap) (H:Hp):List Addr:=(List.range h.objs.size).filter λa=>(H a).isSome
def hidT (h:Heap) (H:Hp):Heap:=PySem.W.hideAll h (trk h H)
theorem hidT_size (h:Heap) (H:Hp):(hidT h H).objs.size=h.objs.size:=PySem.W.hideAll_size _ _
theorem hidT_get {h:Heap}{H:Hp}{b:Addr}{o:Obj}(e:h.get? b=some o) (n:H b=none):(hidT h H).get? b=some o:=
 PySem.W.hideAll_get _ e λhm=>by
  have q:(H b).isSome=true:=(List.mem_filter.mp hm).2
  rw[n] at q;simp at q
theorem of_hidT {h:Heap}{H:Hp}{b:Addr}{o:Obj}(e:(hidT h H).get? b=some o):h.get? b=some o/\H b=none:=by
 have e':h.get? b=some o:=PySem.W.of_hideAll (trk h H) e
 refine⟨e',?_⟩
 cases q:H b with
 |none=>rfl
 |some x=>
  have hm:b∈trk h H:=List.mem_filter.mpr ⟨List.mem_range.mpr (Heap.lt_size e'),by simp[q]⟩
  have z:(hidT h H).get? b=none:=PySem.W.hideAll_none (trk h H) hm
  rw[z] at e;cases e
end L2
namespace L2
open PySem PySem.Spec PyProof.Rows
structure Mod (K:PySem.W.Frag) (mg:Str->Option Value) (base:Heap):Prop where
 kin:K.In base
 glob:base.Ns mainGlobals mg
 blt:∃mb,base.Ns builtinsNs mb/\∀x:Str,x ≠ "__name__" -> mb x=bootBuiltins x
 nolimit:base.NoLimit
structure Cx where
 prog:Program
 w:World
 K:PySem.W.Frag
 mg:Str->Option Value
 base:Heap
 A:Around
 N:List Str
 s₀:Shared
 H₀:Hp
 env:Env
 outer:List Env
 stack:List Env
 ex:List Addr
 fn:Str->Bool
 calm:Bool
 pn:List (Addr×Obj)
 xe:Value->Shared->Prop
def frs (l:List Env):List Addr:=l.filterMap (·.frame)
abbrev Cx.fs (X:Cx):List Addr:=frs X.outer
def Vis (sc:Scope) (x:Str):Prop:=sc.names.lookup x=some .local\/sc.names.lookup x=some .cell\/sc.names.lookup x=some .free
def Loc (sc:Scope) (x:Str):Prop:=sc.names.lookup x=some .local\/sc.names.lookup x=some .cell
def Look (env:Env) (h:Heap) (m:Str->Option Value) (x:Str) (u:Value):Prop:=
 (env.kindOf x=some .local/\m x=some u)\/((env.kindOf x=some .cell\/env.kindOf x=some .free)/\∃c,env.cells.lookup x=some c/\h.IsCell c (some u))
structure Cx.Ok (X:Cx):Prop where
 mod:Mod X.K X.mg X.base
 kind:X.env.scope.kind=.function
 glob:X.env.globals=mainGlobals
 blt:X.env.builtins=builtinsNs
 above:X.s₀.heap.objs.size<=X.env.locals
 inj:∀x y c,X.env.cells.lookup x=some c->X.env.cells.lookup y=some c->x=y
 has:∀x,(X.env.kindOf x=some .cell\/X.env.kindOf x=some .free)->∃c,X.env.cells.lookup x=some c
 cab:∀x c,X.fn x=true->X.env.cells.lookup x=some c->X.s₀.heap.objs.size<=c
 hd:X.calm=true->X.A.handled=none
 frames:X.A.frames=some X.stack
 stk:X.stack=X.outer\/(X.stack=X.env::X.outer/\X.env.frame=some X.env.locals)
 exf:∀b∈X.ex,b≠X.env.locals/\∀x c,X.env.cells.lookup x=some c->c≠b
 bs:∀b o,X.base.get? b=some o->X.s₀.heap.get? b=some o/\X.H₀ b=none
 bsz:X.base.objs.size<=X.s₀.heap.objs.size
 noex:∀b o,X.base.get? b=some o->b∉X.ex
 exfs:∀b∈X.ex,b∉X.fs
 funs:X.s₀.heap.FunFrames X.base X.outer
 frf:∀b∈X.fs,X.H₀ b=none
structure Inv (X:Cx) (pins:List (Addr×Obj)) (σ:List (Option V)) (H:Hp) (s:Shared):Prop where
 ok:X.Ok
 os:s.os=X.s₀.os
 bare:AllBare s.gens
 base:Un X.fs X.ex X.H₀ H X.s₀.heap s.heap
 loc:∃m,s.heap.Ns X.env.locals m/\∀(i:Nat) (x:Str) (v:V),X.N[i]?=some x->σ[i]?=some (some v)->Vis X.env.scope x->∃u,RelV v u/\Look X.env s.heap m x u
 cell:∀x c,X.env.cells.lookup x=some c->∃v,s.heap.IsCell c v
 free:H X.env.locals=none
 freeC:∀x c,X.env.cells.lookup x=some c->H c=none
 pin:∀p∈X.pn++pins,s.heap.get? p.1=some p.2/\H p.1=none/\p.1≠X.env.locals/\p.1∉X.fs/\∀v,p.2.data≠.cell v
 hok:HOk X.prog X.w H s.heap
 len:σ.length=X.N.length
section
variable {X:Cx}{pins:List (Addr×Obj)}{σ:List (Option V)}{H H':Hp}{s:Shared}{h':Heap}
theorem Cx.Ok.nofr (ok:X.Ok){b:Addr}{o:Obj}(e:X.base.get? b=some o):b∉X.fs:=λhb=>by
 have:=(ok.funs.mem hb).1
 rw[e] at this;cases this
theorem Inv.bs (I:Inv X pins σ H s):∀b o,X.base.get? b=some o->s.heap.get? b=some o/\H b=none:=λb o e=>
 ⟨I.base.keep b o (I.ok.bs b o e).1 (I.ok.bs b o e).2 (I.ok.nofr e) (I.ok.noex b o e),I.base.free b o (I.ok.bs b o e).1 (I.ok.bs b o e).2 (I.ok.noex b o e)⟩
theorem Inv.bk (I:Inv X pins σ H s):∀b o,X.base.get? b=some o->s.heap.get? b=some o:=λb o e=>(I.bs b o e).1
theorem Inv.mod (I:Inv X pins σ H s):Mod X.K X.mg X.base:=I.ok.mod
theorem Inv.kIn (I:Inv X pins σ H s):X.K.In s.heap:=I.ok.mod.kin.keeps I.bk
theorem Inv.lt (I:Inv X pins σ H s):X.env.locals<s.heap.objs.size:=let ⟨_,hn,_⟩:=I.loc;hn.lt
theorem Inv.sz (I:Inv X pins σ H s):X.s₀.heap.objs.size<=s.heap.objs.size:=Nat.le_trans I.ok.above (Nat.le_of_lt I.lt)
theorem Inv.nofs (I:Inv X pins σ H s){a:Addr}(h:s.heap.objs.size<=a):a∉X.fs:=λhb=>by
 obtain⟨_,o,ho,_⟩:=I.ok.funs.mem hb
 exact absurd (Nat.lt_of_lt_of_le (Heap.lt_size ho) (Nat.le_trans I.sz h)) (Nat.lt_irrefl _)
theorem Inv.cne (I:Inv X pins σ H s):∀x c,X.env.cells.lookup x=some c->c≠X.env.locals:=λx c e z=>by
 obtain⟨v,o,ho,hd⟩:=I.cell x c e
 obtain⟨m,⟨o',es,ep,ho',hd',_⟩,_⟩:=I.loc
 rw[z,ho'] at ho;cases ho;rw[hd'] at hd;cases hd
theorem Inv.funs (I:Inv X pins σ H s):s.heap.FunFrames X.base X.outer:=by
 have all:∀(l:List Env),(∀b∈frs l,b∈X.fs)->X.s₀.heap.FunFrames X.base l->s.heap.FunFrames X.base l:=by
  intro l
  induction l with
  |nil=>intro _ _;trivial
  |cons env r ih=>
   intro hs hl
   obtain⟨hk,⟨L,o,hf,hn,ho,hd⟩,hr⟩:=hl
   have hL:L∈X.fs:=hs L (by unfold frs;rw[List.filterMap_cons,hf];exact List.mem_cons_self)
   obtain⟨sl,e⟩:=I.base.slot L o ho (I.ok.frf L hL) hL λz=>I.ok.exfs L z hL
   exact⟨hk,⟨L,_,hf,hn,e,hd⟩,ih (λb hb=>hs b (by unfold frs;rw[List.filterMap_cons,hf];exact List.mem_cons_of_mem _ hb)) hr⟩
 exact all X.outer (λ_ hb=>hb) I.ok.funs
theorem Inv.stack (I:Inv X pins σ H s):s.heap.FunFrames X.base X.stack:=by
 rcases I.ok.stk with e|⟨e,hf⟩
 ·rw[e];exact I.funs
 ·rw[e]
  obtain⟨m,hn,_⟩:=I.loc
  refine .cons (by rw[I.ok.kind];decide) hf hn ?_ I.funs
  exact Heap.get?_none_of_le (Nat.le_trans I.ok.bsz I.ok.above)
theorem Inv.stkSub (I:Inv X pins σ H s):∀b∈frs X.stack,b∈X.env.locals::X.fs:=λb hb=>by
 rcases I.ok.stk with e|⟨e,hf⟩
 ·rw[e] at hb;exact List.mem_cons_of_mem _ hb
 ·rw[e] at hb
  unfold frs at hb
  rw[List.filterMap_cons,hf] at hb
  exact hb
theorem Inv.stkFree (I:Inv X pins σ H s):∀b∈frs X.stack,H b=none:=λb hb=>by
 rcases List.mem_cons.mp (I.stkSub b hb) with e|hb
 ·rw[e];exact I.free
 ·obtain⟨_,o,ho,_⟩:=I.ok.funs.mem hb
  exact I.base.free b o ho (I.ok.frf b hb) λz=>I.ok.exfs b z hb
theorem Inv.step {g':Array GenState}{t':Nat}{d':Drawn}{ch:List Addr}(I:Inv X pins σ H s)
  (hch:∀b∈ch,(b∈X.ex\/X.s₀.heap.objs.size<=b)/\b≠X.env.locals/\(∀x c,X.env.cells.lookup x=some c->c≠b)/\∀p∈X.pn++pins,p.1≠b)
  (keep:∀b o,b≠X.env.locals->b∉X.fs->b∉ch->s.heap.get? b=some o->H b=none->h'.get? b=some o)
  (slot:∀b o,b≠X.env.locals->b∈X.fs->b∉ch->s.heap.get? b=some o->H b=none->∃sl,h'.get? b=some { o with slots:=sl }) (free:∀b o,b∉ch->s.heap.get? b=some o->H b=none->H' b=none)
  (there:∀b o,b∉ch->s.heap.get? b=some o->∃o',h'.get? b=some o')
  (tups:∀b xs,H b=some (.tup xs)->H' b=some (.tup xs)) (frzs:∀b o u,H b=some (.frz o u)->H' b=some (.frz o u)) (tbls:∀b ps,H b=some (.tbl ps)->∃more,H' b=some (.tbl (ps++more)))
  (ns:∀m,s.heap.Ns X.env.locals m->h'.Ns X.env.locals m) (hok:HOk X.prog X.w H' h') (hg:AllBare g') :
  Inv X pins σ H' { s with heap:=h',gens:=g',drawn:=d',toks:=t' }:=by
 have neL:∀b o,X.s₀.heap.get? b=some o->b≠X.env.locals:=λb o e=>Nat.ne_of_lt (Nat.lt_of_lt_of_le (Heap.lt_size e) I.ok.above)
 have neC:∀b o,X.s₀.heap.get? b=some o->b∉X.ex->b∉ch:=λb o e hx hb=>by
  rcases (hch b hb).1 with z|z
  ·exact hx z
  ·exact absurd (Nat.lt_of_lt_of_le (Heap.lt_size e) z) (Nat.lt_irrefl _)
 have cellK:∀x c,X.env.cells.lookup x=some c->∀v,s.heap.IsCell c v->h'.IsCell c v:=λx c e v ⟨o,ho,hd⟩=>by
  have nch:c∉ch:=λz=>(hch c z).2.2.1 x c e rfl
  by_cases hc:c∈X.fs
  ·obtain⟨sl,q⟩:=slot c o (I.cne x c e) hc nch ho (I.freeC x c e)
   exact⟨_,q,hd⟩
  ·exact⟨o,keep c o (I.cne x c e) hc nch ho (I.freeC x c e),hd⟩
 refine⟨I.ok,I.os,hg,⟨λb o e n hb hx=>?_,λb o e n hb hx=>?_,λb o e n hx=>?_,λb o e hx=>?_,λb xs e=>tups b xs (I.base.tups b xs e),λb o xs e=>frzs b o xs (I.base.frzs b o xs e),λb ps e=>?_⟩,?_,λx c e=>?_,?_,λx c e=>?_,λp hp=>?_,hok,I.len⟩
 ·exact keep b o (neL b o e) hb (neC b o e hx) (I.base.keep b o e n hb hx) (I.base.free b o e n hx)
 ·obtain⟨sl,e1⟩:=I.base.slot b o e n hb hx
  obtain⟨sl',e2⟩:=slot b _ (neL b o e) hb (neC b o e hx) e1 (I.base.free b o e n hx)
  exact⟨sl',e2⟩
 ·obtain⟨o',e1⟩:=I.base.there b o e hx
  exact free b o' (neC b o e hx) e1 (I.base.free b o e n hx)
 ·obtain⟨o',e1⟩:=I.base.there b o e hx
  exact there b o' (neC b o e hx) e1
 ·obtain⟨m1,e1⟩:=I.base.tbls b ps e
  obtain⟨m2,e2⟩:=tbls b _ e1
  exact⟨m1++m2,by rw[e2,Array.append_assoc]⟩
 ·obtain⟨m,hn,hl⟩:=I.loc
  refine⟨m,ns m hn,λi x v e1 e2 e3=>?_⟩
  obtain⟨u,r,l⟩:=hl i x v e1 e2 e3
  refine⟨u,r,?_⟩
  rcases l with l|⟨k,c,e,z⟩
  ·exact .inl l
  ·exact .inr ⟨k,c,e,cellK x c e _ z⟩
 ·obtain⟨v,z⟩:=I.cell x c e
  exact⟨v,cellK x c e v z⟩
 ·obtain⟨m,⟨o,_,_,ho,_⟩,_⟩:=I.loc
  exact free _ o (λz=>(hch _ z).2.1 rfl) ho I.free
 ·obtain⟨v,o,ho,hd⟩:=I.cell x c e
  exact free c o (λz=>(hch c z).2.2.1 x c e rfl) ho (I.freeC x c e)
 ·obtain⟨e,n,ne,nf,d⟩:=I.pin p hp
  have nch:p.1∉ch:=λz=>(hch p.1 z).2.2.2 p hp rfl
  exact⟨keep p.1 p.2 ne nf nch e n,free p.1 p.2 nch e n,ne,nf,d⟩
theorem Inv.un {t':Nat}(I:Inv X pins σ H s) (u:Un X.fs [] H H' s.heap h') (hok:HOk X.prog X.w H' h'):Inv X pins σ H' { s with heap:=h',toks:=t' }:=by
 obtain⟨m,⟨o,es,ep,ho,r⟩,_⟩:=id I.loc
 obtain⟨sl,hL⟩:=u.any ho I.free (by simp)
 exact I.step (g':=s.gens) (d':=s.drawn) (ch:=[]) (λ_ z=>nomatch z) (λb o _ hb _ e n=>u.keep b o e n hb (by simp)) (λb o _ hb _ e n=>u.slot b o e n hb (by simp)) (λb o _ e n=>u.free b o e n (by simp)) (λb o _ e=>u.there b o e (by simp)) u.tups u.frzs u.tbls (λm' hm=>by
  obtain⟨o',es',ep',ho',r'⟩:=hm
  rw[ho] at ho';cases ho'
  exact⟨_,es',ep',hL,r'⟩) hok I.bare
theorem Inv.call {g':Array GenState}{t':Nat}{d':Drawn}{ch:List Addr}(I:Inv X pins σ H s) (u:Un (frs X.stack) ch H H' s.heap h') (hok:HOk X.prog X.w H' h') (hg:AllBare g')
  (hch:∀b∈ch,(b∈X.ex\/X.s₀.heap.objs.size<=b)/\b≠X.env.locals/\(∀x c,X.env.cells.lookup x=some c->c≠b)/\∀p∈X.pn++pins,p.1≠b) :
  Inv X pins σ H' { s with heap:=h',gens:=g',drawn:=d',toks:=t' }:=by
 obtain⟨m,⟨o,es,ep,ho,r⟩,_⟩:=id I.loc
 obtain⟨sl,hL⟩:=u.any ho I.free λz=>(hch _ z).2.1 rfl
 exact I.step (ch:=ch) hch (λb o hL hb hc e n=>u.keep b o e n (λz=>(List.mem_cons.mp (I.stkSub b z)).elim hL hb) hc) (λb o _ _ hc e n=>u.any e n hc) (λb o hc e n=>u.free b o e n hc) (λb o hc e=>u.there b o e hc) u.tups u.frzs u.tbls (λm' hm=>by
  obtain⟨o',es',ep',ho',r'⟩:=hm
  rw[ho] at ho';cases ho'
  exact⟨_,es',ep',hL,r'⟩) hok hg
theorem Inv.turned {t':Nat}{it:Addr}(I:Inv X pins σ H s) (k:∀b o,b≠it->s.heap.get? b=some o->h'.get? b=some o) (hn:H it=none) (hL:it≠X.env.locals)
  (h1:it∈X.ex\/X.s₀.heap.objs.size<=it) (h2:∀x c,X.env.cells.lookup x=some c->c≠it) (h3:∀p∈X.pn++pins,p.1≠it):Inv X pins σ H { s with heap:=h',toks:=t' }:=by
 have nit:∀b u,H b=some u->b≠it:=λb u e z=>by rw[z,hn] at e;cases e
 refine I.step (g':=s.gens) (d':=s.drawn) (ch:=[it]) (λb hb=>?_) (λb o _ _ hc e _=>k b o (λz=>hc (by simp[z])) e) (λb o _ _ hc e _=>⟨o.slots,k b o (λz=>hc (by simp[z])) e⟩) (λ_ _ _ _ n=>n)
  (λb o hc e=>⟨o,k b o (λz=>hc (by simp[z])) e⟩) (λ_ _ e=>e) (λ_ _ _ e=>e) (λb ps e=>⟨#[],by rw[e];simp⟩) (λm hm=>?_) (λb u e=>?_) I.bare
 ·have e:b=it:=by simpa using hb
  subst e
  exact⟨h1,hL,h2,h3⟩
 ·obtain⟨o,es,ep,ho,r⟩:=hm
  exact⟨o,es,ep,k _ o (Ne.symm hL) ho,r⟩
 ·refine (I.hok b u e).stay (λc v hc q=>k c v ?_ q) (λ_ q=>q) λ_ _ q=>q
  rcases hc with z|z
  ·rw[z];exact nit b u e
  ·exact nit c _ z
theorem Inv.tok (I:Inv X pins σ H s) (t:Nat):Inv X pins σ H { s with toks:=t }:=I.un (h':=s.heap) (t':=t) Un.refl I.hok
theorem Inv.kept {t':Nat}(I:Inv X pins σ H s) (k:∀b u,s.heap.get? b=some u->h'.get? b=some u):Inv X pins σ H { s with heap:=h',toks:=t' }:=I.un (Un.kept k) (I.hok.kept k)
theorem Inv.laid {a:Addr}{o:HO}{t':Nat}(I:Inv X pins σ H s) (k:∀b u,s.heap.get? b=some u->h'.get? b=some u) (hp:s.heap.objs.size<=a) (new:ObjOk X.prog X.w (upd H a o) h' a o) :
  Inv X pins σ (upd H a o) { s with heap:=h',toks:=t' }:=I.un (Un.laid k hp (I.hok.fresh hp)) (I.hok.laid k hp new)
theorem Inv.write {x e:Addr}{o:HO}{t':Nat}(I:Inv X pins σ H s) (mu:Mut (H x)) (he:e=x\/H e=some (.own x)) (k:∀b u,b≠e->s.heap.get? b=some u->h'.get? b=some u) (heo:∃u,h'.get? e=some u)
  (new:ObjOk X.prog X.w (upd H x o) h' x o):Inv X pins σ (upd H x o) { s with heap:=h',toks:=t' }:=I.un (Un.write mu he k heo) (I.hok.write mu he k heo new)
theorem Inv.pins_of {pins':List (Addr×Obj)}(I:Inv X pins σ H s) (h:∀p∈pins',s.heap.get? p.1=some p.2/\H p.1=none/\p.1≠X.env.locals/\p.1∉X.fs/\∀v,p.2.data≠.cell v):Inv X pins' σ H s:=
 ⟨I.ok,I.os,I.bare,I.base,I.loc,I.cell,I.free,I.freeC,λp hp=>(List.mem_append.mp hp).elim (λz=>I.pin p (List.mem_append_left _ z)) (h p),I.hok,I.len⟩
theorem nodup_ix {N:List Str}(hN:N.Nodup){i j:Nat}{x:Str}(a:N[i]?=some x) (b:N[j]?=some x):i=j:=by
 obtain⟨h1,e1⟩:=List.getElem?_eq_some_iff.mp a
 obtain⟨h2,e2⟩:=List.getElem?_eq_some_iff.mp b
 exact (List.getElem_inj hN).mp (e1.trans e2.symm)
theorem store_ok2 {M:Model}{A:Around}{E:Value->Shared->Prop}{i:Nat}{x:Str}{v:V}{u:Value}{Q:Unit->Shared->Prop}(I:Inv X pins σ H s) (hN:X.N.Nodup) (hi:X.N[i]?=some x) (hx:Loc X.env.scope x) (r:RelV v u)
  (h:∀s',Inv X pins (σ.set i (some v)) H s'->(∃a,Heap.SameBut a s.heap s'.heap/\(a=X.env.locals\/X.env.cells.lookup x=some a))->Q () s') (hf:X.fn x=true\/X.env.scope.names.lookup x=some .local:=by first|exact .inl rfl|exact .inr rfl|assumption):wpAny M A (storeName X.env x u) Q E s:=by
 obtain⟨m,hn,hl⟩:=id I.loc
 have hcls:(X.env.scope.kind==.class||(X.env.scope.kind==.module&&X.env.locals != X.env.globals))=false:=by rw[I.ok.kind];rfl
 have hiσ:i<σ.length:=by rw[I.len];exact (List.getElem?_eq_some_iff.mp hi).1
 have cne:=I.cne
 have tracked:∀{a:Addr}{h':Heap},(∃o,s.heap.get? a=some o/\H a=none)->Heap.SameBut a s.heap h'->HOk X.prog X.w H h':=λ{a h'} ha hs b ob e=>by
  obtain⟨_,_,hfree⟩:=ha
  refine (I.hok b ob e).stay (λc w' hc q=>(hs.2 c ?_).trans q) (λ_ q=>q) λ_ _ q=>q
  rintro rfl
  rcases hc with rfl|hc
  ·rw[hfree] at e;cases e
  ·rw[hfree] at hc;cases hc
 rcases hx with hk|hk
 ·refine wpAny_storeName_local hk hn (λh' hn' hs=>?_) hcls
  obtain⟨oL,_,_,hoL,_⟩:=id hn
  refine h _ ⟨I.ok,I.os,I.bare,⟨λb o e n hb hx=>?_,λb o e n hb hx=>?_,I.base.free,λb o e hx=>?_,I.base.tups,I.base.frzs,I.base.tbls⟩,⟨_,hn',λj y v' e1 e2 e3=>?_⟩,λy c e=>?_,I.free,I.freeC,λp hp=>?_,tracked ⟨oL,hoL,I.free⟩ hs,by simpa using I.len⟩ ⟨_,hs,.inl rfl⟩
  ·exact (hs.2 b (Nat.ne_of_lt (Nat.lt_of_lt_of_le (Heap.lt_size e) I.ok.above))).trans (I.base.keep b o e n hb hx)
  ·obtain⟨sl,e1⟩:=I.base.slot b o e n hb hx
   exact⟨sl,(hs.2 b (Nat.ne_of_lt (Nat.lt_of_lt_of_le (Heap.lt_size e) I.ok.above))).trans e1⟩
  ·obtain⟨o',e1⟩:=I.base.there b o e hx
   exact⟨o',(hs.2 b (Nat.ne_of_lt (Nat.lt_of_lt_of_le (Heap.lt_size e) I.ok.above))).trans e1⟩
  ·by_cases hj:j=i
   ·subst hj
    rw[hi] at e1;cases e1
    rw[List.getElem?_set_self hiσ] at e2
    cases e2
    exact⟨u,r,.inl ⟨hk,by simp⟩⟩
   ·rw[List.getElem?_set_ne (Ne.symm hj)] at e2
    obtain⟨u',r',q⟩:=hl j y v' e1 e2 e3
    refine⟨u',r',?_⟩
    rcases q with ⟨k,e⟩|⟨k,c,e,z⟩
    ·refine .inl ⟨k,?_⟩
     have:y≠x:=λe=>hj (nodup_ix hN e1 (e▸hi))
     simp[this,e]
    ·exact .inr ⟨k,c,e,z.sameBut hs (cne y c e)⟩
  ·obtain⟨w',z⟩:=I.cell y c e
   exact⟨w',z.sameBut hs (cne y c e)⟩
  ·obtain⟨e,n,ne,nf,d⟩:=I.pin p hp
   exact⟨(hs.2 p.1 ne).trans e,n,ne,nf,d⟩
 ·have hfn:X.fn x=true:=by
   rcases hf with z|z
   ·exact z
   ·rw[z] at hk;cases hk
  obtain⟨c,hc⟩:=I.ok.has x (.inl hk)
  obtain⟨w',z⟩:=I.cell x c hc
  refine wpAny_storeName_cell I.ok.kind hk hc z (λh' hc' hs=>?_)
  obtain⟨oc,hoc,hocd⟩:=id z
  refine h { s with heap:=h' } ⟨I.ok,I.os,I.bare,⟨λb o e n hb hx=>?_,λb o e n hb hx=>?_,I.base.free,λb o e hx=>?_,I.base.tups,I.base.frzs,I.base.tbls⟩,⟨m,hn.sameBut hs (Ne.symm (cne x c hc)),λj y v' e1 e2 e3=>?_⟩,λy c' e=>?_,I.free,I.freeC,λp hp=>?_,tracked ⟨oc,hoc,I.freeC x c hc⟩ hs,by simpa using I.len⟩ ⟨c,hs,.inr hc⟩
  ·exact (hs.2 b (Nat.ne_of_lt (Nat.lt_of_lt_of_le (Heap.lt_size e) (I.ok.cab x c hfn hc)))).trans (I.base.keep b o e n hb hx)
  ·obtain⟨sl,e1⟩:=I.base.slot b o e n hb hx
   exact⟨sl,(hs.2 b (Nat.ne_of_lt (Nat.lt_of_lt_of_le (Heap.lt_size e) (I.ok.cab x c hfn hc)))).trans e1⟩
  ·obtain⟨o',e1⟩:=I.base.there b o e hx
   exact⟨o',(hs.2 b (Nat.ne_of_lt (Nat.lt_of_lt_of_le (Heap.lt_size e) (I.ok.cab x c hfn hc)))).trans e1⟩
  ·by_cases hj:j=i
   ·subst hj
    rw[hi] at e1;cases e1
    rw[List.getElem?_set_self hiσ] at e2
    cases e2
    exact⟨u,r,.inr ⟨.inl hk,c,hc,hc'⟩⟩
   ·rw[List.getElem?_set_ne (Ne.symm hj)] at e2
    obtain⟨u',r',q⟩:=hl j y v' e1 e2 e3
    refine⟨u',r',?_⟩
    rcases q with q|⟨k,c',e,z'⟩
    ·exact .inl q
    ·refine .inr ⟨k,c',e,z'.sameBut hs ?_⟩
     rintro rfl
     exact hj (nodup_ix hN e1 (I.ok.inj _ _ _ e hc▸hi))
  ·by_cases hcc:c'=c
   ·subst hcc;exact⟨_,hc'⟩
   ·obtain⟨w2,z2⟩:=I.cell y c' e
    exact⟨w2,z2.sameBut hs hcc⟩
  ·obtain⟨e,n,ne,nf,d⟩:=I.pin p hp
   refine⟨(hs.2 p.1 ?_).trans e,n,ne,nf,d⟩
   intro q
   rw[q,hoc] at e
   have q':oc=p.2:=Option.some.inj e
   exact d w' (by rw[<- q'];exact hocd)
theorem store_ok {M:Model}{A:Around}{E:Value->Shared->Prop}{i:Nat}{x:Str}{v:V}{u:Value}{Q:Unit->Shared->Prop}(I:Inv X pins σ H s) (hN:X.N.Nodup) (hi:X.N[i]?=some x) (hx:Loc X.env.scope x) (r:RelV v u)
  (h:∀s',Inv X pins (σ.set i (some v)) H s'->Q () s') (hf:X.fn x=true\/X.env.scope.names.lookup x=some .local:=by first|exact .inl rfl|exact .inr rfl|assumption):wpAny M A (storeName X.env x u) Q E s:=
 store_ok2 I hN hi hx r (λs' I' _=>h s' I') hf
theorem Inv.call' {s':Shared}{ch:List Addr}(I:Inv X pins σ H s) (ho:s'.os=s.os) (u:Un (frs X.stack) ch H H' s.heap s'.heap) (hok:HOk X.prog X.w H' s'.heap) (hg:AllBare s'.gens)
  (hch:∀b∈ch,(b∈X.ex\/X.s₀.heap.objs.size<=b)/\b≠X.env.locals/\(∀x c,X.env.cells.lookup x=some c->c≠b)/\∀p∈X.pn++pins,p.1≠b):Inv X pins σ H' s':=by
 obtain⟨h',g',d',t',o'⟩:=s'
 have e:o'=s.os:=ho
 subst e
 exact I.call (g':=g') (t':=t') (d':=d') u hok hg hch
end
abbrev XK:=Value->Option Addr->Hp->Prop
abbrev St:=List (Option V)
abbrev VK:=V->Hp->Prop
abbrev TE:=St->Hp->VK->Prop
abbrev TT:=St->Hp->(Bool->Hp->Prop)->Prop
abbrev TA:=St->Hp->(List V->Hp->Prop)->Prop
structure Ends where
 nx:St->Hp->Prop
 rt:VK
 bk:St->Hp->Prop:=λ_ _=>False
 ct:St->Hp->Prop:=λ_ _=>False
abbrev TS:=Ends->St->Hp->Prop
def EP (X:Cx) (pins:List (Addr×Obj)) (σ:St) (Q:VK) (u:Value) (s':Shared):Prop:=∃v H',Inv X pins σ H' s'/\RelV v u/\Q v H'
def TP (X:Cx) (pins:List (Addr×Obj)) (σ:St) (Q:Bool->Hp->Prop) (b:Bool) (s':Shared):Prop:=∃H',Inv X pins σ H' s'/\Q b H'
def AP (X:Cx) (pins:List (Addr×Obj)) (σ:St) (Q:List V->Hp->Prop) (us:List Value) (s':Shared):Prop:=∃vs H',Inv X pins σ H' s'/\Vals vs us/\Q vs H'
def SP (X:Cx) (pins:List (Addr×Obj)) (D:Ends) (f:Flow) (s':Shared):Prop:=
 match f with
 |.next=>∃σ' H',Inv X pins σ' H' s'/\D.nx σ' H'
 |.brk=>∃σ' H',Inv X pins σ' H' s'/\D.bk σ' H'
 |.cont=>∃σ' H',Inv X pins σ' H' s'/\D.ct σ' H'
 |.ret u=>∃v σ' H',Inv X pins σ' H' s'/\RelV v u/\D.rt v H'
def PE (X:Cx) (e:Expr) (t:TE):Prop:=
 ∀(pins:List (Addr×Obj)) (s:Shared) (σ:St) (H:Hp) (Q:VK),Inv X pins σ H s->t σ H Q->wpAny (model X.prog X.w) X.A (eval e X.env) (EP X pins σ Q) X.xe s
def PT (X:Cx) (e:Expr) (t:TT):Prop:=
 ∀(pins:List (Addr×Obj)) (s:Shared) (σ:St) (H:Hp) (Q:Bool->Hp->Prop),Inv X pins σ H s->t σ H Q->wpAny (model X.prog X.w) X.A (isTrue e X.env (eval e X.env)) (TP X pins σ Q) X.xe s
def PW (X:Cx) (e:Expr) (t:TT):Prop:=
 ∀(whole:Sem Value) (pins:List (Addr×Obj)) (s:Shared) (σ:St) (H:Hp) (Q:Bool->Hp->Prop),Inv X pins σ H s->t σ H Q->wpAny (model X.prog X.w) X.A (isTrue e X.env whole) (TP X pins σ Q) X.xe s
theorem PW.pt {X:Cx}{e:Expr}{t:TT}(h:PW X e t):PT X e t:=h _
def PA (X:Cx) (es:List Expr) (t:TA):Prop:=
 ∀(pos:Pos) (pins:List (Addr×Obj)) (s:Shared) (σ:St) (H:Hp) (Q:List V->Hp->Prop),Inv X pins σ H s->t σ H Q->wpAny (model X.prog X.w) X.A (spliced (backTo pos (starEach es X.env))) (AP X pins σ Q) X.xe s
def PS (X:Cx) (st:Stmt) (t:TS):Prop:=
 ∀(pins:List (Addr×Obj)) (s:Shared) (σ:St) (H:Hp) (D:Ends),Inv X pins σ H s->t D σ H->wpAny (model X.prog X.w) X.A (exec st X.env) (SP X pins D) X.xe s
def PSs (X:Cx) (st:List Stmt) (t:TS):Prop:=
 ∀(pins:List (Addr×Obj)) (s:Shared) (σ:St) (H:Hp) (D:Ends),Inv X pins σ H s->t D σ H->wpAny (model X.prog X.w) X.A (execs st X.env) (SP X pins D) X.xe s
theorem thn {α:Type}{t:Sem α}{Q Q':α->Shared->Prop}{M:Model}{A:Around}{E:Value->Shared->Prop}{s:Shared}(h:wpAny M A t Q E s) (hQ:∀a s,Q a s->Q' a s):wpAny M A t Q' E s:=wpAny_mono h hQ λ_ _ x=>x
end L2
namespace L2
open PySem PySem.Spec PyProof.Rows
section
variable {X:Cx}
def tVar (i:Nat):TE:=λσ H Q=>∃v,σ[i]?=some (some v)/\Q v H
def tC (v:V):TE:=λ_ H Q=>Q v H
theorem pe_var {i:Nat}{x:Str}{pos:Pos}(hN:X.N[i]?=some x) (hv:Vis X.env.scope x) (hd:(x==("__debug__" : Str))=false:=by decide) (hcd:(x==("__classdict__" : Str))=false:=by decide):PE X (.Name x pos) (tVar i):=by
 intro pins s σ H Q I h
 obtain⟨v,e,h⟩:=h
 obtain⟨m,hn,hl⟩:=I.loc
 obtain⟨u,r,l⟩:=hl i x v hN e hv
 have fin:EP X pins σ Q u s:=⟨v,H,I,r,h⟩
 rcases l with ⟨hk,hm⟩|⟨hk,c,hc,hcell⟩
 ·exact wpAny_Name (wpAny_loadName_local I.ok.kind hk hn hm fin) hd
 ·rcases hk with hk|hk
  ·exact wpAny_Name (wpAny_loadName_cell I.ok.kind hk hc hcell fin) hd
  ·exact wpAny_Name (wpAny_loadName_free I.ok.kind hk hc hcell fin hcd) hd
theorem pe_int {i j pos}:PE X (.Constant (.int i) j pos) (tC (.int i)):=λ_ _ _ H _ I h=>wpAny_Constant_int ⟨.int i,H,I.tok _,⟨_,rfl⟩,h⟩
theorem pe_bl {b j pos}:PE X (.Constant (.bool b) j pos) (tC (.bl b)):=λ_ _ _ H _ I h=>Constant_bool ⟨.bl b,H,I,rfl,h⟩
theorem pe_str {x j pos}:PE X (.Constant (.str x) j pos) (tC (.str x)):=λ_ _ _ H _ I h=>Calls.Constant_str ⟨.str x,H,I.tok _,⟨_,rfl⟩,h⟩
def Gl (X:Cx) (x:Str):Prop:=X.env.kindOf x=some .globalImplicit
theorem ld_glob {E:Value->Shared->Prop}{pins:List (Addr×Obj)}{s:Shared}{σ:St}{H:Hp}{x:Str}{u:Value}{pos:Pos}{Q:Value->Shared->Prop}(I:Inv X pins σ H s) (hg:Gl X x) (hm:X.mg x=some u) (h:Q u s)
  (hd:(x==("__debug__" : Str))=false:=by decide):wpAny (model X.prog X.w) X.A (eval (.Name x pos) X.env) Q E s:=
 Calls.Name_function_global I.ok.kind hg (Calls.loadGlobal_global (by rw[I.ok.glob];exact I.mod.glob.keeps I.bk) hm h) hd
theorem ld_blt {E:Value->Shared->Prop}{pins:List (Addr×Obj)}{s:Shared}{σ:St}{H:Hp}{x:Str}{u:Value}{pos:Pos}{Q:Value->Shared->Prop}(I:Inv X pins σ H s) (hg:Gl X x) (hm:X.mg x=none) (hv:bootBuiltins x=some u) (h:Q u s)
  (hn:x ≠ "__name__":=by decide) (hd:(x==("__debug__" : Str))=false:=by decide):wpAny (model X.prog X.w) X.A (eval (.Name x pos) X.env) Q E s:=by
 obtain⟨mb,h1,h2⟩:=I.mod.blt
 exact Calls.Name_function_global I.ok.kind hg (Calls.loadGlobal_builtin (by rw[I.ok.glob];exact I.mod.glob.keeps I.bk) hm (by rw[I.ok.blt];exact h1.keeps I.bk) ((h2 x hn).trans hv) h) hd
theorem pe_glob {x:Str}{v:V}{u:Value}{pos:Pos}(hg:Gl X x) (hm:X.mg x=some u) (r:RelV v u) (hd:(x==("__debug__" : Str))=false:=by decide):PE X (.Name x pos) (tC v):=
 λ_ _ _ H _ I h=>ld_glob I hg hm ⟨v,H,I,r,h⟩ hd
theorem pe_bltn {x:Str}{v:V}{u:Value}{pos:Pos}(hg:Gl X x) (hm:X.mg x=none) (hv:bootBuiltins x=some u) (r:RelV v u) (hn:x ≠ "__name__":=by decide) (hd:(x==("__debug__" : Str))=false:=by decide):PE X (.Name x pos) (tC v):=
 λ_ _ _ H _ I h=>ld_blt I hg hm hv ⟨v,H,I,r,h⟩ hn hd
variable {a b:Expr}{ta tb:TE}{pos:Pos}
def PC (X:Cx) (op:CmpOp) (a b:Expr) (t:TE):Prop:=
 ∀(pins:List (Addr×Obj)) (s:Shared) (σ:St) (H:Hp) (Q:VK),Inv X pins σ H s->t σ H Q ->
  wpAny (model X.prog X.w) X.A (eval a X.env) (λv s₁=>wpAny (model X.prog X.w) X.A (eval b X.env) (λu s₂=>wpAny (model X.prog X.w) X.A (compareOp op v u) (EP X pins σ Q) X.xe s₂) X.xe s₁) X.xe s
def tB (t:TE):TT:=λσ H Q=>t σ H λx H1=>∃c,x=.bl c/\Q c H1
theorem pt_cmp {op:CmpOp}{t:TE}(h:PC X op a b t) (h1:behindInMarks op b=false:=by first|exact nobehind _ (by decide) (by decide)|rfl):PT X (.Compare a [op] [b] pos) (tB t):=by
 intro pins s σ H Q I hw
 refine wpAny_isTrue_Compare1 (thn (h pins s σ H _ I hw) λv s1 h1=>thn h1 λu s2 h2=>thn h2 λc s3 ⟨x,H1,I1,r1,q1⟩=>?_) h1
 obtain⟨d,rfl,q⟩:=q1
 cases r1
 exact wpAny_truthy_bool ⟨H1,I1,q⟩
theorem pt_val {e:Expr}{t:TE}(h:PE X e t) (he:∀whole,isTrue e X.env whole=(do let v <- whole;standAt e.pos;holding [v] (truthy v)):=by intro _;rfl):PT X e (tB t):=by
 intro pins s σ H Q I hw
 refine isTrue_plain (thn (h pins s σ H _ I hw) λv s1 ⟨x,H1,I1,r1,q1⟩=>?_) (he _)
 obtain⟨d,rfl,q⟩:=q1
 cases r1
 exact wpAny_truthy_bool ⟨H1,I1,q⟩
variable {tA tB':TT}{rest:List Expr}
def tAnd (t u:TT):TT:=λσ H Q=>t σ H λc H1=>if c=true then u σ H1 Q else Q false H1
def tOr (t u:TT):TT:=λσ H Q=>t σ H λc H1=>if c=true then Q true H1 else u σ H1 Q
def tNot (t:TT):TT:=λσ H Q=>t σ H λc H1=>Q (!c) H1
theorem pw_and1 (ha:PT X a tA):PW X (.BoolOp .And [a] pos) tA:=by
 intro wh pins s σ H Q I h
 refine isTrue_and (thn (ha pins s σ H Q I h) λc s1 e=>?_)
 cases c with
 |true=>exact isTrue_and_nil e
 |false=>exact e
theorem pw_or1 (ha:PT X a tA):PW X (.BoolOp .Or [a] pos) tA:=by
 intro wh pins s σ H Q I h
 refine isTrue_or (thn (ha pins s σ H Q I h) λc s1 e=>?_)
 cases c with
 |false=>exact isTrue_or_nil e
 |true=>exact e
theorem pw_and (ha:PT X a tA) (hb:PW X (.BoolOp .And (b::rest) pos) tB'):PW X (.BoolOp .And (a::b::rest) pos) (tAnd tA tB'):=by
 intro wh pins s σ H Q I h
 refine isTrue_and (thn (ha pins s σ H _ I h) λc s1 ⟨H1,I1,q1⟩=>?_)
 cases c with
 |true=>exact hb wh pins s1 σ H1 Q I1 q1
 |false=>exact⟨H1,I1,q1⟩
theorem pw_or (ha:PT X a tA) (hb:PW X (.BoolOp .Or (b::rest) pos) tB'):PW X (.BoolOp .Or (a::b::rest) pos) (tOr tA tB'):=by
 intro wh pins s σ H Q I h
 refine isTrue_or (thn (ha pins s σ H _ I h) λc s1 ⟨H1,I1,q1⟩=>?_)
 cases c with
 |true=>exact⟨H1,I1,q1⟩
 |false=>exact hb wh pins s1 σ H1 Q I1 q1
theorem pt_not (ha:PT X a tA):PT X (.UnaryOp .Not a pos) (tNot tA):=by
 intro pins s σ H Q I h
 exact isTrue_not (ha pins s σ H (λc H1=>Q (!c) H1) I h)
def tAndV (ta tb:TE):TE:=λσ H Q=>ta σ H λx H1=>∃c,x=.bl c/\if c=true then tb σ H1 Q else Q (.bl false) H1
def tNotV (ta:TE):TE:=λσ H Q=>ta σ H λx H1=>∃c,x=.bl c/\Q (.bl (!c)) H1
theorem pe_one {op}{t:TE}(h:PE X a t):PE X (.BoolOp op [a] pos) t:=λpins s σ H Q I hw=>BoolOp_one (h pins s σ H Q I hw)
theorem pe_and (ha:PE X a ta) (hb:PE X (.BoolOp .And (b::rest) pos) tb):PE X (.BoolOp .And (a::b::rest) pos) (tAndV ta tb):=by
 intro pins s σ H Q I h
 refine BoolOp_and (thn (ha pins s σ H _ I h) λv s1 ⟨x,H1,I1,r1,q1⟩=>?_)
 obtain⟨c,rfl,q1⟩:=q1
 cases r1
 refine wpAny_truthy_bool ?_
 cases c with
 |true=>exact hb pins s1 σ H1 Q I1 q1
 |false=>exact⟨.bl false,H1,I1,rfl,q1⟩
theorem pe_not (ha:PE X a ta):PE X (.UnaryOp .Not a pos) (tNotV ta):=by
 intro pins s σ H Q I h
 refine UnaryOp_ (thn (ha pins s σ H _ I h) λv s1 ⟨x,H1,I1,r1,q1⟩=>?_)
 obtain⟨c,rfl,q1⟩:=q1
 cases r1
 exact not_of (wpAny_truthy_bool ⟨.bl (!c),H1,I1,rfl,q1⟩)
end
end L2
namespace L2
open PySem PySem.Spec PyProof.Rows
def SqL (K:PySem.W.Frag) (H:Hp) (a:Addr) (xs:List V):Prop:=
 Rd H a (.lst xs) \/
  ∃(o:Obj) (its:Array Value) (n:Nat),K.lookup a=some o/\o.cls=.type "list" /\ o.dict=none/\o.data=.seq its n/\its.size<=sizeLine/\Vals xs its.toList
def SqT (K:PySem.W.Frag) (H:Hp) (a:Addr) (xs:List V):Prop:=
 Rd H a (.tup xs) \/
  ∃(o:Obj) (its:Array Value) (n:Nat),K.lookup a=some o/\o.cls=.type "tuple" /\ o.data=.seq its n/\its.size<=sizeLine/\Vals xs its.toList
def absV:Value->Option V
 |.none=>some .non
 |.bool b=>some (.bl b)
 |.int i _=>some (.int i)
 |.str x _=>some (.str x)
 |.bytes b _=>some (.byt b)
 |.float b _=>some (.flt b)
 |.ref a=>some (.ref a)
 |.type n=>some (.ty n)
 |_=>none
theorem RelV.abs {x:V}{u:Value}(r:RelV x u):absV u=some x:=by
 cases x with
 |non=>cases r;rfl
 |bl _=>cases r;rfl
 |int _=>obtain⟨t,rfl⟩:=r;rfl
 |str _=>obtain⟨t,rfl⟩:=r;rfl
 |byt _=>obtain⟨t,rfl⟩:=r;rfl
 |flt _=>obtain⟨t,rfl⟩:=r;rfl
 |ref _=>cases r;rfl
 |ty _=>cases r;rfl
theorem RelV.inj {x y:V}{u:Value}(r:RelV x u) (q:RelV y u):x=y:=Option.some.inj (r.abs.symm.trans q.abs)
theorem Vals.inj:∀{xs ys:List V}{us:List Value},Vals xs us->Vals ys us->xs=ys
 |_,_,_,.nil,.nil=>rfl
 |_,_,_,.cons r t,.cons r' t'=>by rw[r.inj r',Vals.inj t t']
section
variable {X:Cx}{pins:List (Addr×Obj)}{σ:St}{H:Hp}{s:Shared}{a:Addr}{xs ys:List V}
theorem SqL.of {K:PySem.W.Frag}(h:H a=some (.lst xs)):SqL K H a xs:=.inl (.inl h)
theorem SqT.of {K:PySem.W.Frag}(h:H a=some (.tup xs)):SqT K H a xs:=.inl (.inl h)
theorem Inv.list (I:Inv X pins σ H s) (h:SqL X.K H a xs):∃its:List Value,Vals xs its/\PlainL s.heap a its.toArray/\xs.length<=sizeLine:=by
 rcases h with h|⟨o,its,n,hk,hc,hd,hs,hz,r⟩
 ·obtain⟨z,its,n,r,e⟩:=h.ok I.hok
  exact⟨its,r,⟨_,n,e,rfl,rfl,rfl⟩,z⟩
 ·refine⟨its.toList,r,⟨o,n,I.kIn a o hk,hc,hd,by simpa using hs⟩,?_⟩
  have e:=r.length
  simp only[Array.length_toList] at e
  lia
theorem Inv.tuple (I:Inv X pins σ H s) (h:SqT X.K H a xs):∃its:List Value,Vals xs its/\IsTup s.heap a its.toArray/\xs.length<=sizeLine:=by
 rcases h with h|⟨o,its,n,hk,hc,hs,hz,r⟩
 ·obtain⟨z,its,r,p⟩:=h.ok I.hok
  exact⟨its,r,p,z⟩
 ·refine⟨its.toList,r,⟨o,I.kIn a o hk,hc,n,by simpa using hs⟩,?_⟩
  have e:=r.length
  simp only[Array.length_toList] at e
  lia
theorem Inv.list_inj (I:Inv X pins σ H s) (h:SqL X.K H a xs) (h':SqL X.K H a ys):xs=ys:=by
 obtain⟨its,r,⟨o,n,e,_,_,d⟩,_⟩:=I.list h
 obtain⟨its',r',⟨o',n',e',_,_,d'⟩,_⟩:=I.list h'
 rw[e] at e';cases e'
 rw[d] at d'
 injection d' with d1 _
 have:its=its':=by simpa using congrArg Array.toList d1
 subst this
 exact r.inj r'
theorem Inv.tuple_inj (I:Inv X pins σ H s) (h:SqT X.K H a xs) (h':SqT X.K H a ys):xs=ys:=by
 obtain⟨its,r,⟨o,e,_,n,d⟩,_⟩:=I.tuple h
 obtain⟨its',r',⟨o',e',_,n',d'⟩,_⟩:=I.tuple h'
 rw[e] at e';cases e'
 rw[d] at d'
 injection d' with d1 _
 have:its=its':=by simpa using congrArg Array.toList d1
 subst this
 exact r.inj r'
end
abbrev Cx.wish (X:Cx) (E:Value->Shared->Prop):Cx:={ X with xe:=E }
abbrev Cx.nox (X:Cx):Cx:=X.wish λ_ _=>False
theorem Cx.Ok.wish {X:Cx}(ok:X.Ok) (E:Value->Shared->Prop):(X.wish E).Ok:=
 ⟨ok.mod,ok.kind,ok.glob,ok.blt,ok.above,ok.inj,ok.has,ok.cab,ok.hd,ok.frames,ok.stk,ok.exf,ok.bs,ok.bsz,ok.noex,ok.exfs,ok.funs,ok.frf⟩
theorem Cx.Ok.unwish {X:Cx}{E:Value->Shared->Prop}(ok:(X.wish E).Ok):X.Ok:=
 ⟨ok.mod,ok.kind,ok.glob,ok.blt,ok.above,ok.inj,ok.has,ok.cab,ok.hd,ok.frames,ok.stk,ok.exf,ok.bs,ok.bsz,ok.noex,ok.exfs,ok.funs,ok.frf⟩
section
variable {X:Cx}{pins:List (Addr×Obj)}{σ:St}{H:Hp}{s:Shared}{E:Value->Shared->Prop}
theorem Inv.wish (I:Inv X pins σ H s) (E:Value->Shared->Prop):Inv (X.wish E) pins σ H s:=⟨I.ok.wish E,I.os,I.bare,I.base,I.loc,I.cell,I.free,I.freeC,I.pin,I.hok,I.len⟩
theorem Inv.unwish (I:Inv (X.wish E) pins σ H s):Inv X pins σ H s:=⟨I.ok.unwish,I.os,I.bare,I.base,I.loc,I.cell,I.free,I.freeC,I.pin,I.hok,I.len⟩
theorem SP.unwish {D:Ends}{f:Flow}{s':Shared}(h:SP (X.wish E) pins D f s'):SP X pins D f s':=by
 cases f with
 |next=>obtain⟨σ',H',I,q⟩:=h;exact⟨σ',H',I.unwish,q⟩
 |brk=>obtain⟨σ',H',I,q⟩:=h;exact⟨σ',H',I.unwish,q⟩
 |cont=>obtain⟨σ',H',I,q⟩:=h;exact⟨σ',H',I.unwish,q⟩
 |ret u=>obtain⟨v,σ',H',I,r,q⟩:=h;exact⟨v,σ',H',I.unwish,r,q⟩
theorem PSs.nox {st:List Stmt}{t:TS}(h:PSs X.nox st t):PSs X st t:=λpins s σ H D I hw=>
 wpAny_mono (h pins s σ H D (I.wish _) hw) (λ_ _ q=>q.unwish) λ_ _ z=>False.elim z
end
section
variable {X:Cx}{st:Stmt}{rest:List Stmt}{t u:TS}{e:Expr}{te:TE}{pos:Pos}
def tNext:TS:=λD σ H=>D.nx σ H
def tSeq (t u:TS):TS:=λD σ H=>t { D with nx:=u D } σ H
theorem pss_nil:PSs X [] tNext:=λ_ _ σ H _ I h=>wpAny_execs_nil ⟨σ,H,I,h⟩
theorem pss_cons (h1:PS X st t) (h2:PSs X rest u):PSs X (st::rest) (tSeq t u):=by
 intro pins s σ H D I h
 refine wpAny_execs_cons (thn (h1 pins s σ H { D with nx:=u D } I h) λf s1 q=>?_)
 cases f with
 |next=>
  obtain⟨σ',H',I',q⟩:=q
  exact h2 pins s1 σ' H' D I' q
 |ret v=>exact q
 |brk=>exact q
 |cont=>exact q
theorem pss_one (h1:PS X st t):PSs X [st] t:=by
 intro pins s σ H D I h
 refine wpAny_execs_cons (thn (h1 pins s σ H D I h) λf s1 q=>?_)
 cases f with
 |next=>exact wpAny_execs_nil q
 |ret v=>exact q
 |brk=>exact q
 |cont=>exact q
theorem Inv.quiet {pins:List (Addr×Obj)}{σ:St}{H:Hp}{s:Shared}(I:Inv X pins σ H s):interactive X.env=false:=by simp[interactive,I.ok.kind]
def tDrop (te:TE):TS:=λD σ H=>te σ H λ_ H1=>D.nx σ H1
theorem ps_expr (he:PE X e te) (hs:swapsWith e none pos.line X.env=pure false:=by rfl):PS X (.Expr e pos) (tDrop te):=by
 intro pins s σ H D I h
 exact wpAny_Expr_any (thn (he pins s σ H _ I h) λv s1 ⟨x,H1,I1,r1,q1⟩=>⟨σ,H1,I1,q1⟩) I.quiet hs
def tRet (te:TE):TS:=λD σ H=>te σ H D.rt
theorem ps_ret (he:PE X e te):PS X (.Return (some e) pos) (tRet te):=by
 intro pins s σ H D I h
 exact wpAny_Return_some (thn (he pins s σ H _ I h) λv s1 ⟨x,H1,I1,r1,q1⟩=>⟨x,σ,H1,I1,r1,q1⟩)
def tRetN:TS:=λD _ H=>D.rt .non H
theorem ps_retN:PS X (.Return none pos) tRetN:=λ_ _ σ H _ I h=>wpAny_Return_none ⟨.non,σ,H,I,rfl,h⟩
def tIfS (c:TT) (t u:TS):TS:=λD σ H=>c σ H λb H1=>if b=true then t D σ H1 else u D σ H1
theorem ps_if {c:Expr}{a b:List Stmt}{tc:TT}(hc:PT X c tc) (ha:PSs X a t) (hb:PSs X b u):PS X (.If c a b pos) (tIfS tc t u):=by
 intro pins s σ H D I h
 refine wpAny_If (thn (hc pins s σ H _ I h) λd s1 ⟨H1,I1,q1⟩=>?_)
 cases d with
 |true=>exact ha pins s1 σ H1 D I1 q1
 |false=>exact hb pins s1 σ H1 D I1 q1
def tNever:TS:=λ_ _ _=>False
theorem pss_never {sts:List Stmt}:PSs X sts tNever:=λ_ _ _ _ _ _ h=>h.elim
end
abbrev TG:=V->St->Hp->(St->Hp->Prop)->Prop
abbrev TGs:=List V->St->Hp->(St->Hp->Prop)->Prop
def PG (X:Cx) (target:Expr) (t:TG):Prop:=
 ∀(pins:List (Addr×Obj)) (s:Shared) (σ:St) (H:Hp) (v:V) (u:Value) (Q:St->Hp->Prop),Inv X pins σ H s->RelV v u->t v σ H Q ->
  wpAny (model X.prog X.w) X.A (assign target X.env u) (λ_ s'=>∃σ' H',Inv X pins σ' H' s'/\Q σ' H') X.xe s
def PGs (X:Cx) (ts:List Expr) (t:TGs):Prop:=
 ∀(pins:List (Addr×Obj)) (s:Shared) (σ:St) (H:Hp) (vs:List V) (us:List Value) (Q:St->Hp->Prop),Inv X pins σ H s->Vals vs us->t vs σ H Q ->
  wpAny (model X.prog X.w) X.A (assignInOrder ((assignEach ts X.env).map (·.2)) us) (λ_ s'=>∃σ' H',Inv X pins σ' H' s'/\Q σ' H') X.xe s
abbrev TSet:=V->V->V->Hp->(Hp->Prop)->Prop
def PSet (X:Cx) (t:TSet):Prop:=
 ∀(pins:List (Addr×Obj)) (s:Shared) (σ:St) (H:Hp) (o i v:V) (ov iv u:Value) (Q:Hp->Prop),Inv X pins σ H s->RelV o ov->RelV i iv->RelV v u->t o i v H Q ->
  wpAny (model X.prog X.w) X.A (setItem ov iv u) (λ_ s'=>∃H',Inv X pins σ H' s'/\Q H') X.xe s
abbrev TIp:=V->V->Hp->VK->Prop
def PIp (X:Cx) (op:Operator) (t:TIp):Prop:=
 ∀(pins:List (Addr×Obj)) (s:Shared) (σ:St) (H:Hp) (x y:V) (v u:Value) (Q:VK),Inv X pins σ H s->RelV x v->RelV y u->t x y H Q ->
  wpAny (model X.prog X.w) X.A (inplaceOp op v u) (EP X pins σ Q) X.xe s
section
variable {X:Cx}{pos:Pos}
def gName (i:Nat):TG:=λv σ H Q=>Q (σ.set i (some v)) H
theorem pg_name {i:Nat}{x:Str}(hN:X.N.Nodup) (hi:X.N[i]?=some x) (hx:Loc X.env.scope x) (hf:X.fn x=true\/X.env.scope.names.lookup x=some .local:=by first|exact .inl rfl|exact .inr rfl|assumption):PG X (.Name x pos) (gName i):=by
 intro pins s σ H v u Q I r h
 exact wpAny_assign_Name (store_ok I hN hi hx r (λs' I'=>⟨_,H,I',h⟩) hf)
def gNil:TGs:=λvs σ H Q=>vs=[]/\Q σ H
def gCons (t:TG) (u:TGs):TGs:=λvs σ H Q=>∃v r,vs=v::r/\t v σ H λσ' H'=>u r σ' H' Q
theorem pgs_nil:PGs X [] gNil:=by
 intro pins s σ H vs us Q I r h
 obtain⟨e,h⟩:=h
 subst e
 cases r
 exact assignInOrder_nil ⟨σ,H,I,h⟩
theorem pgs_cons {e:Expr}{es:List Expr}{t:TG}{u:TGs}(h1:PG X e t) (h2:PGs X es u)
  (hs:(assignEach (e::es) X.env).map (·.2)=assign e X.env::(assignEach es X.env).map (·.2):=by rfl):PGs X (e::es) (gCons t u):=by
 intro pins s σ H vs us Q I r h
 obtain⟨v,vr,e1,h⟩:=h
 subst e1
 cases r with
 |cons r rr=>
  rw[hs]
  refine assignInOrder_cons (thn (h1 pins s σ H _ _ _ I r h) λ_ s1 ⟨σ1,H1,I1,q1⟩=>?_)
  exact h2 pins s1 σ1 H1 _ _ Q I1 rr q1
def gTup (K:PySem.W.Frag) (n:Nat) (t:TGs):TG:=λv σ H Q=>∃a xs,v=.ref a/\SqT K H a xs/\xs.length=n/\t xs σ H Q
theorem pg_tup {es:List Expr}{k:Nat}{t:TGs}{n:Nat}(hc:X.calm=true) (h:PGs X es t)
  (hn:(assignEach es X.env).length=n:=by rfl) (hst:(assignEach es X.env).findIdx? (·.1)=none:=by rfl):PG X (.Tuple es k pos) (gTup X.K n t):=by
 intro pins s σ H v u Q I r hw
 obtain⟨a,xs,e1,hq,hl,hw⟩:=hw
 subst e1
 cases r
 obtain⟨its,rv,ht,hz⟩:=I.tuple hq
 refine assign_Tuple_tuple (I.ok.hd hc) ht (by simp[hn,<- hl,rv.length]) hst λh' hx=>?_
 have I1:Inv X pins σ H { s with heap:=h' }:=I.kept (t':=s.toks) λb o e=>hx b o (Nat.ne_of_lt (Heap.lt_size e)) e
 exact h pins _ σ H xs _ Q I1 (by simpa using rv) hw
def gSub (to ti:TE) (t:TSet):TG:=λv σ H Q=>to σ H λo H1=>ti σ H1 λi H2=>t o i v H2 λH3=>Q σ H3
theorem pg_sub {o i:Expr}{to ti:TE}{t:TSet}(ho:PE X o to) (hi:PE X i ti) (hs:PSet X t)
  (ha:∀v,assign (.Subscript o i pos) X.env v=(do
   let ov <- holding [v] (eval o X.env)
   let iv <- holding [v,ov] (eval i X.env)
   standAt pos
   holding [v,ov,iv] (setItem ov iv v)
   release [v,ov,iv] []):=by intro _;rfl):PG X (.Subscript o i pos) (gSub to ti t):=by
 intro pins s σ H v u Q I r h
 rw[ha]
 refine wpAny_bind (wpAny_holding (thn (ho pins s σ H _ I h) λov s1 ⟨x,H1,I1,r1,q1⟩=>?_))
 refine wpAny_bind (wpAny_holding (thn (hi pins s1 σ H1 _ I1 q1) λiv s2 ⟨y,H2,I2,r2,q2⟩=>?_))
 refine wpAny_bind (wpAny_standAt (wpAny_bind (wpAny_holding (thn (hs pins s2 σ H2 x y v ov iv u _ I2 r1 r2 r q2) λ_ s3 ⟨H3,I3,q3⟩=>?_))))
 exact wpAny_release ⟨σ,H3,I3,q3⟩
def tAsg (te:TE) (g:TG):TS:=λD σ H=>te σ H λx H1=>g x σ H1 D.nx
theorem ps_asg {tg e:Expr}{te:TE}{g:TG}(he:PE X e te) (hg:PG X tg g) (hs:swapsWithSole [tg] e pos.line X.env=pure false:=by rfl) (hw:swappedStores [tg] e X.env=pure none:=by rfl)
  (h1:(assignEach [tg] X.env).map (·.2)=[assign tg X.env]:=by rfl):PS X (.Assign [tg] e pos) (tAsg te g):=by
 intro pins s σ H D I h
 refine wpAny_Assign_stores (thn (he pins s σ H _ I h) λv s1 ⟨x,H1,I1,r1,q1⟩=>?_) hs hw
 rw[h1]
 exact thn (hg pins s1 σ H1 x v _ I1 r1 q1) λ_ s2 q=>q
theorem ps_set {i:Nat}{x:Str}{e:Expr}{te:TE}{pos':Pos}(hN:X.N.Nodup) (hi:X.N[i]?=some x) (hx:Loc X.env.scope x) (he:PE X e te) (hs:swapsWith e (some (.Name x pos')) pos.line X.env=pure false:=by rfl) (hf:X.fn x=true\/X.env.scope.names.lookup x=some .local:=by first|exact .inl rfl|exact .inr rfl|assumption) :
  PS X (.Assign [.Name x pos'] e pos) (tAsg te (gName i)):=by
 intro pins s σ H D I h
 refine wpAny_Assign_Name (thn (he pins s σ H _ I h) λv s1 ⟨y,H1,I1,r1,q1⟩=>?_) hs
 exact store_ok I1 hN hi hx r1 (λs2 I2=>⟨_,H1,I2,q1⟩) hf
def tAug (i:Nat) (te:TE) (ti:TIp):TS:=λD σ H=>∃x,σ[i]?=some (some x)/\te σ H λy H1=>ti x y H1 λz H2=>D.nx (σ.set i (some z)) H2
theorem ps_aug {i:Nat}{x:Str}{e:Expr}{te:TE}{op:Operator}{ti:TIp}{pos':Pos}(hN:X.N.Nodup) (hi:X.N[i]?=some x) (hx:Loc X.env.scope x) (he:PE X e te) (ho:PIp X op ti) (hf:X.fn x=true\/X.env.scope.names.lookup x=some .local:=by first|exact .inl rfl|exact .inr rfl|assumption) :
  PS X (.AugAssign (.Name x pos') op e pos) (tAug i te ti):=by
 intro pins s σ H D I h
 obtain⟨v,e1,h⟩:=h
 obtain⟨m,hn,hl⟩:=I.loc
 have vis:Vis X.env.scope x:=by rcases hx with k|k;exact .inl k;exact .inr (.inl k)
 obtain⟨u,r,l⟩:=hl i x v hi e1 vis
 refine wpAny_AugAssign_Name ?_
 have go:wpAny (model X.prog X.w) X.A (eval e X.env) (λw s₂=>wpAny (model X.prog X.w) X.A (inplaceOp op u w) (λr s₃=>wpAny (model X.prog X.w) X.A (storeName X.env x r) (λ_=>SP X pins D .next) X.xe s₃) X.xe s₂) X.xe s:=by
  refine thn (he pins s σ H _ I h) λw s1 ⟨y,H1,I1,r1,q1⟩=>?_
  refine thn (ho pins s1 σ H1 v y u w _ I1 r r1 q1) λz s2 ⟨zv,H2,I2,r2,q2⟩=>?_
  exact store_ok I2 hN hi hx r2 (λs3 I3=>⟨_,H2,I3,q2⟩) hf
 rcases l with ⟨hk,hm⟩|⟨hk,c,hc,hcell⟩
 ·exact wpAny_loadName_local I.ok.kind hk hn hm go
 ·rcases hk with hk|hk
  ·exact wpAny_loadName_cell I.ok.kind hk hc hcell go
  ·rcases hx with k|k
   ·have:X.env.scope.names.lookup x=some .free:=hk
    rw[k] at this;cases this
   ·have:X.env.scope.names.lookup x=some .free:=hk
    rw[k] at this;cases this
end
section
variable {X:Cx}{pos:Pos}
def tWhile (c:TT) (tb:TS):TS:=λD σ H=>∃W:Nat->St->Hp->Prop,(∃m,W m σ H)/\∀m σ H,W m σ H ->
 c σ H λb H1=>if b=true then ∃N:St->Hp->Prop,(∀σ' H',N σ' H'->∃m',m'<m/\W m' σ' H')/\tb { D with nx:=N,ct:=N,bk:=D.nx } σ H1 else D.nx σ H1
theorem ps_while {c:Expr}{body:List Stmt}{tc:TT}{tb:TS}(hp:PassesOwn (model X.prog X.w) X.A X.env X.xe) (hc:PT X c tc) (hb:PSs X body tb):PS X (.While c body [] pos) (tWhile tc tb):=by
 intro pins s σ H D I h
 obtain⟨W,⟨m0,w0⟩,turn⟩:=h
 refine wpAny_While (codeAny_whileLoop (λn s'=>∃σ' H',Inv X pins σ' H' s'/\W n σ' H') ?_ m0 ⟨σ,H,I,w0⟩)
 rintro n s1 ⟨σ1,H1,I1,w1⟩
 refine wpAny_passesOwn hp (thn (hc pins s1 σ1 H1 _ I1 (turn n σ1 H1 w1)) λb s2 ⟨H2,I2,q2⟩=>?_)
 cases b with
 |true=>
  obtain⟨N,hN,q2⟩:=q2
  rw[if_pos rfl]
  refine wpAny_passesOwn hp (thn (hb pins s2 σ1 H2 _ I2 q2) λf s3 q3=>?_)
  cases f with
  |next=>
   obtain⟨σ3,H3,I3,n3⟩:=q3
   obtain⟨m',hm,w3⟩:=hN σ3 H3 n3
   exact⟨m',hm,σ3,H3,I3,w3⟩
  |cont=>
   obtain⟨σ3,H3,I3,n3⟩:=q3
   obtain⟨m',hm,w3⟩:=hN σ3 H3 n3
   exact⟨m',hm,σ3,H3,I3,w3⟩
  |brk=>exact q3
  |ret v=>exact q3
 |false=>
  rw[if_neg Bool.false_ne_true]
  exact wpAny_execs_nil ⟨σ1,H2,I2,q2⟩
end
structure It where
 go:Nat->Hp->Prop
 yld:Nat->Hp->V->Hp->Prop
 stop:Nat->Hp->Prop
def FpOk (X:Cx) (pins:List (Addr×Obj)) (H:Hp) (b:Addr):Prop:=
 H b=none/\b≠X.env.locals/\b∉X.fs/\(b∈X.ex\/X.s₀.heap.objs.size<=b)/\(∀x c,X.env.cells.lookup x=some c->c≠b)/\∀p∈X.pn++pins,p.1≠b
theorem Inv.fpOk {X:Cx}{pins:List (Addr×Obj)}{σ:St}{H H':Hp}{s:Shared}{b:Addr}(I:Inv X pins σ H s) (hb:s.heap.objs.size<=b) (hn:H' b=none):FpOk X pins H' b:=by
 refine⟨hn,Nat.ne_of_gt (Nat.lt_of_lt_of_le I.lt hb),I.nofs hb,.inr (Nat.le_trans I.sz hb),λx c e z=>?_,λp hp z=>?_⟩
 ·obtain⟨v,q⟩:=I.cell x c e
  exact absurd (Nat.lt_of_lt_of_le q.lt (by rw[z];exact hb)) (Nat.lt_irrefl _)
 ·exact absurd (Nat.lt_of_lt_of_le (Heap.lt_size (I.pin p hp).1) (by rw[z];exact hb)) (Nat.lt_irrefl _)
structure Turn (P:Program) (w:World) (K:PySem.W.Frag) (tg:Expr) (J:It) (fp:List Addr) (it:Addr) (tn:Nat->Heap->Prop):Prop where
 mem:it∈fp
 obj:∀i h,tn i h->∀b∈fp,∃o,h.get? b=some o/\∀v,o.data≠.cell v
 keep:∀i h h',tn i h->(∀b∈fp,∀o,h.get? b=some o->h'.get? b=some o)->tn i h'
 item:∀(X:Cx),X.prog=P->X.w=w->X.K=K->X.calm=true->∀(i:Nat) (pins:List (Addr×Obj)) (s:Shared) (σ:St) (H:Hp) (E:Value->Shared->Prop),Inv X pins σ H s->(∀b∈fp,FpOk X pins H b)->tn i s.heap->J.go i H ->
  wpAny (model P w) X.A (pyNext (.ref it)) (λr s1=>∃u,r=some u /\
   wpAny (model P w) X.A (letOwnedTupleGo tg (.ref it) u) (λ_ s2=>∃x H',Inv X pins σ H' s2/\RelV x u/\J.yld i H x H'/\tn (i+1) s2.heap/\∀b∈fp,H' b=none) E s1) E s
 done:∀(X:Cx),X.prog=P->X.w=w->X.K=K->X.calm=true->∀(i:Nat) (pins:List (Addr×Obj)) (s:Shared) (σ:St) (H:Hp) (E:Value->Shared->Prop),Inv X pins σ H s->(∀b∈fp,FpOk X pins H b)->tn i s.heap->J.stop i H ->
  wpAny (model P w) X.A (pyNext (.ref it)) (λr s1=>r=none/\Inv X pins σ H s1) E s
 self:∀(A:Around) (i:Nat) (s:Shared) (Q:Value->Shared->Prop) (E:Value->Shared->Prop),tn i s.heap->Q (.ref it) s->wpAny (model P w) A (pyIter (.ref it)) Q E s
abbrev TI:=St->Hp->(It->Hp->Prop)->Prop
def PIE (X:Cx) (pins:List (Addr×Obj)) (σ:St) (tg:Expr) (R:It->Hp->Prop) (itv:Value) (s2:Shared):Prop:=
 ∃(it:Addr) (fp:List Addr) (tn:Nat->Heap->Prop) (J:It) (H':Hp),itv=.ref it/\Inv X pins σ H' s2/\Turn X.prog X.w X.K tg J fp it tn/\tn 0 s2.heap/\(∀b∈fp,FpOk X pins H' b)/\R J H'
def PI (X:Cx) (tg iter:Expr) (wi:TI):Prop:=
 ∀(pins:List (Addr×Obj)) (s:Shared) (σ:St) (H:Hp) (R:It->Hp->Prop),Inv X pins σ H s->wi σ H R ->
  wpAny (model X.prog X.w) X.A (eval iter X.env) (λv s1=>wpAny (model X.prog X.w) X.A (pyIter v) (PIE X pins σ tg R) X.xe s1) X.xe s
theorem go_of {M:Model}{A:Around}{E:Value->Shared->Prop}{s:Shared}{tg:Expr}{it:Addr}{u:Value}{o:Obj}{n:String}{vs:Array Value}{Q:Unit->Shared->Prop}(ho:s.heap.get? it=some o) (hc:o.cls=.type n) (hd:o.data=.fields vs)
  (hn:["enumerate", "zip", "dict_itemiterator", "dict_reverseitemiterator", "odict_iterator", "itertools.zip_longest", "itertools.pairwise"].contains n=false) (hQ:Q () s):wpAny M A (letOwnedTupleGo tg (.ref it) u) Q E s:=by
 unfold letOwnedTupleGo
 cases tg<;>first
  |exact wpAny_pure hQ
  |(cases u<;>first
    |exact wpAny_pure hQ
    |(refine wpAny_bind (wpAny_load ho ?_)
      rw[hc,hd]
      show wpAny M A (if (["enumerate", "zip", "dict_itemiterator", "dict_reverseitemiterator", "odict_iterator", "itertools.zip_longest", "itertools.pairwise"].contains n&&vs[0]?==some (rawInt _))=true then _ else _) Q E s
      rw[if_neg (by intro h;rw[hn,Bool.false_and] at h;cases h)]
      exact wpAny_pure hQ))
def Itl (K:PySem.W.Frag) (a:Addr):It:=
 ⟨λi H=>∃xs x,SqL K H a xs/\xs[i]?=some x,λi H x H'=>H'=H/\∀xs,SqL K H a xs->xs[i]?=some x,λi H=>∃xs,SqL K H a xs/\xs.length<=i⟩
def Itt (K:PySem.W.Frag) (a:Addr):It:=
 ⟨λi H=>∃xs x,SqT K H a xs/\xs[i]?=some x,λi H x H'=>H'=H/\∀xs,SqT K H a xs->xs[i]?=some x,λi H=>∃xs,SqT K H a xs/\xs.length<=i⟩
def Itr (lo:Int) (n:Nat):It:=⟨λi _=>i<n,λi H x H'=>H'=H/\x=.int (lo+i),λi _=>n<=i⟩
theorem turn_list {P:Program}{w:World}{K:PySem.W.Frag}{tg:Expr}(a it:Addr):Turn P w K tg (Itl K a) [it] it (λi h=>h.IsListIter it a i) where
 mem:=by simp
 obj:=λi h st b hb=>by
  have e:b=it:=by simpa using hb
  subst e
  obtain⟨o,e,c,d⟩:=st
  exact⟨o,e,λv z=>by rw[d] at z;cases z⟩
 keep:=λi h h' st k=>st.at λo e=>k it (by simp) o e
 item:=by
  intro X hP hw hK hc i pins s σ H E I hf st hg
  subst hP hw hK
  obtain⟨xs,x,hq,hx⟩:=hg
  obtain⟨its,rv,p,hz⟩:=I.list hq
  obtain⟨u,hu,ru⟩:=rv.get hx
  obtain⟨f0,f1,f2,f3,f4,f5⟩:=hf it (by simp)
  refine wpAny_pyNext_list_item st p.isList (x:=u) (by simpa using hu) λh' st' sb=>?_
  have I1:Inv X pins σ H { s with heap:=h' }:=I.turned (t':=s.toks) (λb o hb e=>(sb.2 b hb).trans e) f0 f1 f3 f4 f5
  obtain⟨o,e,c,d⟩:=id st'
  exact⟨u,rfl,go_of (s:={ s with heap:=h' }) e c d (by decide) ⟨x,H,I1,ru,⟨rfl,λys hy=>by rw[I.list_inj hy hq];exact hx⟩,st',λb hb=>(hf b hb).1⟩⟩
 done:=by
  intro X hP hw hK hc i pins s σ H E I hf st hg
  subst hP hw hK
  obtain⟨xs,hq,hx⟩:=hg
  obtain⟨its,rv,p,hz⟩:=I.list hq
  obtain⟨f0,f1,f2,f3,f4,f5⟩:=hf it (by simp)
  have hl:=rv.length
  exact wpAny_pyNext_list_end (I.ok.hd hc) st p.isList (by simp;lia) λh' eb=>⟨rfl,I.turned (t':=s.toks) (λb o hb e=>eb b o hb e) f0 f1 f3 f4 f5⟩
 self:=λ_ _ _ _ _ st h=>wpAny_pyIter_listiter st h
theorem turn_tuple {P:Program}{w:World}{K:PySem.W.Frag}{tg:Expr}(a it:Addr):Turn P w K tg (Itt K a) [it] it (λi h=>h.IsTupleIter it a i) where
 mem:=by simp
 obj:=λi h st b hb=>by
  have e:b=it:=by simpa using hb
  subst e
  obtain⟨o,e,c,d⟩:=st
  exact⟨o,e,λv z=>by rw[d] at z;cases z⟩
 keep:=λi h h' st k=>st.at λo e=>k it (by simp) o e
 item:=by
  intro X hP hw hK hc i pins s σ H E I hf st hg
  subst hP hw hK
  obtain⟨xs,x,hq,hx⟩:=hg
  obtain⟨its,rv,p,hz⟩:=I.tuple hq
  obtain⟨u,hu,ru⟩:=rv.get hx
  obtain⟨f0,f1,f2,f3,f4,f5⟩:=hf it (by simp)
  refine wpAny_pyNext_tuple_item st (show s.heap.IsTuple a its.toArray from p) (x:=u) (by simpa using hu) λh' st' sb=>?_
  have I1:Inv X pins σ H { s with heap:=h' }:=I.turned (t':=s.toks) (λb o hb e=>(sb.2 b hb).trans e) f0 f1 f3 f4 f5
  obtain⟨o,e,c,d⟩:=id st'
  exact⟨u,rfl,go_of (s:={ s with heap:=h' }) e c d (by decide) ⟨x,H,I1,ru,⟨rfl,λys hy=>by rw[I.tuple_inj hy hq];exact hx⟩,st',λb hb=>(hf b hb).1⟩⟩
 done:=by
  intro X hP hw hK hc i pins s σ H E I hf st hg
  subst hP hw hK
  obtain⟨xs,hq,hx⟩:=hg
  obtain⟨its,rv,p,hz⟩:=I.tuple hq
  obtain⟨f0,f1,f2,f3,f4,f5⟩:=hf it (by simp)
  have hl:=rv.length
  exact wpAny_pyNext_tuple_end (I.ok.hd hc) st (show s.heap.IsTuple a its.toArray from p) (by simp;lia) λh' eb=>⟨rfl,I.turned (t':=s.toks) (λb o hb e=>eb b o hb e) f0 f1 f3 f4 f5⟩
 self:=λ_ _ _ _ _ st h=>wpAny_pyIter_tupleiter st h
theorem turn_range {P:Program}{w:World}{K:PySem.W.Frag}{tg:Expr}(it:Addr) (lo:Int) (n:Nat):Turn P w K tg (Itr lo n) [it] it (λi h=>IsRangeIter h it (lo+(i:Nat)*1) ((n:Int)-(i:Nat)) 1) where
 mem:=by simp
 obj:=λi h st b hb=>by
  have e:b=it:=by simpa using hb
  subst e
  exact⟨_,st,λv z=>by
   have z':Data.fields _=Data.cell v:=z
   cases z'⟩
 keep:=λi h h' st k=>k it (by simp) _ st
 item:=by
  intro X hP hw hK hc i pins s σ H E I hf st hg
  subst hP hw hK
  obtain⟨f0,f1,f2,f3,f4,f5⟩:=hf it (by simp)
  have W:=Walks.range (prog:=X.prog) (w:=X.w) (I.ok.hd hc) it lo 1 n
  refine W.item i s _ _ hg st λv h' tk hv st' kk=>?_
  obtain⟨t,rfl⟩:=hv
  have I1:Inv X pins σ H { s with heap:=h',toks:=tk }:=I.turned (λb o hb e=>kk b o (by simpa using hb) e) f0 f1 f3 f4 f5
  refine⟨_,rfl,go_of (s:={ s with heap:=h',toks:=tk }) (n:= "range_iterator") st' rfl rfl (by decide) ⟨.int (lo+i),H,I1,⟨t,?_⟩,⟨rfl,rfl⟩,st',λb hb=>(hf b hb).1⟩⟩
  rw[Int.mul_one]
 done:=by
  intro X hP hw hK hc i pins s σ H E I hf st hg
  subst hP hw hK
  obtain⟨f0,f1,f2,f3,f4,f5⟩:=hf it (by simp)
  exact wpAny_pyNext_range_end (I.ok.hd hc) st (by have:n<=i:=hg;lia) λh' eb=>⟨rfl,I.turned (t':=s.toks) (λb o hb e=>eb b o hb e) f0 f1 f3 f4 f5⟩
 self:=λ_ _ _ _ _ st h=>wpAny_pyIter_rangeiter st h
end L2
namespace L2
open PySem PySem.Spec PyProof.Rows
section
variable {X:Cx}{tg:Expr}
def iList (K:PySem.W.Frag) (tl:TE):TI:=λσ H R=>tl σ H λx H1=>∃a,x=.ref a/\(∃xs,SqL K H1 a xs)/\R (Itl K a) H1
def iTup (K:PySem.W.Frag) (tl:TE):TI:=λσ H R=>tl σ H λx H1=>∃a,x=.ref a/\(∃xs,SqT K H1 a xs)/\R (Itt K a) H1
theorem pi_list {l:Expr}{tl:TE}(hl:PE X l tl):PI X tg l (iList X.K tl):=by
 intro pins s σ H R I h
 refine thn (hl pins s σ H _ I h) λv s1 ⟨x,H1,I1,r1,q1⟩=>?_
 obtain⟨a,e,⟨xs,hq⟩,q⟩:=q1
 subst e
 cases r1
 obtain⟨its,rv,p,hz⟩:=I1.list hq
 refine wpAny_pyIter_list p.isList ?_
 refine⟨s1.heap.objs.size,[s1.heap.objs.size],_,_,H1,rfl,I1.kept (t':=s1.toks) λb o e=>Heap.get?_push_of_some _ e,turn_list a _,⟨_,Heap.get?_push_size _ rfl,rfl,rfl⟩,λb hb=>?_,q⟩
 have e:b=s1.heap.objs.size:=by simpa using hb
 subst e
 exact I1.fpOk (Nat.le_refl _) (I1.hok.fresh (Nat.le_refl _))
theorem pi_tup {l:Expr}{tl:TE}(hl:PE X l tl):PI X tg l (iTup X.K tl):=by
 intro pins s σ H R I h
 refine thn (hl pins s σ H _ I h) λv s1 ⟨x,H1,I1,r1,q1⟩=>?_
 obtain⟨a,e,⟨xs,hq⟩,q⟩:=q1
 subst e
 cases r1
 obtain⟨its,rv,p,hz⟩:=I1.tuple hq
 refine wpAny_pyIter_tuple (show s1.heap.IsTuple a its.toArray from p) ?_
 refine⟨s1.heap.objs.size,[s1.heap.objs.size],_,_,H1,rfl,I1.kept (t':=s1.toks) λb o e=>Heap.get?_push_of_some _ e,turn_tuple a _,⟨_,Heap.get?_push_size _ rfl,rfl,rfl⟩,λb hb=>?_,q⟩
 have e:b=s1.heap.objs.size:=by simpa using hb
 subst e
 exact I1.fpOk (Nat.le_refl _) (I1.hok.fresh (Nat.le_refl _))
theorem range_it {pins:List (Addr×Obj)}{σ:St}{H:Hp}{s:Shared}{R:It->Hp->Prop}{E:Value->Shared->Prop}{lo hi:Int}{t u v:Tok}{tk:Nat}(I:Inv X pins σ H s) (h1:-(2^62)<=lo) (h2:lo<2^62) (h3:-(2^62)<=hi) (h4:hi<2^62)
  (q:R (Itr lo (hi-lo).toNat) H):wpAny (model X.prog X.w) X.A (pyIter (.ref s.heap.objs.size)) (PIE X pins σ tg R) E { s with heap:=s.heap.push { cls:=.type "range",data:=.fields #[.int lo t,.int hi u,.int 1 v] },toks:=tk }:=by
 refine wpAny_pyIter_range (IsRange.new ..) (small_one h1 h2 h3 h4) ?_
 have I1:Inv X pins σ H { s with heap:=s.heap.push { cls:=.type "range",data:=.fields #[.int lo t,.int hi u,.int 1 v] },toks:=tk }:=I.kept λb o e=>Heap.get?_push_of_some _ e
 refine⟨(s.heap.push { cls:=.type "range",data:=.fields #[.int lo t,.int hi u,.int 1 v] }).objs.size,[(s.heap.push { cls:=.type "range",data:=.fields #[.int lo t,.int hi u,.int 1 v] }).objs.size],_,_,H,rfl,
  I1.kept (t':=tk) λb o e=>Heap.get?_push_of_some _ e,turn_range _ lo (hi-lo).toNat,?_,λb hb=>?_,q⟩
 ·have e1:lo+((0:Nat):Int)*1=lo:=by simp
  have e2:(((hi-lo).toNat:Nat):Int)-((0:Nat):Int)=Builtin.Range.rangeSize lo hi 1:=by rw[rangeSize_one];split<;>lia
  show IsRangeIter _ _ (lo+((0:Nat):Int)*1) ((((hi-lo).toNat:Nat):Int)-((0:Nat):Int)) 1
  rw[e1,e2]
  exact Heap.get?_push_size _ rfl
 ·have e:b=(s.heap.push { cls:=.type "range",data:=.fields #[.int lo t,.int hi u,.int 1 v] }).objs.size:=by simpa using hb
  subst e
  exact I1.fpOk (Nat.le_refl _) (I1.hok.fresh (Nat.le_refl _))
def iRng1 (ta:TA):TI:=λσ H R=>ta σ H λvs H1=>∃j:Int,vs=[.int j]/\-(2^62)<=j/\j<2^62/\R (Itr 0 j.toNat) H1
theorem pi_range1 {a:Expr}{ta:TA}{p pos:Pos}(hg:Gl X "range") (hm:X.mg "range" = none) (ha:PA X [a] ta) (hs:starEach [a] X.env=[(false,eval a X.env)]:=by rfl):PI X tg (.Call (.Name "range" p) [a] [] pos) (iRng1 ta):=by
 intro pins s σ H R I h
 refine Call_ (ld_blt I hg hm boot_range (PyProof.Rows.callWith_type1 (thn (ha pos pins s σ H _ I h) λus s1 ⟨vs,H1,I1,r1,q1⟩=>?_) hs rfl))
 obtain⟨j,e,q1,q2,q⟩:=q1
 subst e
 cases r1 with
 |cons r rr=>
  cases rr
  obtain⟨t,rfl⟩:=r
  exact call_range_1 (range_it I1 (by lia) (by lia) q1 q2 (by simpa using q))
def tFor (wi:TI) (g:TG) (tb:TS):TS:=λD σ H=>wi σ H λJ H1=>∃W:Nat->Nat->St->Hp->Prop,(∃m,W 0 m σ H1)/\∀i m σ H,W i m σ H ->
 (J.stop i H/\D.nx σ H)\/(J.go i H/\∃N:St->Hp->Prop,(∀σ' H',N σ' H'->∃m',m'<m/\W (i+1) m' σ' H')/\∀x H',J.yld i H x H'->g x σ H' λσ2 H2=>tb { D with nx:=N,ct:=N,bk:=D.nx } σ2 H2)
def pinsAt (fp:List Addr) (h:Heap):List (Addr×Obj):=fp.filterMap λb=>(h.get? b).map λo=>(b,o)
theorem mem_pinsAt {fp:List Addr}{h:Heap}{b:Addr}{o:Obj}(hb:b∈fp) (e:h.get? b=some o):(b,o)∈pinsAt fp h:=List.mem_filterMap.mpr ⟨b,hb,by rw[e];rfl⟩
theorem of_pinsAt {fp:List Addr}{h:Heap}{p:Addr×Obj}(hp:p∈pinsAt fp h):p.1∈fp/\h.get? p.1=some p.2:=by
 obtain⟨b,hb,e⟩:=List.mem_filterMap.mp hp
 cases q:h.get? b with
 |none=>rw[q] at e;cases e
 |some o=>
  rw[q] at e
  have e':(b,o)=p:=Option.some.inj e
  subst e'
  exact⟨hb,q⟩
theorem Inv.pinned {pins:List (Addr×Obj)}{σ:St}{H:Hp}{s:Shared}{fp:List Addr}(I:Inv X pins σ H s) (hf:∀b∈fp,FpOk X pins H b) (ho:∀b∈fp,∃o,s.heap.get? b=some o/\∀v,o.data≠.cell v):Inv X (pins++pinsAt fp s.heap) σ H s:=
 I.pins_of λp hp=>(List.mem_append.mp hp).elim (λz=>I.pin p (List.mem_append_right _ z)) λz=>by
  obtain⟨hb,e⟩:=of_pinsAt z
  obtain⟨f0,f1,f2,_⟩:=hf p.1 hb
  obtain⟨o,e',d⟩:=ho p.1 hb
  rw[e] at e';cases e'
  exact⟨e,f0,f1,f2,d⟩
theorem Inv.unpinned {pins pl:List (Addr×Obj)}{σ:St}{H:Hp}{s:Shared}(I:Inv X (pins++pl) σ H s):Inv X pins σ H s:=I.pins_of λp hp=>I.pin p (List.mem_append_right _ (List.mem_append_left _ hp))
theorem ps_for {iter:Expr}{body:List Stmt}{wi:TI}{g:TG}{tb:TS}{pos:Pos}(hp:PassesOwn (model X.prog X.w) X.A X.env X.xe) (hc:X.calm=true) (hi:PI X tg iter wi) (hg:PG X tg g) (hb:PSs X body tb)
  (hs:∀x,foldedSetIterable iter X.env x=pure x:=by intro _;rfl):PS X (.For tg iter body [] pos) (tFor wi g tb):=by
 intro pins s σ H D I h
 refine wpAny_For (thn (hi pins s σ H _ I h) λv s1 h1=>thn h1 λitv s2 h2=>?_) hs
 obtain⟨it,fp,tn,J,H2,e,I2,T,st2,f2,W,⟨m0,w0⟩,turn⟩:=h2
 subst e
 have stat:∀{H':Hp},(∀b∈fp,H' b=none)->∀b∈fp,FpOk X pins H' b:=λhn b hb=>⟨hn b hb,(f2 b hb).2⟩
 refine codeAny_forLoop_any (λn s'=>∃i σ' H',Inv X pins σ' H' s'/\tn i s'.heap/\(∀b∈fp,H' b=none)/\W i n σ' H') ?_ m0 ⟨0,σ,H2,I2,st2,λb hb=>(f2 b hb).1,w0⟩
 rintro n s3 ⟨i,σ3,H3,I3,st3,fr3,w3⟩
 rcases turn i n σ3 H3 w3 with ⟨stop,qn⟩|⟨go,N,hN,step⟩
 ·refine wpAny_passesOwn hp (thn (T.done X rfl rfl rfl hc i pins s3 σ3 H3 X.xe I3 (stat fr3) st3 stop) λr s4 ⟨hr,I4⟩=>?_)
  subst hr
  exact wpAny_execs_nil ⟨σ3,H3,I4,qn⟩
 ·refine wpAny_passesOwn hp (thn (T.item X rfl rfl rfl hc i pins s3 σ3 H3 X.xe I3 (stat fr3) st3 go) λr s4 ⟨u,hr,h4⟩=>?_)
  subst hr
  refine wpAny_passesOwn hp (thn h4 λ_ s5 ⟨x,H5,I5,r5,y5,st5,fr5⟩=>?_)
  have I5':=I5.pinned (stat fr5) (T.obj _ _ st5)
  refine wpAny_passesOwn hp (thn (hg _ s5 σ3 H5 x u _ I5' r5 (step x H5 y5)) λ_ s6 ⟨σ6,H6,I6,q6⟩=>?_)
  refine wpAny_passesOwn hp (thn (hb _ s6 σ6 H6 _ I6 q6) λf s7 q7=>?_)
  have again:∀{σ7:St}{H7:Hp},Inv X (pins++pinsAt fp s5.heap) σ7 H7 s7->N σ7 H7->∃m,m<n/\∃i σ' H',Inv X pins σ' H' s7/\tn i s7.heap/\(∀b∈fp,H' b=none)/\W i m σ' H':=λ{σ7 H7} I7 n7=>by
   obtain⟨m',hm,w7⟩:=hN σ7 H7 n7
   refine⟨m',hm,i+1,σ7,H7,I7.unpinned,T.keep _ _ _ st5 λb hb o e=>(I7.pin (b,o) (List.mem_append_right _ (List.mem_append_right _ (mem_pinsAt hb e)))).1,λb hb=>?_,w7⟩
   obtain⟨o,e,d⟩:=T.obj _ _ st5 b hb
   exact (I7.pin (b,o) (List.mem_append_right _ (List.mem_append_right _ (mem_pinsAt hb e)))).2.1
  cases f with
  |next=>obtain⟨σ7,H7,I7,n7⟩:=q7;exact again I7 n7
  |cont=>obtain⟨σ7,H7,I7,n7⟩:=q7;exact again I7 n7
  |brk=>obtain⟨σ7,H7,I7,q7⟩:=q7;exact⟨σ7,H7,I7.unpinned,q7⟩
  |ret v=>obtain⟨x7,σ7,H7,I7,r7,q7⟩:=q7;exact⟨x7,σ7,H7,I7.unpinned,r7,q7⟩
end
theorem for_tup {K:PySem.W.Frag}{a:Addr}{xs:List V}{g:TG}{tb:TS}{D:Ends}{σ:St}{H:Hp}(Pv:Nat->St->Hp->Prop) (h0:Pv 0 σ H) (hl:∀i σ H,i<=xs.length->Pv i σ H->SqT K H a xs)
  (hs:∀i x σ H,xs[i]?=some x->Pv i σ H->g x σ H λσ2 H2=>tb { D with nx:=Pv (i+1),ct:=Pv (i+1),bk:=D.nx } σ2 H2) (hd:∀σ H,Pv xs.length σ H->D.nx σ H) :
  ∃W:Nat->Nat->St->Hp->Prop,(∃m,W 0 m σ H)/\∀i m σ H,W i m σ H ->
   ((Itt K a).stop i H/\D.nx σ H)\/((Itt K a).go i H/\∃N:St->Hp->Prop,(∀σ' H',N σ' H'->∃m',m'<m/\W (i+1) m' σ' H')/\∀x H',(Itt K a).yld i H x H'->g x σ H' λσ2 H2=>tb { D with nx:=N,ct:=N,bk:=D.nx } σ2 H2):=by
 refine⟨λi m σ H=>m=xs.length-i/\i<=xs.length/\Pv i σ H,⟨xs.length,by simp,Nat.zero_le _,h0⟩,?_⟩
 rintro i m σ H ⟨rfl,hi,p⟩
 have q:=hl i σ H hi p
 by_cases hlt:i<xs.length
 ·refine .inr ⟨⟨xs,xs[i],q,by simp[hlt]⟩,Pv (i+1),λσ' H' p'=>⟨xs.length-(i+1),by lia,rfl,hlt,p'⟩,λx H' y=>?_⟩
  obtain⟨e,y⟩:=y
  subst e
  exact hs i x σ _ (y xs q) p
 ·have e:i=xs.length:=by lia
  subst e
  exact .inl ⟨⟨xs,q,Nat.le_refl _⟩,hd σ H p⟩
theorem for_range {lo:Int}{n:Nat}{g:TG}{tb:TS}{D:Ends}{σ:St}{H:Hp}(Pv:Nat->St->Hp->Prop) (h0:Pv 0 σ H)
  (hs:∀i σ H,i<n->Pv i σ H->g (.int (lo+i)) σ H λσ2 H2=>tb { D with nx:=Pv (i+1),ct:=Pv (i+1),bk:=D.nx } σ2 H2) (hd:∀σ H,Pv n σ H->D.nx σ H) :
  ∃W:Nat->Nat->St->Hp->Prop,(∃m,W 0 m σ H)/\∀i m σ H,W i m σ H ->
   ((Itr lo n).stop i H/\D.nx σ H)\/((Itr lo n).go i H/\∃N:St->Hp->Prop,(∀σ' H',N σ' H'->∃m',m'<m/\W (i+1) m' σ' H')/\∀x H',(Itr lo n).yld i H x H'->g x σ H' λσ2 H2=>tb { D with nx:=N,ct:=N,bk:=D.nx } σ2 H2):=by
 refine⟨λi m σ H=>m=n-i/\i<=n/\Pv i σ H,⟨n,by simp,Nat.zero_le _,h0⟩,?_⟩
 rintro i m σ H ⟨rfl,hi,p⟩
 by_cases hlt:i<n
 ·refine .inr ⟨hlt,Pv (i+1),λσ' H' p'=>⟨n-(i+1),by lia,rfl,hlt,p'⟩,λx H' y=>?_⟩
  obtain⟨e,y⟩:=y
  subst e y
  exact hs i σ _ hlt p
 ·have e:i=n:=by lia
  subst e
  exact .inl ⟨Nat.le_refl _,hd σ H p⟩
end L2
namespace L2
open PySem PySem.Spec PyProof.Rows
abbrev R2:=V->V->Hp->VK->Prop
def OpR (X:Cx) (f:Value->Value->Sem Value) (r:R2):Prop:=
 ∀(pins:List (Addr×Obj)) (s:Shared) (σ:St) (H:Hp) (x y:V) (v u:Value) (Q:VK),Inv X pins σ H s->RelV x v->RelV y u->r x y H Q ->
  wpAny (model X.prog X.w) X.A (f v u) (EP X pins σ Q) X.xe s
def UnR (X:Cx) (f:Value->Sem Value) (r:V->Hp->VK->Prop):Prop:=
 ∀(pins:List (Addr×Obj)) (s:Shared) (σ:St) (H:Hp) (x:V) (v:Value) (Q:VK),Inv X pins σ H s->RelV x v->r x H Q ->
  wpAny (model X.prog X.w) X.A (f v) (EP X pins σ Q) X.xe s
def CallR (X:Cx) (f:Value) (r:List V->Hp->VK->Prop):Prop:=
 ∀(pins:List (Addr×Obj)) (s:Shared) (σ:St) (H:Hp) (xs:List V) (us:List Value) (Q:VK),Inv X pins σ H s->Vals xs us->r xs H Q ->
  wpAny (model X.prog X.w) X.A (call f us) (EP X pins σ Q) X.xe s
def tOp (r:R2) (ta tb:TE):TE:=λσ H Q=>ta σ H λx H1=>tb σ H1 λy H2=>r x y H2 Q
def tUn (r:V->Hp->VK->Prop) (ta:TE):TE:=λσ H Q=>ta σ H λx H1=>r x H1 Q
def rI (C:Int->Int->Prop) (g:Int->Int->V):R2:=λx y H Q=>∃i j,x=.int i/\y=.int j/\C i j/\Q (g i j) H
def rI0 (g:Int->Int->V):R2:=λx y H Q=>∃i j,x=.int i/\y=.int j/\Q (g i j) H
def rU (g:Int->V):V->Hp->VK->Prop:=λx H Q=>∃i,x=.int i/\Q (g i) H
section
variable {X:Cx}{a b c:Expr}{ta tb tc:TE}{pos:Pos}
theorem binT (ha:PE X a ta) (hb:PE X b tb){pins:List (Addr×Obj)}{s:Shared}{σ:St}{H:Hp}{R:V->V->Hp->Prop}(I:Inv X pins σ H s)
  (h:ta σ H λx H1=>tb σ H1 λy H2=>R x y H2){Q:Value->Shared->Prop}{f:Value->Value->Sem Value}
  (hf:∀v u s2 x y H2,Inv X pins σ H2 s2->RelV x v->RelV y u->R x y H2->wpAny (model X.prog X.w) X.A (f v u) Q X.xe s2) :
  wpAny (model X.prog X.w) X.A (eval a X.env) (λv s₁=>wpAny (model X.prog X.w) X.A (eval b X.env) (λu s₂=>wpAny (model X.prog X.w) X.A (f v u) Q X.xe s₂) X.xe s₁) X.xe s:=by
 refine thn (ha pins s σ H _ I h) λv s1 ⟨x,H1,I1,r1,q1⟩=>?_
 refine thn (hb pins s1 σ H1 _ I1 q1) λu s2 ⟨y,H2,I2,r2,q2⟩=>?_
 exact hf v u s2 x y H2 I2 r1 r2 q2
theorem pe_op {op:Operator}{r:R2}(ho:OpR X (binaryOp op) r) (ha:PE X a ta) (hb:PE X b tb):PE X (.BinOp a op b pos) (tOp r ta tb):=by
 intro pins s σ H Q I h
 exact wpAny_BinOp (binT ha hb I h λv u s2 x y H2 I2 rx ry q=>ho pins s2 σ H2 x y v u Q I2 rx ry q)
theorem pe_un {op:UnaryOp}{r:V->Hp->VK->Prop}(ho:UnR X (unaryOp op) r) (ha:PE X a ta):PE X (.UnaryOp op a pos) (tUn r ta):=by
 intro pins s σ H Q I h
 exact UnaryOp_ (thn (ha pins s σ H _ I h) λv s1 ⟨x,H1,I1,r1,q1⟩=>ho pins s1 σ H1 x v Q I1 r1 q1)
theorem opI {f:Value->Value->Sem Value}{C:Int->Int->Prop}{g:Int->Int->Int}
  (rule:∀(i j:Int) (t u:Tok) (s:Shared) (Q:Value->Shared->Prop) (E:Value->Shared->Prop),C i j->Q (.int (g i j) s.toks) { s with toks:=s.toks+1 }->wpAny (model X.prog X.w) X.A (f (.int i t) (.int j u)) Q E s) :
  OpR X f (rI C λi j=>.int (g i j)):=by
 intro pins s σ H x y v u Q I rx ry h
 obtain⟨i,j,rfl,rfl,hc,q⟩:=h
 obtain⟨t,rfl⟩:=rx
 obtain⟨t',rfl⟩:=ry
 exact rule i j t t' s _ _ hc ⟨.int (g i j),H,I.tok _,⟨_,rfl⟩,q⟩
theorem opI0 {f:Value->Value->Sem Value}{g:Int->Int->Int}
  (rule:∀(i j:Int) (t u:Tok) (s:Shared) (Q:Value->Shared->Prop) (E:Value->Shared->Prop),Q (.int (g i j) s.toks) { s with toks:=s.toks+1 }->wpAny (model X.prog X.w) X.A (f (.int i t) (.int j u)) Q E s) :
  OpR X f (rI0 λi j=>.int (g i j)):=by
 intro pins s σ H x y v u Q I rx ry h
 obtain⟨i,j,rfl,rfl,q⟩:=h
 obtain⟨t,rfl⟩:=rx
 obtain⟨t',rfl⟩:=ry
 exact rule i j t t' s _ _ ⟨.int (g i j),H,I.tok _,⟨_,rfl⟩,q⟩
theorem opB0 {f:Value->Value->Sem Value}{g:Int->Int->Bool}
  (rule:∀(i j:Int) (t u:Tok) (s:Shared) (Q:Value->Shared->Prop) (E:Value->Shared->Prop),Q (.bool (g i j)) s->wpAny (model X.prog X.w) X.A (f (.int i t) (.int j u)) Q E s) :
  OpR X f (rI0 λi j=>.bl (g i j)):=by
 intro pins s σ H x y v u Q I rx ry h
 obtain⟨i,j,rfl,rfl,q⟩:=h
 obtain⟨t,rfl⟩:=rx
 obtain⟨t',rfl⟩:=ry
 exact rule i j t t' s _ _ ⟨.bl (g i j),H,I,rfl,q⟩
def CDiv (i j:Int):Prop:=0<j/\j<1073741824
def CPow (i j:Int):Prop:=0<=j/\j<=1000000/\i.natAbs<2^64
def CMul (i j:Int):Prop:=(-(2^64)<i/\i<2^64)\/(-(2^64)<j/\j<2^64)
theorem CMul.ok {i j:Int}(h:CMul i j):IntMulOk i j:=by
 rcases h with ⟨h1,h2⟩|⟨h1,h2⟩
 ·exact .of_left (intBits_le_64 h1 h2)
 ·exact .of_right (intBits_le_64 h1 h2)
theorem two_pow_nn (k:Nat):(0:Int)<=2^k:=by
 rw[two_pow_cast]
 exact Int.natCast_nonneg _
theorem op_add:OpR X (binaryOp .Add) (rI0 λi j=>.int (i+j)):=opI0 λ_ _ _ _ _ _ _ q=>add_int q
theorem op_sub:OpR X (binaryOp .Sub) (rI0 λi j=>.int (i-j)):=opI0 λ_ _ _ _ _ _ _ q=>sub_int q
theorem op_mul:OpR X (binaryOp .Mult) (rI CMul λi j=>.int (i*j)):=opI λ_ _ _ _ _ _ _ hc q=>mul_int q hc.ok
theorem op_fdiv:OpR X (binaryOp .FloorDiv) (rI CDiv λi j=>.int (i/j)):=opI λi j _ _ _ _ _ hc q=>by
 have h1:(0:Int)<j:=hc.1
 have h2:j<1073741824:=hc.2
 exact floordiv_int (by lia) (by rw[Int.fdiv_eq_ediv_of_nonneg i (by lia)];exact q) (.inl (PyProof.noPylong_small (by lia)))
theorem op_mod:OpR X (binaryOp .Mod) (rI (λ_ j=>0<j) λi j=>.int (i%j)):=opI λi j _ _ _ _ _ hc q=>by
 have h1:(0:Int)<j:=hc
 exact mod_int' (by lia) (by rw[Int.fmod_eq_emod_of_nonneg i (by lia)];exact q)
theorem op_pow:OpR X (binaryOp .Pow) (rI CPow λi j=>.int (i^j.toNat)):=opI λ_ _ _ _ _ _ _ hc q=>pow_int_small hc.1 hc.2.1 hc.2.2 q
theorem op_shl:OpR X (binaryOp .LShift) (rI CPow λi j=>.int (i*2^j.toNat)):=opI λ_ _ _ _ _ _ _ hc q=>lshift_int_small hc.1 hc.2.1 hc.2.2 q
theorem op_shr:OpR X (binaryOp .RShift) (rI (λ_ j=>0<=j) λi j=>.int (i/2^j.toNat)):=opI λi j _ _ _ _ _ hc q=>
 rshift_int hc (by rw[Int.fdiv_eq_ediv_of_nonneg i (two_pow_nn _)];exact q)
theorem op_and:OpR X (binaryOp .BitAnd) (rI0 λi j=>.int (Builtin.bitAnd i j)):=opI0 λ_ _ _ _ _ _ _ q=>and_int q
theorem iop_add:OpR X (inplaceOp .Add) (rI0 λi j=>.int (i+j)):=opI0 λ_ _ _ _ _ _ _ q=>iadd_int q
theorem unI {f:Value->Sem Value}{g:Int->Int}
  (rule:∀(i:Int) (t:Tok) (s:Shared) (Q:Value->Shared->Prop) (E:Value->Shared->Prop),Q (.int (g i) s.toks) { s with toks:=s.toks+1 }->wpAny (model X.prog X.w) X.A (f (.int i t)) Q E s) :
  UnR X f (rU λi=>.int (g i)):=by
 intro pins s σ H x v Q I rx h
 obtain⟨i,rfl,q⟩:=h
 obtain⟨t,rfl⟩:=rx
 exact rule i t s _ _ ⟨.int (g i),H,I.tok _,⟨_,rfl⟩,q⟩
theorem un_neg:UnR X (unaryOp .USub) (rU λi=>.int (-i)):=unI λ_ _ _ _ _ q=>neg_int q
end
def scal:V->V->Bool
 |.non,.non=>true|.non,.int _=>true|.int _,.non=>true|.non,.bl _=>true|.bl _,.non=>true|.non,.str _=>true|.str _,.non=>true
 |.int _,.int _=>true|.bl _,.bl _=>true|.str _,.str _=>true|.byt _,.byt _=>true
 |.int _,.str _=>true|.str _,.int _=>true|.bl _,.str _=>true|.str _,.bl _=>true
 |_,_=>false
def rEq:R2:=λx y H Q=>scal x y=true/\Q (.bl (decide (x=y))) H
def rNe:R2:=λx y H Q=>scal x y=true/\Q (.bl (!decide (x=y))) H
theorem dec_int {i j:Int}:decide (V.int i=V.int j)=(i==j):=by
 rw[Bool.eq_iff_iff]
 simp
theorem dec_bl {i j:Bool}:decide (V.bl i=V.bl j)=(i==j):=by
 rw[Bool.eq_iff_iff]
 simp
theorem dec_str {i j:Str}:decide (V.str i=V.str j)=(i==j):=by
 rw[Bool.eq_iff_iff]
 simp
theorem dec_byt {i j:Array UInt8}:decide (V.byt i=V.byt j)=(i.toList==j.toList):=by
 rw[Bool.eq_iff_iff]
 cases i
 cases j
 simp
section
variable {X:Cx}{a b c:Expr}{ta tb tc:TE}{pos:Pos}
theorem fin_bl {pins:List (Addr×Obj)}{σ:St}{H:Hp}{s:Shared}{Q:VK}{k k':Bool}(I:Inv X pins σ H s) (q:Q (.bl k) H) (e:k=k'):EP X pins σ Q (.bool k') s:=by
 subst e
 exact⟨.bl k,H,I,rfl,q⟩
theorem op_eq:OpR X (compareOp .Eq) rEq:=by
 intro pins s σ H x y v u Q I rx ry h
 obtain⟨hs,q⟩:=h
 cases x with
 |non=>
  cases rx
  cases y with
  |non=>cases ry;exact PySem.EqNone.eq_none_none (fin_bl I q (by simp))
  |bl j=>cases ry;exact PySem.EqNone.eq_none_bool (fin_bl I q (by simp))
  |int j=>obtain⟨t',rfl⟩:=ry;exact PySem.EqNone.eq_none_int (fin_bl I q (by simp))
  |str j=>obtain⟨t',rfl⟩:=ry;exact PySem.EqNone.eq_none_str (fin_bl I q (by simp))
  |_=>exact absurd (show false=true from hs) Bool.false_ne_true
 |bl i=>
  cases rx
  cases y with
  |non=>cases ry;exact PySem.EqNone.eq_bool_none (fin_bl I q (by simp))
  |bl j=>cases ry;exact eq_bool (fin_bl I q dec_bl)
  |str j=>obtain⟨t',rfl⟩:=ry;exact PySem.EqMixed.eq_bool_str (fin_bl I q (by simp))
  |_=>exact absurd (show false=true from hs) Bool.false_ne_true
 |int i=>
  obtain⟨t,rfl⟩:=rx
  cases y with
  |non=>cases ry;exact PySem.EqNone.eq_int_none (fin_bl I q (by simp))
  |int j=>obtain⟨t',rfl⟩:=ry;exact eq_int (fin_bl I q dec_int)
  |str j=>obtain⟨t',rfl⟩:=ry;exact PySem.EqMixed.eq_int_str (fin_bl I q (by simp))
  |_=>exact absurd (show false=true from hs) Bool.false_ne_true
 |str i=>
  obtain⟨t,rfl⟩:=rx
  cases y with
  |non=>cases ry;exact PySem.EqNone.eq_str_none (fin_bl I q (by simp))
  |bl j=>cases ry;exact PySem.EqMixed.eq_str_bool (fin_bl I q (by simp))
  |int j=>obtain⟨t',rfl⟩:=ry;exact PySem.EqMixed.eq_str_int (fin_bl I q (by simp))
  |str j=>obtain⟨t',rfl⟩:=ry;exact eq_str (fin_bl I q dec_str)
  |_=>exact absurd (show false=true from hs) Bool.false_ne_true
 |byt i=>
  obtain⟨t,rfl⟩:=rx
  cases y with
  |byt j=>obtain⟨t',rfl⟩:=ry;exact PySem.W.eq_bytes (fin_bl I q dec_byt)
  |_=>exact absurd (show false=true from hs) Bool.false_ne_true
 |_=>cases y<;>exact absurd (show false=true from hs) Bool.false_ne_true
theorem op_ne:OpR X (compareOp .NotEq) rNe:=by
 intro pins s σ H x y v u Q I rx ry h
 obtain⟨hs,q⟩:=h
 cases x with
 |non=>
  cases rx
  cases y with
  |non=>cases ry;exact PySem.EqNone.ne_none_none (fin_bl I q (by simp))
  |bl j=>cases ry;exact PySem.EqNone.ne_none_bool (fin_bl I q (by simp))
  |int j=>obtain⟨t',rfl⟩:=ry;exact PySem.EqNone.ne_none_int (fin_bl I q (by simp))
  |str j=>obtain⟨t',rfl⟩:=ry;exact PySem.EqNone.ne_none_str (fin_bl I q (by simp))
  |_=>exact absurd (show false=true from hs) Bool.false_ne_true
 |bl i=>
  cases rx
  cases y with
  |non=>cases ry;exact PySem.EqNone.ne_bool_none (fin_bl I q (by simp))
  |bl j=>cases ry;exact ne_bool (fin_bl I q (congrArg not dec_bl))
  |str j=>obtain⟨t',rfl⟩:=ry;exact PySem.EqMixed.ne_bool_str (fin_bl I q (by simp))
  |_=>exact absurd (show false=true from hs) Bool.false_ne_true
 |int i=>
  obtain⟨t,rfl⟩:=rx
  cases y with
  |non=>cases ry;exact PySem.EqNone.ne_int_none (fin_bl I q (by simp))
  |int j=>obtain⟨t',rfl⟩:=ry;exact ne_int (fin_bl I q (congrArg not dec_int))
  |str j=>obtain⟨t',rfl⟩:=ry;exact PySem.EqMixed.ne_int_str (fin_bl I q (by simp))
  |_=>exact absurd (show false=true from hs) Bool.false_ne_true
 |str i=>
  obtain⟨t,rfl⟩:=rx
  cases y with
  |non=>cases ry;exact PySem.EqNone.ne_str_none (fin_bl I q (by simp))
  |bl j=>cases ry;exact PySem.EqMixed.ne_str_bool (fin_bl I q (by simp))
  |int j=>obtain⟨t',rfl⟩:=ry;exact PySem.EqMixed.ne_str_int (fin_bl I q (by simp))
  |str j=>obtain⟨t',rfl⟩:=ry;exact ne_str (fin_bl I q (congrArg not dec_str))
  |_=>exact absurd (show false=true from hs) Bool.false_ne_true
 |byt i=>
  obtain⟨t,rfl⟩:=rx
  cases y with
  |byt j=>obtain⟨t',rfl⟩:=ry;exact PySem.W.ne_bytes (fin_bl I q (congrArg not dec_byt))
  |_=>exact absurd (show false=true from hs) Bool.false_ne_true
 |_=>cases y<;>exact absurd (show false=true from hs) Bool.false_ne_true
theorem op_lt:OpR X (compareOp .Lt) (rI0 λi j=>.bl (decide (i<j))):=opB0 λ_ _ _ _ _ _ _ q=>lt_int q
theorem op_le:OpR X (compareOp .LtE) (rI0 λi j=>.bl (decide (i<=j))):=opB0 λ_ _ _ _ _ _ _ q=>le_int q
theorem op_gt:OpR X (compareOp .Gt) (rI0 λi j=>.bl (decide (j<i))):=opB0 λ_ _ _ _ _ _ _ q=>gt_int q
theorem op_ge:OpR X (compareOp .GtE) (rI0 λi j=>.bl (decide (j<=i))):=opB0 λ_ _ _ _ _ _ _ q=>ge_int q
theorem op_in_str:OpR X (compareOp .In) (λx y H Q=>∃i j,x=.str i/\y=.str j/\Q (.bl (!(Builtin.Str.occurrences j i 0 j.length 1).isEmpty)) H):=by
 intro pins s σ H x y v u Q I rx ry h
 obtain⟨i,j,rfl,rfl,q⟩:=h
 obtain⟨t,rfl⟩:=rx
 obtain⟨t',rfl⟩:=ry
 exact in_str (fin_bl I q rfl)
theorem nomark (b:Expr){op:CmpOp}(h:op≠.In:=by decide) (h2:op≠.NotIn:=by decide):behindInMarks op b=false:=by
 have e1:(op==CmpOp.In)=false:=by cases op<;>first|rfl|exact absurd rfl h
 have e2:(op==CmpOp.NotIn)=false:=by cases op<;>first|rfl|exact absurd rfl h2
 cases b<;>simp[behindInMarks,e1,e2]
theorem pe_cmpR {op:CmpOp}{r:R2}(ho:OpR X (compareOp op) r) (ha:PE X a ta) (hb:PE X b tb) (hm:behindInMarks op b=false):PE X (.Compare a [op] [b] pos) (tOp r ta tb):=by
 intro pins s σ H Q I h
 exact wpAny_Compare1 (binT ha hb I h λv u s2 x y H2 I2 rx ry q=>ho pins s2 σ H2 x y v u Q I2 rx ry q) hm
def tTest (t:TE):TT:=λσ H Q=>t σ H λx H'=>∃k,x=.bl k/\Q k H'
theorem pt_cmpR {op:CmpOp}{r:R2}(ho:OpR X (compareOp op) r) (ha:PE X a ta) (hb:PE X b tb) (hm:behindInMarks op b=false):PT X (.Compare a [op] [b] pos) (tTest (tOp r ta tb)):=by
 intro pins s σ H Q I h
 refine wpAny_isTrue_Compare1 (thn (ha pins s σ H _ I h) λv s1 ⟨x,H1,I1,r1,q1⟩=>thn (hb pins s1 σ H1 _ I1 q1) λu s2 ⟨y,H2,I2,r2,q2⟩=>
  thn (ho pins s2 σ H2 x y v u _ I2 r1 r2 q2) λc s3 ⟨z,H3,I3,r3,k,e,q3⟩=>?_) hm
 subst e
 cases r3
 exact wpAny_truthy_bool ⟨H3,I3,q3⟩
def tChain (r r':R2) (ta tb tc:TE):TE:=λσ H Q=>ta σ H λx H1=>tb σ H1 λy H2=>r x y H2 λz H3=>∃k,z=.bl k /\
 (if k=true then tc σ H3 λw' H4=>r' y w' H4 Q else Q (.bl false) H3)
theorem pe_chain {op op':CmpOp}{r r':R2}(ho:OpR X (compareOp op) r) (ho':OpR X (compareOp op') r') (ha:PE X a ta) (hb:PE X b tb) (hc:PE X c tc)
  (hm:lastMarks [op,op'] [b,c]=false:=by with_unfolding_all rfl):PE X (.Compare a [op,op'] [b,c] pos) (tChain r r' ta tb tc):=by
 intro pins s σ H Q I h
 refine Compare_chain (thn (ha pins s σ H _ I h) λv s1 ⟨x,H1,I1,r1,q1⟩=>chain_link (thn (hb pins s1 σ H1 _ I1 q1) λu s2 ⟨y,H2,I2,r2,q2⟩=>
  thn (ho pins s2 σ H2 x y v u _ I2 r1 r2 q2) λd s3 ⟨z,H3,I3,r3,k,e,q3⟩=>?_)) hm
 subst e
 cases r3
 refine wpAny_truthy_bool ?_
 cases k with
 |false=>exact ite_ff ⟨.bl false,H3,I3,rfl,q3⟩
 |true=>exact ite_tt (chain_last (thn (hc pins s3 σ H3 _ I3 q3) λw' s4 ⟨z',H4,I4,r4,q4⟩=>ho' pins s4 σ H4 y z' u w' Q I4 r2 r4 q4))
theorem pt_chain {op op':CmpOp}{r r':R2}(ho:OpR X (compareOp op) r) (ho':OpR X (compareOp op') r') (ha:PE X a ta) (hb:PE X b tb) (hc:PE X c tc)
  (hm:lastMarks [op,op'] [b,c]=false:=by with_unfolding_all rfl):PT X (.Compare a [op,op'] [b,c] pos) (tTest (tChain r r' ta tb tc)):=by
 intro pins s σ H Q I h
 refine isTrue_chain (thn (ha pins s σ H _ I h) λv s1 ⟨x,H1,I1,r1,q1⟩=>test_link (thn (hb pins s1 σ H1 _ I1 q1) λu s2 ⟨y,H2,I2,r2,q2⟩=>
  thn (ho pins s2 σ H2 x y v u _ I2 r1 r2 q2) λd s3 ⟨z,H3,I3,r3,k,e,q3⟩=>?_)) hm
 subst e
 cases r3
 refine wpAny_truthy_bool ?_
 cases k with
 |false=>
  obtain⟨k',e',q'⟩:=q3
  cases e'
  exact ite_ff ⟨H3,I3,q'⟩
 |true=>
  refine ite_tt (test_last (thn (hc pins s3 σ H3 _ I3 q3) λw' s4 ⟨z',H4,I4,r4,q4⟩=>thn (ho' pins s4 σ H4 y z' u w' _ I4 r2 r4 q4) λd' s5 ⟨z2,H5,I5,r5,k2,e2,q5⟩=>?_))
  subst e2
  cases r5
  exact wpAny_truthy_bool ⟨H5,I5,q5⟩
theorem line63:(sizeLine:Nat)<2^63:=by rw[sizeLine_eq];decide
theorem op_add_str:OpR X (binaryOp .Add) (λx y H Q=>∃i j,x=.str i/\y=.str j/\i.length+j.length<=sizeLine/\Q (.str (i++j)) H):=by
 intro pins s σ H x y v u Q I rx ry h
 obtain⟨i,j,rfl,rfl,hz,q⟩:=h
 obtain⟨t,rfl⟩:=rx
 obtain⟨t',rfl⟩:=ry
 exact add_str (λt' tk=>⟨.str (i++j),H,I.tok _,⟨_,rfl⟩,q⟩) hz
theorem vals1 {x:V}{us:List Value}(r:Vals [x] us):∃u,us=[u]/\RelV x u:=by
 cases r with
 |cons r1 r2=>cases r2;exact⟨_,rfl,r1⟩
theorem vals2 {x y:V}{us:List Value}(r:Vals [x,y] us):∃u w',us=[u,w']/\RelV x u/\RelV y w':=by
 cases r with
 |cons r1 r2=>
  cases r2 with
  |cons r3 r4=>cases r4;exact⟨_,_,rfl,r1,r3⟩
theorem call_abs:CallR X (.builtin "abs") (λxs H Q=>∃i,xs=[.int i]/\Q (.int (if i<0 then -i else i)) H):=by
 intro pins s σ H xs us Q I r h
 obtain⟨i,rfl,q⟩:=h
 obtain⟨u,rfl,t,rfl⟩:=vals1 r
 exact call_abs_int λu tk=>⟨.int (if i<0 then -i else i),H,I.tok _,⟨_,rfl⟩,q⟩
theorem call_max2 (hc:X.calm=true):CallR X (.builtin "max") (λxs H Q=>∃i j,xs=[.int i,.int j]/\Q (.int (if j>i then j else i)) H):=by
 intro pins s σ H xs us Q I r h
 obtain⟨i,j,rfl,q⟩:=h
 obtain⟨u,w',rfl,⟨t,rfl⟩,⟨t',rfl⟩⟩:=vals2 r
 refine max_two_ints (I.ok.hd hc) λh' tk k=>⟨_,H,I.kept k,?_,q⟩
 by_cases hj:j>i
 ·rw[if_pos hj,if_pos hj];exact⟨_,rfl⟩
 ·rw[if_neg hj,if_neg hj];exact⟨_,rfl⟩
theorem call_min2 (hc:X.calm=true):CallR X (.builtin "min") (λxs H Q=>∃i j,xs=[.int i,.int j]/\Q (.int (if j<i then j else i)) H):=by
 intro pins s σ H xs us Q I r h
 obtain⟨i,j,rfl,q⟩:=h
 obtain⟨u,w',rfl,⟨t,rfl⟩,⟨t',rfl⟩⟩:=vals2 r
 refine min_two_ints (I.ok.hd hc) λh' tk k=>⟨_,H,I.kept k,?_,q⟩
 by_cases hj:j<i
 ·rw[if_pos hj,if_pos hj];exact⟨_,rfl⟩
 ·rw[if_neg hj,if_neg hj];exact⟨_,rfl⟩
theorem call_int1:CallR X (.type "int") (λxs H Q=>(∃i,xs=[.int i]/\Q (.int i) H)\/∃k,xs=[.bl k]/\Q (.int (if k then 1 else 0)) H):=by
 intro pins s σ H xs us Q I r h
 rcases h with ⟨i,rfl,q⟩|⟨k,rfl,q⟩
 ·obtain⟨u,rfl,t,rfl⟩:=vals1 r
  exact call_int_int ⟨.int i,H,I,⟨_,rfl⟩,q⟩
 ·obtain⟨u,rfl,r1⟩:=vals1 r
  cases r1
  exact call_int_bool ⟨.int (if k then 1 else 0),H,I.tok _,⟨_,rfl⟩,q⟩
theorem call_str_int:CallR X (.type "str") (λxs H Q=>∃i,xs=[.int i]/\i.natAbs.log2<1920/\Q (.str (toString i)) H):=by
 intro pins s σ H xs us Q I r h
 obtain⟨i,rfl,hz,q⟩:=h
 obtain⟨u,rfl,t,rfl⟩:=vals1 r
 exact PySem.P.str_of_int hz ⟨.str _,H,I.tok _,⟨_,rfl⟩,q⟩
end
end L2
namespace L2
open PySem PySem.Spec PyProof.Rows
structure ObjM (h:Heap) (x dx C:Addr) (mA:Str->Option Value):Prop where
 obj:h.get? x=some (PySem.W.instObj C dx)
 ns:h.Ns1 dx mA
 ne:dx≠x
theorem lookIn_ns {h:Heap}{dx:Addr}{mA:Str->Option Value}(n:h.Ns1 dx mA):∃od,h.get? dx=some od/\∀name,PySem.W.lookIn name od=some (mA name):=by
 obtain⟨o,es,ep,ho,hd,hk,_,hm⟩:=n
 refine⟨o,ho,λname=>?_⟩
 have e:=hm name
 unfold nsFind findBy at e
 rw[<- Array.find?_toList] at e
 unfold PySem.W.lookIn
 rw[hd]
 dsimp only
 split
 ·rename_i y q
  rw[q] at e
  exact congrArg some e
 ·rename_i q
  rw[q] at e
  have a:es.toList.any (·.refKey)=false:=by
   rw[List.any_eq_false]
   intro y hy
   obtain⟨z,t,hkey⟩:=hk y (Array.mem_toList_iff.mp hy)
   simp[DictEntry.refKey,hkey]
  have a':¬es.toList.any (·.refKey)=true:=by rw[a];exact Bool.false_ne_true
  rw[if_neg a']
  exact congrArg some e
theorem ObjM.look {h:Heap}{x dx C:Addr}{mA:Str->Option Value}(I:ObjM h x dx C mA):∃od,PySem.W.InstAt h x (PySem.W.instObj C dx) C (some od)/\∀name,PySem.W.lookIn name od=some (mA name):=
 let ⟨od,ho,hl⟩:=lookIn_ns I.ns
 ⟨od,⟨I.obj,rfl,rfl,ho⟩,hl⟩
section
variable {prog:Program}{w:World}{A:Around}{E:Value->Shared->Prop}{s:Shared}{K:PySem.W.Frag}{x dx C f:Addr}{mA:Str->Option Value}{name:Str}{v:Value}
end
theorem RelO.some_of {v:V}{o:Option Value}(r:RelO (some v) o):∃u,o=some u/\RelV v u:=by
 cases o with
 |none=>exact (show False from r).elim
 |some u=>exact⟨u,rfl,r⟩
section
variable {P:Program}{w:World}{H H':Hp}{h h':Heap}{a C dx:Addr}{fs fs':List (Str×V)}
theorem ins_get (hok:HOk P w H h) (e:H a=some (.ins C dx fs)):∃mA,ObjM h a dx C mA/\(∀f,RelO (fs.lookup f) (mA f))/\PySem.Within mA (fs.map (·.1))/\fs.length<=1000/\H dx=some (.own a):=by
 obtain⟨d,z,ne,ob,mA,n,r,q⟩:=(show ObjOk P w H h a (.ins C dx fs) from hok a _ e)
 exact⟨mA,⟨ob,n,ne⟩,r,q,z,d⟩
end
structure Cls (K:PySem.W.Frag) (C:Addr):Prop where
 pg:PySem.W.plainGet K C Str.empty=true
 hd:PySem.W.hasDictIn K C=true
 po:PySem.W.plainOver K C=true
 sa:PySem.W.findIn K (.ref C) "__setattr__" = some (some (.builtin "object.__setattr__"))
theorem Cls.get {K:PySem.W.Frag}{C:Addr}(c:Cls K C) (f:Str):PySem.W.plainGet K C f=true:=c.pg
section
variable {X:Cx}{pins:List (Addr×Obj)}{σ:St}{H:Hp}{s:Shared}{a C dx:Addr}{fs:List (Str×V)}{f:Str}{v:V}{A:Around}{E:Value->Shared->Prop}
end
section
variable {X:Cx}{o e value:Expr}{f:Str}{pos pos' tpos:Pos}{ta tv:TE}
end
section
variable {X:Cx}{pins:List (Addr×Obj)}{σ:St}{H:Hp}{s:Shared}{A:Around}{E:Value->Shared->Prop}{Q:Value->Shared->Prop}{c:Value}{b:Bool}
inductive TyOf (K:PySem.W.Frag) (H:Hp):V->Value->Prop where
 |non:TyOf K H .non (.type "NoneType")
 |bl (x:Bool):TyOf K H (.bl x) (.type "bool")
 |int (i:Int):TyOf K H (.int i) (.type "int")
 |str (x:Str):TyOf K H (.str x) (.type "str")
 |flt (x:UInt64):TyOf K H (.flt x) (.type "float")
 |lst {a:Addr}{xs:List V}(e:H a=some (.lst xs)):TyOf K H (.ref a) (.type "list")
 |frz {a:Addr}{o:Obj}{xs:List V}(e:H a=some (.frz o (.lst xs))):TyOf K H (.ref a) (.type "list")
 |tup {a:Addr}{xs:List V}(e:H a=some (.tup xs)):TyOf K H (.ref a) (.type "tuple")
 |dK {a:Addr}{kvs:List (Key×V)}(e:H a=some (.dK kvs)):TyOf K H (.ref a) (.type "dict")
 |dT {a:Addr}{kvs:List (List Key×V)}(e:H a=some (.dT kvs)):TyOf K H (.ref a) (.type "dict")
 |ins {a C dx:Addr}{fs:List (Str×V)}(e:H a=some (.ins C dx fs)) (cl:Cls K C) (ha:PySem.W.findIn K (.ref C) "__class__" = some (some (.builtin "object.__class__")))
   (hn:PySem.W.specialIn K (.builtin "object.__class__") "__get__" = some (some (.builtin "getset_descriptor.__get__"))) (htk:PySem.W.takesIn K (.builtin "object.__class__")=some true)
   (hm:PySem.W.mroIn K C (.type "object")=some true):TyOf K H (.ref a) (.ref C)
theorem isinst_ok {x:V}{u t:Value}(I:Inv X pins σ H s) (rx:RelV x u) (ty:TyOf X.K H x t) (e:PySem.W.kitOne X.K t c=some b) (h:∀tk,Q (.bool b) { s with toks:=tk }) :
  wpAny (model X.prog X.w) A (call (.builtin "isinstance") [u,c]) Q E s:=by
 cases ty with
 |non=>cases (show u=Value.none from rx);exact PySem.W.kia_one PySem.W.kitx_none I.kIn True.intro e (λz=>nomatch z) h
 |bl y=>cases (show u=Value.bool y from rx);exact PySem.W.kia_one PySem.W.kitx_bool I.kIn True.intro e (λz=>nomatch z) h
 |int i=>obtain⟨t,q⟩:=(show ∃t,u=Value.int i t from rx);cases q;exact PySem.W.kia_one PySem.W.kitx_int I.kIn True.intro e (λz=>nomatch z) h
 |str y=>obtain⟨t,q⟩:=(show ∃t,u=Value.str y t from rx);cases q;exact PySem.W.kia_one PySem.W.kitx_str I.kIn True.intro e (λz=>nomatch z) h
 |flt y=>obtain⟨t,q⟩:=(show ∃t,u=Value.float y t from rx);cases q;exact PySem.W.kia_one PySem.W.kitx_float I.kIn True.intro e (λz=>nomatch z) h
 |@lst a xs ea=>
  cases (show u=Value.ref a from rx)
  obtain⟨_,_,n,_,h1⟩:=(show ObjOk X.prog X.w H s.heap a (.lst xs) from I.hok a _ ea)
  exact PySem.W.kia_one PySem.W.kitx_list I.kIn ⟨_,h1,rfl⟩ e (λz=>nomatch z) h
 |@frz a ob xs ea=>
  cases (show u=Value.ref a from rx)
  obtain⟨_,_,_,n,_,h1⟩:=(show ObjOk X.prog X.w H s.heap a (.frz ob (.lst xs)) from I.hok a _ ea)
  exact PySem.W.kia_one PySem.W.kitx_list I.kIn ⟨_,h1,rfl⟩ e (λz=>nomatch z) h
 |@tup a xs ea=>
  cases (show u=Value.ref a from rx)
  obtain⟨_,_,_,p⟩:=(show ObjOk X.prog X.w H s.heap a (.tup xs) from I.hok a _ ea)
  obtain⟨o,h1,h2,_⟩:=p
  exact PySem.W.kia_one PySem.W.kitx_tuple I.kIn ⟨o,h1,h2⟩ e (λz=>nomatch z) h
 |@dK a kvs ea=>
  cases (show u=Value.ref a from rx)
  obtain⟨_,_,vs,_,p⟩:=(show ObjOk X.prog X.w H s.heap a (.dK kvs) from I.hok a _ ea)
  obtain⟨o,es,ep,h1,h2,_⟩:=p
  exact PySem.W.kia_one PySem.W.kitx_dict I.kIn ⟨o,h1,h2.1⟩ e (λz=>nomatch z) h
 |@dT a kvs ea=>
  cases (show u=Value.ref a from rx)
  obtain⟨_,_,xs,_,o,es,ep,h1,h2,_⟩:=(show ObjOk X.prog X.w H s.heap a (.dT kvs) from I.hok a _ ea)
  exact PySem.W.kia_one PySem.W.kitx_dict I.kIn ⟨o,h1,h2.1⟩ e (λz=>nomatch z) h
 |@ins a C dx fs ea cl ha hn htk hm=>
  cases (show u=Value.ref a from rx)
  obtain⟨mA,O,_⟩:=ins_get I.hok ea
  obtain⟨od,J,_⟩:=O.look
  exact PySem.W.kia_one (PySem.W.kitx_own (cl.get _) cl.hd ha hn htk hm) I.kIn J e (λz=>nomatch z) h
end
end L2
namespace L2
open PySem PySem.Spec PyProof.Rows
structure Room (k:Nat) (A:Around):Prop where
 hd:A.handled=none
 dp:A.depth+3*k+5<recursionLimit
 un:A.units+16*k+200<cLine
 gd:A.guards=some []
theorem Room.mono {j k:Nat}{A:Around}(r:Room k A) (h:j<=k):Room j A:=⟨r.hd,by have:=r.dp;lia,by have:=r.un;lia,r.gd⟩
theorem Room.deeper {k:Nat}{A:Around}(r:Room (k+1) A) (env:Env):Room k (A.deeper env):=
 ⟨r.hd,by have:=r.dp;show A.depth+1+3*k+5<_;lia,by have:=r.un;show A.units+3+16*k+200<_;lia,r.gd⟩
theorem Room.depth {k:Nat}{A:Around}(r:Room k A):A.depth<recursionLimit:=by have:=r.dp;lia
theorem Room.units {k:Nat}{A:Around}(r:Room k A):A.units+64<cLine:=by have:=r.un;lia
def tNil:TA:=λ_ H Q=>Q [] H
def tCons (ta:TE) (tr:TA):TA:=λσ H Q=>ta σ H λx H1=>tr σ H1 λxs H2=>Q (x::xs) H2
section
variable {X:Cx}{e:Expr}{es:List Expr}{te:TE}{t:TA}{pos:Pos}
theorem pa_nil:PA X [] tNil:=λ_ _ _ _ H Q I h=>Calls.spliced_nil ⟨[],H,I,.nil,h⟩
theorem pa_cons (ha:PE X e te) (hr:PA X es t) (hs:starEach (e::es) X.env=(false,eval e X.env)::starEach es X.env:=by rfl):PA X (e::es) (tCons te t):=by
 intro pos pins s σ H Q I h
 rw[hs]
 show wpAny _ _ (spliced ((false,eval e X.env)::backTo pos (starEach es X.env))) _ _ s
 refine Calls.spliced_cons (thn (ha pins s σ H _ I h) λu s1 ⟨x,H1,I1,r1,q1⟩=>?_)
 exact thn (hr pos pins s1 σ H1 _ I1 q1) λus s2 ⟨xs,H2,I2,r2,q2⟩=>⟨x::xs,H2,I2,.cons r1 r2,q2⟩
def tTup (t:TA):TE:=λσ H Q=>t σ H λxs H1=>xs.length<=sizeLine/\∀p,H1 p=none->Q (.ref p) (upd H1 p (.tup xs))
def tLst (t:TA):TE:=λσ H Q=>t σ H λxs H1=>xs.length<=sizeLine/\∀p,H1 p=none->Q (.ref p) (upd H1 p (.lst xs))
theorem pe_tup {x1} (h:PA X es t):PE X (.Tuple es x1 pos) (tTup t):=by
 intro pins s σ H Q I hq
 refine wpAny_Tuple_spliced (thn (h pos pins s σ H _ I hq) λus s1 ⟨xs,H1,I1,r,z,q⟩=>⟨by rw[<- r.length];exact z,?_⟩)
 have hf:H1 s1.heap.objs.size=none:=I1.hok.fresh (Nat.le_refl _)
 refine⟨.ref s1.heap.objs.size,upd H1 s1.heap.objs.size (.tup xs),I1.laid (t':=s1.toks) (λb u e=>Heap.get?_push_of_some _ e) (Nat.le_refl _) ?_,rfl,q _ hf⟩
 exact⟨z,us,r,⟨_,Heap.get?_push_size _ rfl,rfl,⟨_,rfl⟩,rfl⟩⟩
theorem pe_lst (h:PA X es t):PE X (.List es pos) (tLst t):=by
 intro pins s σ H Q I hq
 refine wpAny_List_spliced (thn (h pos pins s σ H _ I hq) λus s1 ⟨xs,H1,I1,r,z,q⟩=>⟨by rw[<- r.length];exact z,?_⟩)
 have hf:H1 s1.heap.objs.size=none:=I1.hok.fresh (Nat.le_refl _)
 refine⟨.ref s1.heap.objs.size,upd H1 s1.heap.objs.size (.lst xs),I1.laid (t':=s1.toks) (λb u e=>Heap.get?_push_of_some _ e) (Nat.le_refl _) ?_,rfl,q _ hf⟩
 exact⟨z,us,0,r,Heap.get?_push_size _ rfl⟩
end
abbrev Sp:=List V->Hp->VK->XK->Prop
abbrev CXT:=List Env->Hp->Shared->XK->Value->Shared->Prop
structure Env0 (P:Program) (w:World) (K:PySem.W.Frag) (mg:Str->Option Value) (base:Heap) (A:Around) (outer:List Env) (s:Shared) (H:Hp):Prop where
 frames:A.frames=some outer
 mod:Mod K mg base
 bs:∀b o,base.get? b=some o->s.heap.get? b=some o/\H b=none
 bsz:base.objs.size<=s.heap.objs.size
 funs:s.heap.FunFrames base outer
 frf:∀b∈frs outer,H b=none
 hok:HOk P w H s.heap
 bare:AllBare s.gens
def CE (outer:List Env) (P:Program) (w:World) (H:Hp) (s:Shared) (Q:VK) (u:Value) (s':Shared):Prop:=
 ∃v H',s'.os=s.os/\AllBare s'.gens/\Un (frs outer) [] H H' s.heap s'.heap/\HOk P w H' s'.heap/\RelV v u/\Q v H'
def CR (CX:CXT) (outer:List Env) (P:Program) (w:World) (H:Hp) (s:Shared) (Q:VK) (E:XK) (r:Result) (s':Shared):Prop:=
 match r with
 |.ok (.ret u)=>CE outer P w H s Q u s'
 |.ok _=>False
 |.error e=>CX outer H s E e s'
structure FnOk (P:Program) (w:World) (K:PySem.W.Frag) (mg:Str->Option Value) (base:Heap) (CX:CXT) (k:Nat) (f:Addr) (fd:FuncData) (ps:List Str) (sp:Sp):Prop where
 len:∀vs H Q E,sp vs H Q E->vs.length=ps.length
 run:∀(A:Around) (outer:List Env) (s:Shared) (H:Hp) (args:Args) (us:List Value) (vs:List V) (Q:VK) (E:XK),Room k A->Env0 P w K mg base A outer s H->BindsTo s fd args (ps.zip us)->Vals vs us->sp vs H Q E ->
  codeAny (model P w) A (.call (.ref f) args) (CR CX outer P w H s Q E) s
section
variable {X:Cx}{pins:List (Addr×Obj)}{σ:St}{H:Hp}{s s':Shared}
theorem Inv.env0 (I:Inv X pins σ H s):Env0 X.prog X.w X.K X.mg X.base X.A X.stack s H:=
 ⟨I.ok.frames,I.ok.mod,I.bs,Nat.le_trans I.ok.bsz I.sz,I.stack,I.stkFree,I.hok,I.bare⟩
theorem Inv.after {Q:VK}{u:Value}(I:Inv X pins σ H s) (h:CE X.stack X.prog X.w H s Q u s'):EP X pins σ Q u s':=by
 obtain⟨v,H',os,bare,un,hok,r,q⟩:=h
 obtain⟨hh,g,d,t,os'⟩:=s'
 obtain rfl:os'=s.os:=os
 exact⟨v,H',I.call (h':=hh) (g':=g) (d':=d) (t':=t) (ch:=[]) un hok bare (λb z=>absurd z (by simp)),r,q⟩
end
def tCall (sp:Sp) (dvs:List V) (E:XK) (t:TA):TE:=λσ H Q=>t σ H λvs H1=>sp (vs++dvs) H1 Q E
def Binds (K:PySem.W.Frag) (fd:FuncData) (ps:List Str) (ds:List Value):Prop:=
 ∀(s:Shared) (us:List Value),K.In s.heap->(us++ds).length=ps.length->BindsTo s fd ⟨us,[]⟩ (ps.zip (us++ds))
theorem Binds.all {K:PySem.W.Frag}{fd:FuncData}{ps:List Str}(h:∀us:List Value,us.length=ps.length->bindArgs fd ⟨us,[]⟩=pure (ps.zip us)):Binds K fd ps []:=λs us _ hl=>by
 rw[List.append_nil] at hl ⊢
 exact .of_eq (h us hl)
def Passes (CX:CXT) (X:Cx) (E:XK):Prop:=∀(pins:List (Addr×Obj)) (σ:St) (H:Hp) (s:Shared) (e:Value) (s':Shared),Inv X pins σ H s->CX X.stack H s E e s'->X.xe e s'
section
variable {X:Cx}{CX:CXT}{k:Nat}{f C:Addr}{fd:FuncData}{ps:List Str}{sp:Sp}{dvs:List V}{ds:List Value}{E:XK}{x m:Str}{p pos apos:Pos}{e o:Expr}{es:List Expr}{ta:TE}{t:TA}
theorem run_fn {pins:List (Addr×Obj)}{σ:St}{H:Hp}{s:Shared}{Q:VK}{us:List Value}{vs:List V}(F:FnOk X.prog X.w X.K X.mg X.base CX k f fd ps sp) (hr:Room k X.A) (hb:Binds X.K fd ps ds) (hd:Vals dvs ds) (hx:Passes CX X E)
  (I:Inv X pins σ H s) (r:Vals vs us) (h:sp (vs++dvs) H Q E):wpAny (model X.prog X.w) X.A (call (.ref f) us) (EP X pins σ Q) X.xe s:=by
 have r2:Vals (vs++dvs) (us++ds):=r.append hd
 have hl:(us++ds).length=ps.length:=by rw[<- r2.length];exact F.len _ _ _ _ h
 refine wpAny_call (codeAny_mono (F.run X.A X.stack s H ⟨us,[]⟩ (us++ds) (vs++dvs) Q E hr I.env0 (hb s us I.kIn hl) r2 h) λr s' hq=>?_)
 cases r with
 |error e=>exact hx pins σ H s e s' I hq
 |ok fl=>
  cases fl with
  |ret u=>exact I.after hq
  |next=>exact False.elim hq
  |brk=>exact False.elim hq
  |cont=>exact False.elim hq
theorem pe_call (F:FnOk X.prog X.w X.K X.mg X.base CX k f fd ps sp) (hr:Room k X.A) (hg:Gl X x) (hm:X.mg x=some (.ref f)) (hk:PySem.W.keepIn X.K (.ref f)=true) (hb:Binds X.K fd ps ds) (hd:Vals dvs ds) (hx:Passes CX X E)
  (ha:PA X (e::es) t) (hdb:(x==("__debug__" : Str))=false:=by decide) (he:starEach (e::es) X.env=(false,eval e X.env)::starEach es X.env:=by rfl) (hpl:(backTo pos (starEach es X.env)).any (·.1)=false:=by rfl) :
  PE X (.Call (.Name x p) (e::es) [] pos) (tCall sp dvs E t):=by
 intro pins s σ H Q I h
 refine wpAny_Call_Name_kw (ld_glob I hg hm ?_ hdb)
 refine PySem.W.callWith_K (h₀:=X.base) I.ok.mod.kin hk (thn (ha pos pins s σ H _ I h) λus s1 ⟨vs,H1,I1,r,q⟩=>⟨I1.kIn,?_⟩) he hpl
 exact run_fn F hr hb hd hx I1 r q
end
section
variable {X:Cx}{CX:CXT}{k:Nat}{f C:Addr}{fd:FuncData}{ps ks:List Str}{sp:Sp}{E:XK}{x m:Str}{p pos apos kpos:Pos}{e o:Expr}{es:List Expr}{kws:List Keyword}{te ta:TE}{t tk:TA}{nm:Option Str}
variable {g:List Value->List Value->List Value}{gV:List V->List V->List V}
end
structure FnScope (N P:List Str) (sc:Scope):Prop where
 kind:sc.kind=.function
 co:sc.isCoroutine=false
 gen:sc.isGenerator=false
 nd:N.Nodup
 pre:N.take P.length=P
 par:∀x∈P,sc.names.lookup x=some .local\/sc.names.lookup x=some .cell
 nofree:∀y∈sc.names,y.2≠.free
theorem bindL_out {kindOf:Str->Option NameKind}{x:Str}:∀{binds:List (Str×Value)}{m:Str->Option Value},(∀v,(x,v)∉binds)->bindL kindOf binds m x=m x
 |[],_,_=>rfl
 |(n,v)::r,m,h=>by
  unfold bindL
  rw[bindL_out λw hw=>h w (List.mem_cons_of_mem _ hw)]
  split
  ·have:x≠n:=by rintro rfl;exact h v List.mem_cons_self
   simp[this]
  ·rfl
theorem bindC_out {kindOf:Str->Option NameKind}{x:Str}:∀{binds:List (Str×Value)}{m:Str->Option Value},(∀v,(x,v)∉binds)->bindC kindOf binds m x=m x
 |[],_,_=>rfl
 |(n,v)::r,m,h=>by
  unfold bindC
  rw[bindC_out λw hw=>h w (List.mem_cons_of_mem _ hw)]
  split
  ·rfl
  ·have:x≠n:=by rintro rfl;exact h v List.mem_cons_self
   simp[this]
theorem bindL_get {kindOf:Str->Option NameKind}{x:Str}{v:Value}:∀{P:List Str}{vs:List Value}{i:Nat}{m:Str->Option Value},P.Nodup->P[i]?=some x->vs[i]?=some v->kindOf x=some .local ->
  bindL kindOf (P.zip vs) m x=some v
 |[],_,_,_,_,h,_,_=>by simp at h
 |_::_,[],_,_,_,_,h,_=>by simp at h
 |p::P,w::vs,0,m,nd,h1,h2,hk=>by
  simp at h1 h2;subst h1;subst h2
  show bindL kindOf ((p,w)::P.zip vs) m p=_
  unfold bindL
  rw[bindL_out λv hv=>(List.nodup_cons.mp nd).1 (List.of_mem_zip hv).1,if_pos hk]
  simp
 |p::P,w::vs,i+1,m,nd,h1,h2,hk=>by
  show bindL kindOf ((p,w)::P.zip vs) m x=_
  unfold bindL
  exact bindL_get (i:=i) (List.nodup_cons.mp nd).2 (by simpa using h1) (by simpa using h2) hk
theorem bindC_get {kindOf:Str->Option NameKind}{x:Str}{v:Value}:∀{P:List Str}{vs:List Value}{i:Nat}{m:Str->Option Value},P.Nodup->P[i]?=some x->vs[i]?=some v->kindOf x≠some .local ->
  bindC kindOf (P.zip vs) m x=some v
 |[],_,_,_,_,h,_,_=>by simp at h
 |_::_,[],_,_,_,_,h,_=>by simp at h
 |p::P,w::vs,0,m,nd,h1,h2,hk=>by
  simp at h1 h2;subst h1;subst h2
  show bindC kindOf ((p,w)::P.zip vs) m p=_
  unfold bindC
  rw[bindC_out λv hv=>(List.nodup_cons.mp nd).1 (List.of_mem_zip hv).1,if_neg hk]
  simp
 |p::P,w::vs,i+1,m,nd,h1,h2,hk=>by
  show bindC kindOf ((p,w)::P.zip vs) m x=_
  unfold bindC
  exact bindC_get (i:=i) (List.nodup_cons.mp nd).2 (by simpa using h1) (by simpa using h2) hk
def start (N:List Str) (vs:List V):St:=vs.map some++List.replicate (N.length-vs.length) none
def cxOf (CX:CXT) (P:Program) (w:World) (K:PySem.W.Frag) (mg:Str->Option Value) (base:Heap) (N:List Str) (qual:Str) (scope:Scope) (f:Addr) (cd:Value) (A:Around) (outer:List Env) (s:Shared) (H:Hp) (E:XK):Cx where
 prog:=P
 w:=w
 K:=K
 mg:=mg
 base:=base
 A:=A.deeper (envOfC qual scope s.heap.objs.size f cd)
 N:=N
 s₀:=s
 H₀:=H
 env:=envOfC qual scope s.heap.objs.size f cd
 outer:=outer
 stack:=envOfC qual scope s.heap.objs.size f cd::outer
 ex:=[]
 calm:=true
 fn:=λ_=>true
 pn:=[]
 xe:=λe s'=>wpAny (model P w) (A.deeper (envOfC qual scope s.heap.objs.size f cd)) (leaving (envOfC qual scope s.heap.objs.size f cd) e) (λ_ s''=>CX outer H s E e s'') (λe' s''=>CX outer H s E e' s'') s'
theorem cell_has {sc:Scope}{n:Nat}{x:Str}(h:sc.names.lookup x=some .cell):∃c,(cellsFrom n sc.names []).lookup x=some c:=by
 have q:=PySem.W.cellsFrom_some sc.names n [] (.inl h)
 exact Option.isSome_iff_exists.mp q
theorem inv_start {CX:CXT}{P:Program}{w:World}{K:PySem.W.Frag}{mg:Str->Option Value}{base:Heap}{N ps:List Str}{qual:Str}{scope:Scope}{f:Addr}{cd:Value}{A:Around}{outer:List Env}{s s1:Shared}{H:Hp}{E:XK}{us:List Value}{vs:List V}
  (S:FnScope N ps scope) (hd:A.handled=none) (e0:Env0 P w K mg base A outer s H) (hl:vs.length=ps.length) (r:Vals vs us)
  (x:InCallC s s.heap.objs.size (bindL (envOfC qual scope s.heap.objs.size f cd).kindOf (ps.zip us) λ_=>none) (cellsFrom (s.heap.objs.size+1) scope.names []) (bindC (envOfC qual scope s.heap.objs.size f cd).kindOf (ps.zip us) λ_=>none) s1) :
  Inv (cxOf CX P w K mg base N qual scope f cd A outer s H E) [] (start N vs) H s1:=by
 have hpl:ps.length<=N.length:=by have:=congrArg List.length S.pre;rw[List.length_take] at this;lia
 obtain⟨h1,tk,rfl,hk⟩:=x.done
 have noA:∀b:Addr,b∉(cxOf CX P w K mg base N qual scope f cd A outer s H E).ex:=λb z=>absurd (show b∈([]:List Addr) from z) (by simp)
 refine⟨⟨e0.mod,S.kind,rfl,rfl,Nat.le_refl _,λy z c h1 h2=>?_,λy hy=>?_,λy c _ h=>?_,λ_=>hd,Around.frames_deeper e0.frames,.inr ⟨rfl,rfl⟩,λb z=>absurd z (noA b),e0.bs,e0.bsz,λb _ _=>noA b,λb z=>absurd z (noA b),e0.funs,e0.frf⟩,
  rfl,e0.bare,Un.kept hk,⟨_,x.toInCall.ns,λi y v h1 h2 h3=>?_⟩,λy c h=>⟨_,x.cell y c h⟩,e0.hok.fresh (Nat.le_refl _),λy c h=>?_,λp hp=>absurd (show p∈([]:List (Addr×Obj)) from hp) (by simp),e0.hok.kept hk,?_⟩
 ·exact name_of_addr x.apart (PySem.mem_of_lookup h1) (PySem.mem_of_lookup h2)
 ·have hy:scope.names.lookup y=some .cell\/scope.names.lookup y=some .free:=hy
  rcases hy with hy|hy
  ·exact cell_has hy
  ·exact absurd rfl (S.nofree _ (PySem.mem_of_lookup hy))
 ·exact Nat.le_of_lt (x.above y c (PySem.mem_of_lookup h))
 ·have hi:i<vs.length:=by
   unfold start at h2
   by_cases hi:i<vs.length
   ·exact hi
   ·rw[List.getElem?_append_right (by simpa using hi)] at h2
    rw[List.getElem?_replicate] at h2
    split at h2<;>cases h2
  have ha:vs[i]?=some v:=by
   unfold start at h2
   rw[List.getElem?_append_left (by simpa using hi),List.getElem?_map] at h2
   cases e:vs[i]? with
   |none=>rw[e] at h2;cases h2
   |some a=>rw[e] at h2;cases h2;rfl
  obtain⟨u,hu,rv⟩:=r.get ha
  have hp:ps[i]?=some y:=by
   rw[<- S.pre,List.getElem?_take_of_lt (by lia)];exact h1
  have ndP:ps.Nodup:=by rw[<- S.pre];exact S.nd.sublist (List.take_sublist _ _)
  refine⟨u,rv,?_⟩
  rcases S.par y (List.mem_of_getElem? hp) with k|k
  ·exact .inl ⟨k,bindL_get ndP hp hu k⟩
  ·obtain⟨c,e⟩:=cell_has (n:=s.heap.objs.size+1) k
   refine .inr ⟨.inl k,c,e,?_⟩
   have q:=x.cell y c e
   rw[bindC_get ndP hp hu (by show scope.names.lookup y≠_;rw[k];decide)] at q
   exact q
 ·exact e0.hok.fresh (Nat.le_of_lt (x.above y c (PySem.mem_of_lookup h)))
 ·unfold start
  show _=N.length
  rw[List.length_append,List.length_map,List.length_replicate]
  lia
theorem fn_of {CX:CXT}{P:Program}{w:World}{K:PySem.W.Frag}{mg:Str->Option Value}{base:Heap}{k:Nat}{f:Addr}{name qual:Str}{params:Arguments}{body:List Stmt}{scope:Scope}{dV kV doc pm cdv ct oc:Value}{an od:Option Addr}
  {osl:Array (Option Value)}{N ps:List Str}{sp:Sp}(lk:K.lookup f=some ⟨oc,od,.func (PySem.W.fnOf name qual params body scope dV kV doc pm an cdv ct),osl⟩) (hcd:PySem.W.codeIn K cdv qual=true) (S:FnScope N ps scope)
  (len:∀vs H Q E,sp vs H Q E->vs.length=ps.length)
  (hbody:∀(A:Around) (outer:List Env) (s:Shared) (H:Hp) (vs:List V) (Q:VK) (E:XK),Room k (A.deeper (envOfC qual scope s.heap.objs.size f cdv))->sp vs H Q E ->
   ∃t,PSs (cxOf CX P w K mg base N qual scope f cdv A outer s H E) body t/\t { nx:=λ_ H'=>Q .non H',rt:=Q } (start N vs) H) :
  FnOk P w K mg base CX (k+1) f (PySem.W.fnOf name qual params body scope dV kV doc pm an cdv ct) ps sp:=by
 refine⟨len,λA outer s H args us vs Q E hr e0 hb r hsp=>?_⟩
 have hl:=len _ _ _ _ hsp
 have KX:K.In s.heap:=e0.mod.kin.keeps λb o e=>(e0.bs b o e).1
 have lim:s.heap.NoLimit:=e0.mod.nolimit.keeps λb o e=>(e0.bs b o e).1
 have hkind:∀y∈ps.zip us,scope.names.lookup y.1=some .local\/(scope.names.lookup y.1=some .cell/\((cellsFrom (s.heap.objs.size+1) scope.names []).lookup y.1).isSome=true):=λ⟨n,v⟩ hy=>by
  rcases S.par n (List.of_mem_zip hy).1 with q|q
  ·exact .inl q
  ·exact .inr ⟨q,PySem.W.cellsFrom_some _ _ _ (.inl q)⟩
 refine codeAny_call_function hr.depth (KX _ _ lk) rfl S.co S.gen rfl (PySem.W.codeRec_of KX hcd) (hb _ _ _ _ ?_)
 refine wpAny_newFunctionEnv_cells S.kind hkind λenv he s1 x=>?_
 subst he
 refine⟨lim.keeps x.toInCall.keep,codeAny_func ?_⟩
 obtain⟨t,ht,hq⟩:=hbody A outer s H vs Q E (hr.deeper _) hsp
 have I:Inv (cxOf CX P w K mg base N qual scope f cdv A outer s H E) [] (start N vs) H s1:=inv_start S hr.hd e0 hl r x
 refine wpAny_mono (ht [] s1 (start N vs) H _ I hq) (λfl s' hs=>?_) λe s' hs=>hs
 have fin:∀{σ':St}{H':Hp}{v:V}{u:Value},Inv (cxOf CX P w K mg base N qual scope f cdv A outer s H E) [] σ' H' s'->RelV v u->Q v H'->CE outer P w H s Q u s':=
  λ{σ' H' v u} J rv q=>⟨v,H',J.os,J.bare,J.base,J.hok,rv,q⟩
 cases fl with
 |ret u=>
  obtain⟨v,σ',H',J,rv,q⟩:=hs
  exact fin J rv q
 |next=>
  obtain⟨σ',H',J,q⟩:=hs
  exact fin (v:=V.non) (u:=Value.none) J rfl q
 |brk=>
  obtain⟨_,_,_,q⟩:=hs
  exact False.elim q
 |cont=>
  obtain⟨_,_,_,q⟩:=hs
  exact False.elim q
end L2
namespace L2
open PySem PySem.Spec PyProof.Rows
section
variable {X:Cx}{x:Str}{p pos:Pos}{e:Expr}{es:List Expr}{t:TA}{id T:String}{r:List V->Hp->VK->Prop}
def tCB (r:List V->Hp->VK->Prop) (t:TA):TE:=λσ H Q=>t σ H λvs H1=>r vs H1 Q
theorem pe_callB (hc:CallR X (.builtin id) r) (hg:Gl X x) (hm:X.mg x=none) (hv:bootBuiltins x=some (.builtin id)) (ha:PA X (e::es) t) (hn:x ≠ "__name__":=by decide) (hdb:(x==("__debug__" : Str))=false:=by decide)
  (he:starEach (e::es) X.env=(false,eval e X.env)::starEach es X.env:=by rfl) (hpl:(backTo pos (starEach es X.env)).any (·.1)=false:=by rfl):PE X (.Call (.Name x p) (e::es) [] pos) (tCB r t):=by
 intro pins s σ H Q I h
 refine wpAny_Call_Name_kw (ld_blt I hg hm hv ?_ hn hdb)
 exact PyProof.Rows.callWith_builtin1 (thn (ha pos pins s σ H _ I h) λus s1 ⟨vs,H1,I1,r1,q1⟩=>hc pins s1 σ H1 vs us Q I1 r1 q1) he hpl
theorem pe_callTy (hc:CallR X (.type T) r) (hg:Gl X x) (hm:X.mg x=none) (hv:bootBuiltins x=some (.type T)) (ha:PA X (e::es) t) (hn:x ≠ "__name__":=by decide) (hdb:(x==("__debug__" : Str))=false:=by decide)
  (he:starEach (e::es) X.env=(false,eval e X.env)::starEach es X.env:=by rfl) (hpl:(backTo pos (starEach es X.env)).any (·.1)=false:=by rfl):PE X (.Call (.Name x p) (e::es) [] pos) (tCB r t):=by
 intro pins s σ H Q I h
 refine wpAny_Call_Name_kw (ld_blt I hg hm hv ?_ hn hdb)
 exact PyProof.Rows.callWith_type1 (thn (ha pos pins s σ H _ I h) λus s1 ⟨vs,H1,I1,r1,q1⟩=>hc pins s1 σ H1 vs us Q I1 r1 q1) he hpl
end
end L2
namespace HT
open PySem PyProof.Rows
section
open PySem.SeqAt
open PySem.AutoSeq1 (wpAny_loadPart')
open PySem.MeetsSeq PySem.MeetsSeq2 PySem.MeetsSeq3
end
section
variable {prog:Program}{w:World}{A:Around}{E:Value->Shared->Prop}{s:Shared}
def sIx (n d:Nat):Option Int->Nat
 |none=>d
 |some v=>if v<0 then (v+(n:Int)).toNat else min v.toNat n
theorem sIx_le (n d:Nat) (hd:d<=n) (o:Option Int):sIx n d o<=n:=by
 cases o with
 |none=>exact hd
 |some v=>
  show (if v<0 then (v+(n:Int)).toNat else min v.toNat n)<=n
  by_cases hv:v<0
  ·rw[if_pos hv];lia
  ·rw[if_neg hv];exact Nat.min_le_right _ _
theorem clip_eq (v:Int) (n d:Nat):(if v<0 then max (v+(n:Int)) 0 else min v (n:Int))=((sIx n d (some v):Nat):Int):=by
 show (if v<0 then max (v+(n:Int)) 0 else min v (n:Int))=(((if v<0 then (v+(n:Int)).toNat else min v.toNat n):Nat):Int)
 by_cases hv:v<0
 ·simp only[if_pos hv];lia
 ·simp only[if_neg hv];lia
theorem adjust_gen (lo hi:Option Int) (n:Nat):Builtin.Slice.sliceAdjust lo hi 1 (n:Int)=(((sIx n 0 lo:Nat):Int),((sIx n n hi:Nat):Int)):=by
 have h1:¬((1:Int)<0):=by lia
 unfold Builtin.Slice.sliceAdjust
 simp only[h1,if_false]
 refine Prod.ext ?_ ?_
 ·cases lo with
  |none=>rfl
  |some v=>exact clip_eq v n 0
 ·cases hi with
  |none=>rfl
  |some v=>exact clip_eq v n n
theorem places_gen (i j:Nat):Builtin.Slice.slicePlaces (i:Int) (j:Int) 1=j-i:=by
 unfold Builtin.Slice.slicePlaces
 have h1:(1:Int)>0:=by lia
 simp only[h1,if_true,Int.ediv_one]
 split<;>lia
theorem slicePart_ {v:Value}{o:Option Int}{Q:Option Int->Shared->Prop}(p:IsPart v o) (h:Q o s):wpAny (model prog w) A (Builtin.Slice.slicePartIndex v) Q E s:=by
 cases p with
 |none=>exact slicePart_none h
 |int i t=>exact slicePart_int h
theorem sliceApplied_gen {sl:Addr}{vl vu:Value}{lo hi:Option Int}{n:Nat}{Q:Int×Int×Nat->Shared->Prop}(hs:s.heap.IsSliceOf sl vl vu .none) (pl:IsPart vl lo) (pu:IsPart vu hi)
  (h:Q (((sIx n 0 lo:Nat):Int),1,sIx n n hi-sIx n 0 lo) s):wpAny (model prog w) A (Builtin.Slice.sliceApplied (.ref sl) (pure (n:Int))) Q E s:=by
 obtain⟨os,hos,hcs,hds⟩:=id hs
 unfold Builtin.Slice.sliceApplied Builtin.Slice.sliceFields
 refine wpAny_bind (wpAny_bind (wpAny_field hos hds (x:=vl) rfl (wpAny_bind (wpAny_field hos hds (x:=vu) rfl (wpAny_bind (wpAny_field hos hds (x:=.none) rfl (wpAny_pure ?_)))))))
 refine wpAny_bind (slicePart_none ?_)
 show wpAny _ _ (if ((1:Int)==0)=true then _ else _) _ _ s
 rw[if_neg (by decide)]
 refine wpAny_bind (slicePart_ pl (wpAny_bind (slicePart_ pu (wpAny_bind (wpAny_pure ?_)))))
 show wpAny _ _ (match Builtin.Slice.sliceAdjust lo hi 1 (n:Int) with|(lo,hi)=>pure (lo,(1:Int),Builtin.Slice.slicePlaces lo hi 1)) _ _ s
 rw[adjust_gen lo hi n]
 show wpAny _ _ (pure (((sIx n 0 lo:Nat):Int),(1:Int),Builtin.Slice.slicePlaces ((sIx n 0 lo:Nat):Int) ((sIx n n hi:Nat):Int) 1)) _ _ s
 rw[places_gen]
 exact wpAny_pure h
theorem pick_gen (xs:Array Value) (i k:Nat):((List.range k).filterMap λ(m:Nat)=>xs[((i:Int)+(m:Int)*1).toNat]?).toArray=((xs.toList.drop i).take k).toArray:=by
 have e:(λ(m:Nat)=>xs[((i:Int)+(m:Int)*1).toNat]?)=λm=>xs[i+m]?:=by
  funext m
  have:((i:Int)+(m:Int)*1).toNat=i+m:=by lia
  rw[this]
 rw[e]
 have:=pick_run xs i k
 rw[List.filterMap_map] at this
 have e2:((λx=>xs[x]?)∘λx=>i+x)=λm=>xs[i+m]?:=rfl
 rw[e2] at this
 rw[this]
theorem getItem_tuple_cut {t sl:Addr}{items:Array Value}{vl vu:Value}{lo hi:Option Int}{Q:Value->Shared->Prop}(ht:IsTup s.heap t items) (hs:s.heap.IsSliceOf sl vl vu .none) (pl:IsPart vl lo) (pu:IsPart vu hi)
  (hw:¬(sIx items.size 0 lo=0/\sIx items.size items.size hi=items.size))
  (h:Q (.ref s.heap.objs.size) { s with heap:=s.heap.push { cls:=.type "tuple",data:=.seq ((items.toList.drop (sIx items.size 0 lo)).take (sIx items.size items.size hi-sIx items.size 0 lo)).toArray } })
  (hsz:items.size<=sizeLine):wpAny (model prog w) A (getItem (.ref t) (.ref sl)) Q E s:=by
 have htake:sizeOk (.seq ((items.toList.drop (sIx items.size 0 lo)).take (sIx items.size items.size hi-sIx items.size 0 lo)).toArray):=by
  show ((items.toList.drop (sIx items.size 0 lo)).take (sIx items.size items.size hi-sIx items.size 0 lo)).toArray.size<=sizeLine
  rw[List.size_toArray,List.length_take,List.length_drop,Array.length_toList]
  lia
 have hj:sIx items.size items.size hi<=items.size:=sIx_le _ _ (Nat.le_refl _) hi
 obtain⟨os,hos,hcs,hds⟩:=id hs
 have hTs:s.TypeIs (.ref sl) "slice":=⟨os,hos,hcs⟩
 unfold getItem
 try with_reducible refine wpAny_holding ?_
 first|refine wpAny_bind (wpAny_pure ?_)|skip
 refine wpAny_bind (wpAny_sequenceKey ht.typeIs (by decide) ?_)
 refine wpAny_bind (wpAny_callSpecial?_slot (name:=Str.ofString "__getitem__") ht.typeIs PyProof.Rows.slot_tuple_getitem
  (wpAny_call_entry PyProof.Rows.slot_tuple_getitem ht.typeIs entry_tuple_getitem ?_ (args_tuple_getitem _ _)))
 show wpAny _ _ (Builtin.Tuple.tupleItemsOf (.ref t) >>= _) _ _ s
 refine wpAny_bind (tupleItemsOf_ ht ?_)
 refine wpAny_bind (wpAny_typeOf hTs ?_)
 rw[if_pos (by decide)]
 refine wpAny_bind (sliceApplied_gen hs pl pu ?_)
 have hno:¬((((sIx items.size 0 lo:Nat):Int)==0&&(1:Int)==1&&(sIx items.size items.size hi-sIx items.size 0 lo)==items.size)=true):=by
  intro q
  rw[Bool.and_eq_true,Bool.and_eq_true] at q
  have q1:((sIx items.size 0 lo:Nat):Int)=0:=eq_of_beq q.1.1
  have q2:sIx items.size items.size hi-sIx items.size 0 lo=items.size:=eq_of_beq q.2
  exact hw ⟨by lia,by lia⟩
 show wpAny _ _ (if (((sIx items.size 0 lo:Nat):Int)==0&&(1:Int)==1&&(sIx items.size items.size hi-sIx items.size 0 lo)==items.size)=true then _ else _) _ _ s
 rw[if_neg hno,pick_gen]
 first
  |exact wpAny_bind (m:=Builtin.Tuple.tupleExact _) (wpAny_newObj_type (wpAny_pure ⟨_,rfl,wpAny_pure h⟩) htake)
  |exact wpAny_bind (m:=Builtin.Tuple.tupleExact _) (wpAny_newObj_type (wpAny_bind (wpAny_pure (wpAny_pure ⟨_,rfl,wpAny_pure h⟩))) htake)
  |exact wpAny_bind (wpAny_bind (m:=Builtin.Tuple.tupleExact _) (wpAny_newObj_type (wpAny_pure (wpAny_pure ⟨_,rfl,wpAny_pure h⟩)) htake))
  |exact wpAny_bind (wpAny_bind (m:=Builtin.Tuple.tupleExact _) (wpAny_newObj_type (wpAny_pure ⟨_,rfl,wpAny_pure h⟩) htake))
end
end HT
namespace L2
open PySem PySem.Spec PyProof.Rows
abbrev TO:=St->Hp->(Option Int->Hp->Prop)->Prop
def PO (X:Cx) (e:Option Expr) (t:TO):Prop:=
 ∀(pins:List (Addr×Obj)) (s:Shared) (σ:St) (H:Hp) (Q:Option Int->Hp->Prop),Inv X pins σ H s->t σ H Q ->
  wpAny (model X.prog X.w) X.A (evalPart e X.env) (λu s'=>∃o H',Inv X pins σ H' s'/\IsPart u o/\Q o H') X.xe s
def tNoPart:TO:=λ_ H Q=>Q none H
def tPart (t:TE):TO:=λσ H Q=>t σ H λx H1=>∃i,x=.int i/\Q (some i) H1
section
variable {X:Cx}{e:Expr}{te:TE}{lo hi:Option Expr}{tl th:TO}{pos p2:Pos}
theorem po_none:PO X none tNoPart:=by
 intro pins s σ H Q I h
 rw[evalPart_none]
 exact wpAny_pure ⟨none,H,I,.none,h⟩
theorem po_some (h:PE X e te):PO X (some e) (tPart te):=by
 intro pins s σ H Q I hw
 rw[evalPart_some]
 refine thn (h pins s σ H _ I hw) λu s1 ⟨x,H1,I1,r1,q1⟩=>?_
 obtain⟨i,rfl,q⟩:=q1
 obtain⟨t,rfl⟩:=r1
 exact⟨some i,H1,I1,.int i t,q⟩
def SlR (X:Cx) (r:V->Option Int->Option Int->Hp->VK->Prop):Prop:=
 ∀(pins:List (Addr×Obj)) (s:Shared) (σ:St) (H:Hp) (x:V) (v vl vu:Value) (lo hi:Option Int) (sl:Addr) (Q:VK),Inv X pins σ H s->RelV x v->s.heap.IsSliceOf sl vl vu .none->IsPart vl lo->IsPart vu hi->r x lo hi H Q ->
  ∃T id,typeLookup (.type T) "__getitem__" = pure (some (.builtin id))/\s.TypeIs v T/\wpAny (model X.prog X.w) X.A (getItem v (.ref sl)) (EP X pins σ Q) X.xe s
def tSl (r:V->Option Int->Option Int->Hp->VK->Prop) (te:TE) (tl th:TO):TE:=λσ H Q=>te σ H λx H1=>tl σ H1 λl H2=>th σ H2 λu H3=>r x l u H3 Q
theorem pe_slice {r:V->Option Int->Option Int->Hp->VK->Prop}(hr:SlR X r) (he:PE X e te) (hl:PO X lo tl) (hu:PO X hi th):PE X (.Subscript e (.Slice lo hi none p2) pos) (tSl r te tl th):=by
 intro pins s σ H Q I h
 refine Subscript_ (thn (he pins s σ H _ I h) λv s1 ⟨x,H1,I1,r1,q1⟩=>?_)
 refine wpAny_Slice (thn (hl pins s1 σ H1 _ I1 q1) λvl s2 ⟨l,H2,I2,pl,q2⟩=>thn (hu pins s2 σ H2 _ I2 q2) λvu s3 ⟨u,H3,I3,pu,q3⟩=>?_)
 rw[evalPart_none]
 refine wpAny_pure ?_
 have I4:Inv X pins σ H3 { s3 with heap:=s3.heap.push { cls:=.type "slice",data:=.fields #[vl,vu,.none] } }:=I3.kept (t':=s3.toks) λb ob q=>Heap.get?_push_of_some _ q
 obtain⟨T,id,hT,ht,hg⟩:=hr pins { s3 with heap:=s3.heap.push { cls:=.type "slice",data:=.fields #[vl,vu,.none] } } σ H3 x v vl vu l u s3.heap.objs.size Q I4 r1 (Heap.IsSliceOf.new ..) pl pu q3
 show wpAny (model X.prog X.w) X.A (subscriptTail e (.Slice lo hi none p2) v (.ref s3.heap.objs.size)) (EP X pins σ Q) X.xe { s3 with heap:=s3.heap.push { cls:=.type "slice",data:=.fields #[vl,vu,.none] } }
 exact tail_any (ops:=[.ref s3.heap.objs.size,v]) ht hT hg (by with_unfolding_all rfl)
def cutV (xs:List V) (lo hi:Option Int):List V:=(xs.drop (HT.sIx xs.length 0 lo)).take (HT.sIx xs.length xs.length hi-HT.sIx xs.length 0 lo)
theorem cutV_length (xs:List V) (lo hi:Option Int):(cutV xs lo hi).length<=xs.length:=by
 unfold cutV
 rw[List.length_take,List.length_drop]
 lia
def rSlT (K:PySem.W.Frag):V->Option Int->Option Int->Hp->VK->Prop:=λx lo hi H Q=>∃a xs,x=.ref a/\SqT K H a xs /\
 ¬(HT.sIx xs.length 0 lo=0/\HT.sIx xs.length xs.length hi=xs.length)/\∀p,H p=none->Q (.ref p) (upd H p (.tup (cutV xs lo hi)))
theorem sl_tup:SlR X (rSlT X.K):=by
 intro pins s σ H x v vl vu lo hi sl Q I rx hs pl pu h
 obtain⟨a,xs,rfl,hx,hw,q⟩:=h
 cases rx
 obtain⟨its,r,ht,hz⟩:=I.tuple hx
 have hlen:its.toArray.size=xs.length:=by rw[List.size_toArray];exact r.length.symm
 refine⟨"tuple",_,PyProof.Rows.slot_tuple_getitem.lookup,ht.typeIs,?_⟩
 refine HT.getItem_tuple_cut ht hs pl pu (by rw[hlen];exact hw) ?_ (by rw[hlen];exact hz)
 rw[hlen]
 refine⟨.ref s.heap.objs.size,_,I.laid (t':=s.toks) (o:=.tup (cutV xs lo hi)) (λb ob q=>Heap.get?_push_of_some _ q) (Nat.le_refl _) ?_,rfl,q _ (I.hok.fresh (Nat.le_refl _))⟩
 exact⟨Nat.le_trans (cutV_length xs lo hi) hz,_,(r.drop (HT.sIx xs.length 0 lo)).take (HT.sIx xs.length xs.length hi-HT.sIx xs.length 0 lo),IsTupX.new _ _⟩
end
end L2
namespace L2
open PySem PySem.Spec PyProof.Rows
def ixN (n:Nat) (i:Int):Option Nat:=if 0<=i then (if i<n then some i.toNat else none) else if -(n:Int)<=i then some (i+n).toNat else none
def atI {α:Type}(xs:List α) (i:Int):Option α:=(ixN xs.length i).bind λj=>xs[j]?
theorem ixN_seq {n:Nat}{i:Int}{j:Nat}(h:ixN n i=some j):seqIndex? i n=some j/\j<n/\-(n:Int)<=i/\i<n:=by
 unfold ixN at h
 by_cases h0:0<=i
 ·rw[if_pos h0] at h
  by_cases h1:i<n
  ·rw[if_pos h1] at h
   have e:i.toNat=j:=Option.some.inj h
   exact⟨by rw[seqIndex_of h0 h1,e],by lia,by lia,h1⟩
  ·rw[if_neg h1] at h;cases h
 ·rw[if_neg h0] at h
  by_cases h1:-(n:Int)<=i
  ·rw[if_pos h1] at h
   have e:(i+n).toNat=j:=Option.some.inj h
   exact⟨by rw[seqIndex_neg (by lia) h1,e],by lia,h1,by lia⟩
  ·rw[if_neg h1] at h;cases h
theorem atI_get {α:Type}{xs:List α}{i:Int}{v:α}(h:atI xs i=some v):∃j,seqIndex? i xs.length=some j/\xs[j]?=some v/\j<xs.length/\-(xs.length:Int)<=i/\i<xs.length:=by
 unfold atI at h
 cases e:ixN xs.length i with
 |none=>rw[e] at h;cases h
 |some j=>
  rw[e] at h
  obtain⟨h1,h2,h3,h4⟩:=ixN_seq e
  exact⟨j,h1,h,h2,h3,h4⟩
theorem atI_nat {α:Type}{xs:List α}{j:Nat}{v:α}(h:xs[j]?=some v):atI xs (j:Int)=some v:=by
 have hj:j<xs.length:=(List.getElem?_eq_some_iff.mp h).1
 have e:ixN xs.length (j:Int)=some j:=by
  unfold ixN
  rw[if_pos (by lia),if_pos (by lia)];simp
 unfold atI;rw[e];exact h
def PlainIx (b:Expr):Prop:=∀o i,subscripted b false o i=operate [o,i] (getItem o i)
def IxR (X:Cx) (r:R2):Prop:=
 ∀(value slice:Expr) (pins:List (Addr×Obj)) (s:Shared) (σ:St) (H:Hp) (x y:V) (v u:Value) (Q:VK),Inv X pins σ H s->RelV x v->RelV y u->r x y H Q ->
  subscripted slice false v u=operate [v,u] (getItem v u)->wpAny (model X.prog X.w) X.A (subscriptTail value slice v u) (EP X pins σ Q) X.xe s
def MtR (X:Cx) (id:String) (r:V->List V->Hp->VK->Prop):Prop:=
 ∀(pins:List (Addr×Obj)) (s:Shared) (σ:St) (H:Hp) (x:V) (xs:List V) (v:Value) (us:List Value) (Q:VK),Inv X pins σ H s->RelV x v->Vals xs us->r x xs H Q ->
  wpAny (model X.prog X.w) X.A (call (.builtin id) (v::us)) (EP X pins σ Q) X.xe s
section
variable {X:Cx}{a b:Expr}{ta tb:TE}{pos:Pos}
theorem IxR.or {r r':R2}(h:IxR X r) (h':IxR X r'):IxR X (λx y H Q=>r x y H Q\/r' x y H Q):=by
 intro value slice pins s σ H x y v u Q I rx ry q hs
 rcases q with q|q
 ·exact h value slice pins s σ H x y v u Q I rx ry q hs
 ·exact h' value slice pins s σ H x y v u Q I rx ry q hs
theorem pe_ix {r:R2}(hr:IxR X r) (ha:PE X a ta) (hb:PE X b tb) (hs:PlainIx b):PE X (.Subscript a b pos) (tOp r ta tb):=by
 intro pins s σ H Q I h
 exact Subscript_ (binT ha hb I h λv u s2 x y H2 I2 rx ry q=>hr a b pins s2 σ H2 x y v u Q I2 rx ry q (hs _ _))
def rIxL (K:PySem.W.Frag):R2:=λx y H Q=>∃p xs i v,x=.ref p/\y=.int i/\SqL K H p xs/\atI xs i=some v/\Q v H
def rIxT (K:PySem.W.Frag):R2:=λx y H Q=>∃p xs i v,x=.ref p/\y=.int i/\SqT K H p xs/\atI xs i=some v/\Q v H
def rIxS:R2:=λx y H Q=>∃z i c,x=.str z/\y=.int i/\z.length<=sizeLine/\atI z.cps.toList i=some c/\Q (.str ⟨#[c]⟩) H
theorem ix_list:IxR X (rIxL X.K):=by
 intro value slice pins s σ H x y v u Q I rx ry h hs
 obtain⟨p,xs,i,z,rfl,rfl,hq,he,q⟩:=h
 cases rx
 obtain⟨t,rfl⟩:=ry
 obtain⟨its,r,pl,hz⟩:=I.list hq
 obtain⟨j,h1,h2,h3,h4,h5⟩:=atI_get he
 obtain⟨w,ew,rw'⟩:=r.get h2
 have hl:=r.length
 have hn:=line63
 have fin:EP X pins σ Q w s:=⟨z,H,I,rw',q⟩
 by_cases h0:0<=i
 ·have hj:i.toNat=j:=by
   rw[seqIndex_of h0 h5] at h1
   exact Option.some.inj h1
  exact item_listR pl.isList h0 (by lia) (by rw[hj];simpa using ew) fin hs
 ·have hj:(i+(its.toArray.size:Int)).toNat=j:=by
   rw[seqIndex_neg (by lia) h4] at h1
   rw[List.size_toArray,<- hl]
   exact Option.some.inj h1
  exact subscriptTail_builtinR (x:=w) pl.isList.typeIs slot_list_getitem.lookup
   (wpAny_getItem_list_neg (Q:=λr s'=>r=w/\EP X pins σ Q r s') pl.isList (by lia) (by rw[List.size_toArray]<;>lia) (by lia) (by rw[hj];simpa using ew) ⟨rfl,fin⟩) hs
theorem ix_tup:IxR X (rIxT X.K):=by
 intro value slice pins s σ H x y v u Q I rx ry h hs
 obtain⟨p,xs,i,z,rfl,rfl,hq,he,q⟩:=h
 cases rx
 obtain⟨t,rfl⟩:=ry
 obtain⟨its,r,pl,hz⟩:=I.tuple hq
 obtain⟨j,h1,h2,h3,h4,h5⟩:=atI_get he
 obtain⟨w,ew,rw'⟩:=r.get h2
 have hl:=r.length
 have hn:=line63
 have fin:EP X pins σ Q w s:=⟨z,H,I,rw',q⟩
 exact subscriptTail_builtinR (x:=w) pl.typeIs slot_tuple_getitem.lookup
  (getItem_tuple (j:=j) (Q:=λr s'=>r=w/\EP X pins σ Q r s') pl (by lia) (by lia) (by rw[List.size_toArray,<- hl];exact h1) (by simpa using ew) ⟨rfl,fin⟩) hs
theorem ix_str:IxR X rIxS:=by
 intro value slice pins s σ H x y v u Q I rx ry h hs
 obtain⟨z,i,c,rfl,rfl,hz,he,q⟩:=h
 obtain⟨t,rfl⟩:=rx
 obtain⟨t',rfl⟩:=ry
 obtain⟨j,h1,h2,h3,h4,h5⟩:=atI_get he
 have hl:z.cps.toList.length=z.length:=by simp[Str.length]
 rw[hl] at h1 h4 h5
 have hn:=line63
 exact tail_any (typeIs_str s z t) slot_str_getitem.lookup (getItem_str (c:=c) (by
  have e1:decide (i < -(2^63:Int))=false:=decide_eq_false (by lia)
  have e2:decide (i>=2^63)=false:=decide_eq_false (by lia)
  rw[e1,e2,Bool.or_false]) (by rw[h1];simpa using h2) ⟨.str ⟨#[c]⟩,H,I.tok _,⟨_,rfl⟩,q⟩) hs
theorem mapSeq_set (its:List Value) (n j:Nat) (u:Value):Obj.mapSeq (·.setIfInBounds j u) { cls:=.type "list",data:=.seq its.toArray n }={ cls:=.type "list",data:=.seq (its.set j u).toArray n }:=by
 simp[Obj.mapSeq]
theorem Inv.lst {pins:List (Addr×Obj)}{σ:St}{H:Hp}{s:Shared}{p:Addr}{xs:List V}(I:Inv X pins σ H s) (h:H p=some (.lst xs)) :
  ∃(its:List Value) (n:Nat),Vals xs its/\s.heap.get? p=some { cls:=.type "list",data:=.seq its.toArray n }/\xs.length<=sizeLine:=by
 obtain⟨z,its,n,r,e⟩:=I.hok p _ h
 exact⟨its,n,r,e,z⟩
theorem Inv.lstUpd {pins:List (Addr×Obj)}{σ:St}{H:Hp}{s:Shared}{p:Addr}{xs ys:List V}{its its':List Value}{n n':Nat}{f:Obj->Obj}(I:Inv X pins σ H s) (h:H p=some (.lst xs))
  (ho:s.heap.get? p=some { cls:=.type "list",data:=.seq its.toArray n }) (hf:f { cls:=.type "list",data:=.seq its.toArray n }={ cls:=.type "list",data:=.seq its'.toArray n' }) (r:Vals ys its') (hz:ys.length<=sizeLine) (t:Nat) :
  Inv X pins σ (upd H p (.lst ys)) { s with heap:=s.heap.update p f,toks:=t }:=by
 have e:(s.heap.update p f).get? p=some { cls:=.type "list",data:=.seq its'.toArray n' }:=by
  rw[Heap.get?_update_self f ho (by rw[hf]<;>rfl),hf]
 refine I.write (x:=p) (e:=p) (by rw[h];trivial) (.inl rfl) (λb u hb q=>(Heap.get?_update_other _ _ (Ne.symm hb)).trans q) ⟨_,e⟩ ?_
 exact⟨hz,its',n',r,e⟩
def rSetL:V->V->V->Hp->(Hp->Prop)->Prop:=λo i v H Q=>∃p xs k j,o=.ref p/\i=.int k/\H p=some (.lst xs)/\ixN xs.length k=some j/\Q (upd H p (.lst (xs.set j v)))
theorem set_list:PSet X rSetL:=by
 intro pins s σ H o i v ov iv u Q I ro ri rv h
 obtain⟨p,xs,k,j,rfl,rfl,hp,hj,q⟩:=h
 cases ro
 obtain⟨t,rfl⟩:=ri
 obtain⟨its,n,r,ho,hz⟩:=I.lst hp
 obtain⟨h1,h2,h3,h4⟩:=ixN_seq hj
 have hl:=r.length
 have hn:=line63
 have I':Inv X pins σ (upd H p (.lst (xs.set j v))) { s with heap:=s.heap.update p (Obj.mapSeq (·.setIfInBounds j u)) }:=
  I.lstUpd hp ho (mapSeq_set its n j u) (r.set rv j) (by rw[List.length_set];exact hz) s.toks
 by_cases h0:0<=k
 ·have hk:k.toNat=j:=by
   rw[seqIndex_of h0 h4] at h1
   exact Option.some.inj h1
  exact PySem.W.ki_setAt ho h0 (by lia) (by rw[List.size_toArray,<- hl];exact h4) (by rw[hk];exact⟨_,I',q⟩)
 ·have hk:(k+(its.toArray.size:Int)).toNat=j:=by
   rw[seqIndex_neg (by lia) h3] at h1
   rw[List.size_toArray,<- hl]
   exact Option.some.inj h1
  exact PySem.W.ki_setBack ho (by lia) (by rw[List.size_toArray,<- hl];exact h3) (by lia) (by rw[hk];exact⟨_,I',q⟩)
theorem call_len_seq:CallR X (.builtin "len") (λxs H Q=>∃p ys,xs=[.ref p]/\(SqL X.K H p ys\/SqT X.K H p ys)/\Q (.int ys.length) H):=by
 intro pins s σ H xs us Q I r h
 obtain⟨p,ys,rfl,hq,q⟩:=h
 obtain⟨u,rfl,rx⟩:=vals1 r
 cases rx
 have hn:=line63
 rcases hq with hq|hq
 ·obtain⟨its,r',pl,hz⟩:=I.list hq
  have hlen:=r'.length
  exact Calls.call_len_list pl.isList (by simp only[List.size_toArray]<;>lia) ⟨.int ys.length,H,I.tok _,⟨s.toks+1,by rw[List.size_toArray,hlen]⟩,q⟩
 ·obtain⟨its,r',pl,hz⟩:=I.tuple hq
  have hlen:=r'.length
  exact len_tuple pl (by simp only[List.size_toArray]<;>lia) ⟨.int ys.length,H,I.tok _,⟨s.toks+1,by rw[List.size_toArray,hlen]⟩,q⟩
theorem call_len_str:CallR X (.builtin "len") (λxs H Q=>∃z,xs=[.str z]/\z.length<=sizeLine/\Q (.int z.length) H):=by
 intro pins s σ H xs us Q I r h
 obtain⟨z,rfl,hz,q⟩:=h
 obtain⟨u,rfl,t,rfl⟩:=vals1 r
 have hn:=line63
 exact len_str (by lia) ⟨.int z.length,H,I.tok _,⟨_,rfl⟩,q⟩
theorem call_tuple_of:CallR X (.type "tuple") (λxs H Q=>∃p ys,xs=[.ref p]/\((SqL X.K H p ys/\∀l,H l=none->Q (.ref l) (upd H l (.tup ys)))\/(SqT X.K H p ys/\Q (.ref p) H))):=by
 intro pins s σ H xs us Q I r h
 obtain⟨p,ys,rfl,h⟩:=h
 obtain⟨u,rfl,rx⟩:=vals1 r
 cases rx
 rcases h with ⟨hq,q⟩|⟨hq,q⟩
 ·obtain⟨its,r',pl,hz⟩:=I.list hq
  have hlen:=r'.length
  refine call_tuple_list pl.isList (λh' kp=>?_) (by simp only[List.size_toArray]<;>lia)
  have I1:Inv X pins σ H { s with heap:=h' }:=I.kept (t':=s.toks) kp
  have I2:Inv X pins σ (upd H h'.objs.size (.tup ys)) { s with heap:=h'.push { cls:=.type "tuple",data:=.seq its.toArray } }:=
   I1.laid (t':=s.toks) (λb o e=>Heap.get?_push_of_some _ e) (Nat.le_refl _) (show ObjOk X.prog X.w _ _ _ (.tup ys) from ⟨hz,its,r',IsTupX.new _ _⟩)
  exact⟨.ref h'.objs.size,_,I2,rfl,q _ (I1.hok.fresh (Nat.le_refl _))⟩
 ·obtain⟨its,r',pl,hz⟩:=I.tuple hq
  exact call_tuple_same pl ⟨.ref p,H,I,rfl,q⟩
def tyV (K:PySem.W.Frag) (T:String) (x:V) (H:Hp):Prop:=match x with
 |.str _=>T = "str"
 |.int _=>T = "int"
 |.ref p=>(T = "list" /\ ∃xs,SqL K H p xs)\/(T = "tuple" /\ ∃o,K.lookup p=some o/\o.cls=.type "tuple" /\ o.dict=none) \/
   (T = "dict" /\ ((∃kvs,H p=some (.dK kvs))\/∃kvs,H p=some (.dT kvs)))\/(T = "set" /\ ∃S n,H p=some (.set S n))
 |_=>False
theorem tyV_is {pins:List (Addr×Obj)}{σ:St}{H:Hp}{s:Shared}{T:String}{x:V}{v:Value}(I:Inv X pins σ H s) (r:RelV x v) (ty:tyV X.K T x H) :
  s.TypeIs v T/\∀a,v=.ref a->∃ob,s.heap.get? a=some ob/\ob.dict=none:=by
 cases x with
 |str z=>
  obtain⟨t,rfl⟩:=r
  cases (show T = "str" from ty)
  exact⟨typeIs_str s z t,λ_ e=>nomatch e⟩
 |int i=>
  obtain⟨t,rfl⟩:=r
  cases (show T = "int" from ty)
  exact⟨typeIs_int s i t,λ_ e=>nomatch e⟩
 |ref p=>
  cases r
  rcases ty with ⟨rfl,xs,hq⟩|⟨rfl,o,hk,hc,hd⟩|⟨rfl,hk⟩|⟨rfl,S,n,hk⟩
  ·obtain⟨its,_,pl,_⟩:=I.list hq
   refine⟨pl.isList.typeIs,λa e=>?_⟩
   cases e
   obtain⟨o,n,e,c,hd,_⟩:=pl
   exact⟨o,e,hd⟩
  ·refine⟨⟨o,I.kIn p o hk,hc⟩,λa e=>?_⟩
   cases e
   exact⟨o,I.kIn _ o hk,hd⟩
  ·have z:∃o,s.heap.get? p=some o/\o.ExactDict:=by
    rcases hk with ⟨kvs,hk⟩|⟨kvs,hk⟩
    ·obtain⟨_,_,_,_,o,_,_,e,ex,_⟩:=I.hok p _ hk
     exact⟨o,e,ex⟩
    ·obtain⟨_,_,_,_,o,_,_,e,ex,_⟩:=I.hok p _ hk
     exact⟨o,e,ex⟩
   obtain⟨o,e,ex⟩:=z
   refine⟨⟨o,e,ex.1⟩,λa e2=>?_⟩
   cases e2
   exact⟨o,e,ex.2.1⟩
  ·obtain⟨o,_,_,_,e,ex,_⟩:=I.hok p _ hk
   refine⟨⟨o,e,ex.1⟩,λa e2=>?_⟩
   cases e2
   exact⟨o,e,ex.2.1⟩
 |_=>exact False.elim ty
def tBM (K:PySem.W.Frag) (T:String) (r:V->List V->Hp->VK->Prop) (to:TE) (t:TA):TE:=λσ H Q=>to σ H λx H1=>tyV K T x H1/\t σ H1 λxs H2=>r x xs H2 Q
variable {o e:Expr}{es:List Expr}{to:TE}{t:TA}{name:Str}{apos cpos:Pos}{T id:String}{r:V->List V->Hp->VK->Prop}
theorem pe_bm (pa:PlainAttrs T) (slot:Slot T name id) (hty:typeOf (.builtin id)=pure (.type "method_descriptor")) (hm:MtR X id r) (ho:PE X o to) (ha:PA X (e::es) t)
  (hbase:attributeBase o name X.env (eval o X.env)=eval o X.env:=by rfl)
  (hfew:((backTo cpos (starEach (e::es) X.env)).all (λx=>!x.1)&&(backToKw cpos (keywordEach [] X.env)).all (λx=>x.1.isSome)
   && decide ((e::es).length+([]:List Keyword).length+(if ([]:List Keyword).isEmpty then 0 else 1)<30))=true:=by rfl)
  (hline:(apos.endLine==cpos.line)=true:=by rfl) (hs:starEach (e::es) X.env=(false,eval e X.env)::starEach es X.env:=by rfl) (hplain:(backTo cpos (starEach es X.env)).any (·.1)=false:=by rfl) :
  PE X (.Call (.Attribute o name apos) (e::es) [] cpos) (tBM X.K T r to t):=by
 intro pins s σ H Q I h
 refine wpAny_Call_method_late hbase hfew hline rfl (thn (ho pins s σ H _ I h) λv s1 ⟨x,H1,I1,r1,ty,q1⟩=>?_)
 obtain⟨h1,h2⟩:=tyV_is I1 r1 ty
 refine⟨T,id,pa,slot,hty,h1,h2,?_⟩
 have hA:=ha cpos pins s1 σ H1 _ I1 q1
 rw[hs] at hA ⊢
 refine Calls.callWith_builtin (by show (false||(backTo cpos (starEach es X.env)).any (·.1))=false;rw[hplain]<;>rfl) (Calls.evalArgs_plain ?_)
 exact thn hA λus s2 ⟨vs,H2,I2,r2,q2⟩=>hm pins s2 σ H2 x vs v us Q I2 r1 r2 q2
end
end L2
namespace L2
open PySem PySem.Spec PyProof.Rows
def MtM (X:Cx) (id:String) (r:V->List V->Hp->VK->Prop):Prop:=
 ∀(pins:List (Addr×Obj)) (s:Shared) (σ:St) (H:Hp) (x:V) (xs:List V) (v:Value) (us:List Value) (Q:VK),Inv X pins σ H s->RelV x v->Vals xs us->r x xs H Q ->
  wpAny (model X.prog X.w) X.A (call (.builtin id) (v::us)) (EP X pins σ Q) X.xe s
theorem Vals.one:∀{x:V}{us:List Value},Vals [x] us->∃u,us=[u]/\RelV x u
 |_,_,.cons r .nil=>⟨_,rfl,r⟩
section
variable {X:Cx}{pins:List (Addr×Obj)}{σ:St}{H:Hp}{s:Shared}{l b:Addr}{xs ys zs:List V}
theorem Inv.lset {its its':List Value}{n:Nat}{f:Array Value->Array Value}{t':Nat}(I:Inv X pins σ H s) (hH:H l=some (.lst xs))
  (e:s.heap.get? l=some { cls:=.type "list",data:=.seq its.toArray n }) (hf:f its.toArray=its'.toArray) (hv:Vals ys its') (hz:ys.length<=sizeLine) :
  Inv X pins σ (upd H l (.lst ys)) { s with heap:=s.heap.update l (Obj.mapSeq f),toks:=t' }:=by
 have q:=PySem.IsL.update e f
 rw[hf] at q
 refine I.write (x:=l) (e:=l) (by rw[hH];exact trivial) (.inl rfl) (λb' u hb hu=>(Heap.get?_update_other s.heap (Obj.mapSeq f) (Ne.symm hb)).trans hu) ⟨_,q⟩ ?_
 exact⟨hz,its',_,hv,q⟩
theorem Inv.fresh (I:Inv X pins σ H s):H s.heap.objs.size=none:=I.hok.fresh (Nat.le_refl _)
theorem Inv.lstM (I:Inv X pins σ H s) (hH:H l=some (.lst xs)):xs.length<=sizeLine/\∃(its:List Value) (n:Nat),Vals xs its/\xs.length=its.length/\s.heap.get? l=some { cls:=.type "list",data:=.seq its.toArray n }:=by
 obtain⟨z,its,n,r,e⟩:=I.hok l _ hH
 exact⟨z,its,n,r,r.length,e⟩
end
section
variable {X:Cx}
def rAppend:V->List V->Hp->VK->Prop:=λx vs H Q=>∃l xs y,x=.ref l/\vs=[y]/\H l=some (.lst xs)/\xs.length<sizeLine/\Q .non (upd H l (.lst (xs++[y])))
theorem mt_append:MtM X "list.append" rAppend:=by
 intro pins s σ H x vs v us Q I rx rv h
 obtain⟨l,xs,y,rfl,rfl,hH,hz,q⟩:=h
 cases rx
 obtain⟨u,rfl,ru⟩:=rv.one
 obtain⟨z,its,n,r,hl,e⟩:=I.lstM hH
 refine call_meets F.slot_list_append ⟨_,e,rfl⟩ F.entry_list_append (F.args_list_append_2 _ _) (PySem.list_append l its.toArray n u (by rw[List.size_toArray];lia)) ⟨e,?_⟩
 refine⟨.non,_,I.lset (its':=its++[u]) hH e (by simp) (r.append (.cons ru .nil)) ?_,rfl,q⟩
 rw[List.length_append,List.length_singleton]
 lia
end
section
variable {prog:Program}{w:World}{A:Around}{E:Value->Shared->Prop}{s:Shared}
end
section
variable {X:Cx}
end
end L2
namespace Att
open PySem PySem.W PySem.Calls PyProof.Rows
theorem ints_of_wellAll {P:Params}{h:Heap}:∀(ns:List Int) (vs:List Value),WellAll P h vs (ns.map WData.int)->IntsAre vs ns:=by
 intro ns
 induction ns with
 |nil=>
  intro vs w
  rw[List.map_nil] at w
  cases w
  exact .nil
 |cons n ns ih=>
  intro vs w
  rw[List.map_cons] at w
  cases w with
  |cons a b=>
   cases a
   exact .cons _ _ (ih _ b)
theorem script_of {l:OpenLaw}{n:Nat}(hn:l.most=some n){P:Params}{h:Heap}{args:List WData}{vals:List Value}
  (hpre:l.row.toRowW.claim.pre args=true) (hwl:WellAll P h vals args) :
  ∃a vs ns,vals=[Value.ref a]/\args=[WData.list (ns.map WData.int)]/\h.get? a=some { cls:=.type "list",data:=.seq vs.toArray }/\IntsAre vs ns/\ns.length<=n:=by
 have hsh:WShape.hasAll [] args [.list .int]=true:=(pre_splitW hpre).1
 have hc:l.pre.holds [] { args:=args }=true:=(pre_splitW hpre).2
 obtain⟨d,r,rfl,h1,h2⟩:=hasAllW_cons hsh
 obtain rfl:=hasAllW_nil h2
 obtain⟨xs,rfl,h3⟩:=hasW_list h1
 obtain⟨ns,rfl⟩:=items_int h3
 have hlen:ns.length<=n:=by
  unfold OpenLaw.pre at hc
  have h4:(WTm.not (.lt (.lit (.int (n:Int))) (.len (.arg 0)))).holds [] { args:=[.list (ns.map .int)] }=true:=by
   have h4:=(holds_andW hc).1
   rw[hn] at h4
   exact h4
  have h5:=condW_of h4 (w_not (w_lt w_lit (w_len_list (w_arg rfl))))
  rw[List.length_map] at h5
  refine Nat.le_of_not_lt λq=>?_
  have q':(n:Int)<((ns.length:Nat):Int):=by lia
  first
   |(rw[decide_eq_true q'] at h5;exact absurd h5 (by decide))
   |(simp at h5;lia)
 cases hwl with
 |cons w1 w2=>
  cases w2
  cases w1 with
  |list ho hall=>exact⟨_,_,ns,rfl,rfl,ho,ints_of_wellAll ns _ hall,hlen⟩
theorem post_true (l:OpenLaw) (args:List WData):l.row.toRowW.claim.post args (.bool true) args=true:=
 postW_of (r:=l.row.toRowW) (X:=(true==true))
  (show WShape.has [] (.bool true) .bool=true by first|rfl|decide|simp[WShape.has,WShape.arms,WShape.armsAll])
  (show (WTm.eq .res (.lit (.bool true))).value [] { args:=args,res:=some (.bool true),after:=args }=some (.bool (true==true)) from w_eq_bool (w_res rfl) w_lit) rfl
theorem attach_call {l:OpenLaw}{n:Nat}{q:Program}{loose:List Str}{XP:(Str->Option Value)->Heap->Prop}{YP:World->Heap->Prop}{d:DefRec}
  (hn:l.most=some n) (hdf:d.params.defaults=[])
  (call:∀(w:World) (s₀ s₁:Shared) (mg mb:Str->Option Value) (fa:Addr) (o:Obj) (pm cd doc:Value) (a:Addr) (vs:List Value) (ns:List Int),
   Ground q loose [] XP w s₀ mg mb s₁.heap->YP w s₁.heap ->
   s₁.heap.get? fa=some o->o.data=.func (docDef d.name d.params d.body d.scope pm cd doc)->s₁.heap.CodeRec cd d.name->mg d.name=some (.ref fa) ->
   s₁.heap.get? a=some { cls:=.type "list",data:=.seq vs.toArray }->IntsAre vs ns->ns.length<=n->s₁.gens=#[] ->
   codeAny (model l.prog w) callerA (.call (.ref fa) ⟨[.ref a],[]⟩) (λr s'=>r=.ok (.ret (.bool true))/\OldK s₁.heap s'.heap/\s'.os=s₁.os/\AllBare s'.gens) s₁) :
  WalkO q loose XP YP l.row.toRowW d [] (λf vs=>PySem.call f vs):=by
 intro w s₀ s₁ mg mb G Y fa o pm cd doc dV kV ho hd hcd hD hmg hg args vals as hpre hlay hrd hwl hlo
 obtain rfl:dV=.none:=Dflts.none hD hdf
 obtain rfl:kV=.none:=Dflts.noKw hD
 obtain⟨a,vs,ns,rfl,rfl,hobj,hints,hlen⟩:=script_of hn hpre hwl
 refine enter_call (codeAny_mono (call w s₀ s₁ mg mb fa o pm cd doc a vs ns G Y ho (fd_plain hd) hcd hmg hobj hints hlen hg) λr s' hq=>?_)
 obtain⟨rfl,h2,h3,h4⟩:=hq
 exact⟨.inl ⟨.bool true,.bool true,[],rfl,λ_=>rfl,.bool true,post_true l _,λ_=>⟨List.Pairwise.nil,λ_ hm=>(nomatch hm)⟩⟩,h2,h3,h4⟩
section
variable {prog:Program}{w:World}{A:Around}{E:Value->Shared->Prop}{s:Shared}{K:Frag}
end
end Att
namespace L2
open PySem PySem.Spec PyProof.Rows
theorem vals_ints:∀{vs:List Value}{ns:List Int},IntsAre vs ns->Vals (ns.map V.int) vs
 |_,_,.nil=>.nil
 |_,_,.cons n t h=>.cons ⟨t,rfl⟩ (vals_ints h)
def Only (H:Hp):Prop:=∀b,H b=none\/∃o xs,H b=some (.frz o (.lst xs))
theorem law_call {P:Program}{w:World}{K:PySem.W.Frag}{mg mb:Str->Option Value}{CX:CXT}{k:Nat}{fa a:Addr}{fd:FuncData}{x:Str}{sp:Sp}{s₁:Shared}{vs:List Value}{ns:List Int}
  (KX:K.In s₁.heap) (hns:s₁.heap.Ns mainGlobals mg) (hb:s₁.heap.Ns builtinsNs mb) (hbb:∀x:Str,x ≠ "__name__" -> mb x=bootBuiltins x) (hlim:s₁.heap.NoLimit) (hg:s₁.gens=#[])
  (ha:s₁.heap.get? a=some { cls:=.type "list",data:=.seq vs.toArray }) (hi:IntsAre vs ns) (hl:ns.length<=sizeLine) (hr:Room k callerA)
  (F:∀base:Heap,K.In base->base.Ns mainGlobals mg->FnOk P w K mg base CX k fa fd [x] sp) (hbind:∀(s:Shared) (u:Value),BindsTo s fd ⟨[u],[]⟩ [(x,u)])
  (hsp:∀H:Hp,Only H->SqL K H a (ns.map V.int)->sp [.ref a] H (λv _=>v=.bl true) λ_ _ _=>False)
  (hCX:∀H e s',CX [] H s₁ (λ_ _ _=>False) e s'->False) :
  codeAny (model P w) callerA (.call (.ref fa) ⟨[.ref a],[]⟩) (λr s'=>r=.ok (.ret (.bool true))/\OldK s₁.heap s'.heap/\s'.os=s₁.os/\AllBare s'.gens) s₁:=by
 have rv:=vals_ints hi
 have lenV:=hi.length
 have core:∀H:Hp,Only H->SqL K H a (ns.map V.int)->HOk P w H s₁.heap->(∀b,H b≠none->b=a)->(H a≠none->K.lookup a=none) ->
   codeAny (model P w) callerA (.call (.ref fa) ⟨[.ref a],[]⟩) (λr s'=>r=.ok (.ret (.bool true))/\OldK s₁.heap s'.heap/\s'.os=s₁.os/\AllBare s'.gens) s₁:=by
  intro H hO hS hok hA hK
  have base_of:∀{b:Addr}{o:Obj},s₁.heap.get? b=some o->H b=none->(hidT s₁.heap H).get? b=some o:=λe n=>hidT_get e n
  have noA:∀{b:Addr}{o:Obj}{es:Array DictEntry}{ep:Nat},s₁.heap.get? b=some o->o.data=.dict es ep->H b=none:=λ{b o es ep} e d=>by
   cases q:H b with
   |none=>rfl
   |some u=>
    have e':b=a:=hA b (by rw[q];simp)
    subst e'
    rw[ha] at e;cases e
    have d':Data.seq vs.toArray _=Data.dict es ep:=d
    cases d'
  have nsK:∀{b:Addr}{m:Str->Option Value},s₁.heap.Ns b m->(hidT s₁.heap H).Ns b m:=λ{b m} ⟨o,es,ep,e,d,r⟩=>⟨o,es,ep,base_of e (noA e d),d,r⟩
  have hKb:K.In (hidT s₁.heap H):=λb o e=>base_of (KX b o e) (by
   cases q:H b with
   |none=>rfl
   |some u=>
    have e':b=a:=hA b (by rw[q];simp)
    subst e'
    rw[hK (by rw[q];simp)] at e;cases e)
  have hM:Mod K mg (hidT s₁.heap H):=⟨hKb,nsK hns,⟨mb,nsK hb,hbb⟩,let ⟨mc,h1,h2⟩:=hlim;⟨mc,nsK h1,h2⟩⟩
  have e0:Env0 P w K mg (hidT s₁.heap H) callerA [] s₁ H:=⟨rfl,hM,λb o e=>of_hidT e,Nat.le_of_eq (hidT_size _ _),trivial,λb hb=>absurd (show b∈([]:List Addr) from hb) (by simp),hok,.of_eq hg⟩
  refine codeAny_mono ((F _ hKb (nsK hns)).run callerA [] s₁ H ⟨[.ref a],[]⟩ [.ref a] [.ref a] _ _ hr e0 (hbind s₁ (.ref a)) (.cons rfl .nil) (hsp H hO hS)) λr s' h=>?_
  cases r with
  |error e=>exact (hCX H e s' h).elim
  |ok fl=>
   cases fl with
   |next=>exact False.elim h
   |brk=>exact False.elim h
   |cont=>exact False.elim h
   |ret u=>
    obtain⟨v,H',os,bare,un,hok',r',q⟩:=h
    have q':v=.bl true:=q
    subst q'
    obtain rfl:u=Value.bool true:=r'
    refine⟨rfl,OldK.of_keep λb o e=>?_,os,bare⟩
    cases q:H b with
    |none=>exact un.keep b o e q (by intro z;exact absurd (show b∈([]:List Addr) from z) (by simp)) (by simp)
    |some u=>
     rcases hO b with z|⟨ob,xs,z⟩
     ·rw[q] at z;cases z
     ·have z2:=un.frzs b ob _ z
      obtain⟨e1,_⟩:=hok b _ z
      obtain⟨e2,_⟩:=hok' b _ z2
      rw[e] at e1;cases e1
      exact e2
 cases hk:K.lookup a with
 |some o=>
  have e:=KX a o hk
  rw[ha] at e
  cases e
  refine core (λ_=>none) (λ_=>.inl rfl) (.inr ⟨_,vs.toArray,_,hk,rfl,rfl,rfl,by rw[List.size_toArray,lenV];exact hl,by simpa using rv⟩) (λb u z=>by have z':(none:Option HO)=some u:=z;cases z') (λb z=>absurd rfl z) λz=>absurd rfl z
 |none=>
  refine core (λb=>if b=a then some (.frz { cls:=.type "list",data:=.seq vs.toArray } (.lst (ns.map V.int))) else none) (λb=>?_) (.inl (.inr ⟨{ cls:=.type "list",data:=.seq vs.toArray },if_pos rfl⟩)) (λb u z=>?_) (λb z=>?_) λ_=>hk
  ·by_cases hb:b=a
   ·exact .inr ⟨_,_,if_pos hb⟩
   ·exact .inl (if_neg hb)
  ·by_cases hb:b=a
   ·have z':=(if_pos hb).symm.trans z
    cases z'
    subst hb
    exact⟨ha,by rw[List.length_map];exact hl,vs,_,rv,ha⟩
   ·have z':=(if_neg hb).symm.trans z
    cases z'
  ·by_cases hb:b=a
   ·exact hb
   ·exact absurd (if_neg hb) z
end L2
namespace L2
open PySem PySem.Spec PyProof.Rows
theorem walk_of {l:PySem.W.OpenLaw}{n k:Nat}{q:Program}{loose:List Str}{XP:(Str->Option Value)->Heap->Prop}{YP:World->Heap->Prop}{d:DefRec}{K:Params->PySem.W.Frag}{CX:World->CXT}{sp:World->Sp}{x:Str}
  (hn:l.most=some n) (hn2:n<=sizeLine) (hdf:d.params.defaults=[]) (hr:Room k callerA)
  (hY:∀(w:World) (h:Heap),YP w h->(K w.params).In h)
  (F:∀(w:World) (mg:Str->Option Value) (fa:Addr) (h:Heap),(K w.params).In h->h.Ns mainGlobals mg->mg d.name=some (.ref fa) ->
   ∃fd:FuncData,(∀(s:Shared) (u:Value),BindsTo s fd ⟨[u],[]⟩ [(x,u)]) /\
    ∀base:Heap,(K w.params).In base->base.Ns mainGlobals mg->FnOk l.prog w (K w.params) mg base (CX w) k fa fd [x] (sp w))
  (hsp:∀(w:World) (H:Hp) (a:Addr) (ns:List Int),ns.length<=n->Only H->SqL (K w.params) H a (ns.map V.int)->sp w [.ref a] H (λv _=>v=.bl true) λ_ _ _=>False)
  (hCX:∀(w:World) (H:Hp) (s:Shared) (e:Value) (s':Shared),CX w [] H s (λ_ _ _=>False) e s'->False) :
  PySem.W.WalkO q loose XP YP l.row.toRowW d [] (λf vs=>PySem.call f vs):=by
 refine Att.attach_call hn hdf λw s₀ s₁ mg mb fa o pm cd doc a vs ns G Y ho hd hcd hmg hobj hints hlen hg=>?_
 have KX:=hY w _ Y
 obtain⟨fd,hb,hF⟩:=F w mg fa _ KX G.T.g hmg
 exact law_call KX G.T.g G.T.b G.T.builtins G.T.nolimit hg hobj hints (Nat.le_trans hlen hn2) hr hF hb (λH hO hS=>hsp w H a ns hlen hO hS) λH e s'=>hCX w H s₁ e s'
end L2
namespace L2
open PySem PySem.Spec PyProof.Rows
abbrev CX0:CXT:=λ_ _ _ _ _ _=>False
abbrev E0:XK:=λ_ _ _=>False
theorem pass0 {X:Cx}:Passes CX0 X E0:=λ_ _ _ _ _ _ _ h=>h.elim
structure Fun (K:PySem.W.Frag) (x qual:Str) (st:Stmt) (f:Addr) (fd:FuncData):Prop where
 ex:∃(oc:Value) (od:Option Addr) (kV doc pm:Value) (an:Option Addr) (cdv ct:Value) (osl:Array (Option Value)),
  fd=PySem.W.fnOf x qual (defArgs st) (defBody st) (defScope st) .none kV doc pm an cdv ct/\K.lookup f=some ⟨oc,od,.func fd,osl⟩/\PySem.W.codeIn K cdv qual=true
 kp:PySem.W.keepIn K (.ref f)=true
section
variable {P:Program}{w:World}{K:PySem.W.Frag}{mg:Str->Option Value}{base:Heap}
theorem Fun.ok {x qual:Str}{st:Stmt}{f:Addr}{fd:FuncData}{N ps:List Str}{k:Nat}{sp:Sp}(F:Fun K x qual st f fd) (S:FnScope N ps (defScope st)) (len:∀vs H Q E,sp vs H Q E->vs.length=ps.length)
  (hbody:∀(cdv:Value) (A:Around) (outer:List Env) (s:Shared) (H:Hp) (vs:List V) (Q:VK) (E:XK),Room k (A.deeper (envOfC qual (defScope st) s.heap.objs.size f cdv))->sp vs H Q E ->
   ∃t,PSs (cxOf CX0 P w K mg base N qual (defScope st) f cdv A outer s H E).nox (defBody st) t/\t { nx:=λ_ H'=>Q .non H',rt:=Q } (start N vs) H):FnOk P w K mg base CX0 (k+1) f fd ps sp:=by
 obtain⟨oc,od,kV,doc,pm,an,cdv,ct,osl,rfl,lk,hcd⟩:=F.ex
 refine fn_of lk hcd S len λA outer s H vs Q E hr hsp=>?_
 obtain⟨t,h,q⟩:=hbody cdv A outer s H vs Q E hr hsp
 exact⟨t,h.nox,q⟩
theorem Fun.binds {x qual:Str}{st:Stmt}{f:Addr}{fd:FuncData}{ps:List Str}(F:Fun K x qual st f fd)
  (h:∀(kV doc pm:Value) (an:Option Addr) (cdv ct:Value) (us:List Value),us.length=ps.length->bindArgs (PySem.W.fnOf x qual (defArgs st) (defBody st) (defScope st) .none kV doc pm an cdv ct) ⟨us,[]⟩=pure (ps.zip us)):Binds K fd ps []:=by
 obtain⟨oc,od,kV,doc,pm,an,cdv,ct,osl,rfl,lk,hcd⟩:=F.ex
 exact .all (h kV doc pm an cdv ct)
theorem fun_mk {x qual:Str}{st:Stmt}{f:Addr}{oc:Value}{od an:Option Addr}{osl:Array (Option Value)}{kV doc pm cdv ct:Value}(l:K.lookup f=some ⟨oc,od,.func (PySem.W.fnOf x qual (defArgs st) (defBody st) (defScope st) .none kV doc pm an cdv ct),osl⟩)
  (c:PySem.W.codeIn K cdv qual=true) (k:PySem.W.keepIn K (.ref f)=true):Fun K x qual st f (PySem.W.fnOf x qual (defArgs st) (defBody st) (defScope st) .none kV doc pm an cdv ct):=⟨⟨oc,od,kV,doc,pm,an,cdv,ct,osl,rfl,l,c⟩,k⟩
end
theorem small1000 {n:Nat}(h:n<=1000):n<sizeLine:=Nat.lt_of_le_of_lt h (by decide)
section
variable {X:Cx}
theorem pv (i:Nat){x:Str}{pos:Pos}(hN:X.N[i]?=some x:=by rfl) (hv:Vis X.env.scope x:=by first|exact Or.inl rfl|exact Or.inr (Or.inl rfl)|exact Or.inr (Or.inr rfl)) (hd:(x==("__debug__" : Str))=false:=by decide)
  (hcd:(x==("__classdict__" : Str))=false:=by decide):PE X (.Name x pos) (tVar i):=pe_var hN hv hd hcd
end
theorem iteF {A B:Prop}(h:B):if false=true then A else B:=by
 rw[if_neg Bool.false_ne_true]
 exact h
theorem iteT {A B:Prop}(h:A):if true=true then A else B:=by
 rw[if_pos rfl]
 exact h
theorem ite2 {c A B:Prop}[Decidable c] (h1:c->A) (h2:¬c->B):if c then A else B:=by
 by_cases h:c
 ·rw[if_pos h]
  exact h1 h
 ·rw[if_neg h]
  exact h2 h
theorem iteNS {c A B:Prop}[Decidable c] (hc:c) (h:B):if (!decide c)=true then A else B:=by
 rw[decide_eq_true hc]
 exact iteF h
def Same (H H':Hp):Prop:=∀b o,H b=some o->H' b=some o
theorem Same.refl (H:Hp):Same H H:=λ_ _ h=>h
theorem Same.trans {H H1 H2:Hp}(a:Same H H1) (b:Same H1 H2):Same H H2:=λc o h=>b c o (a c o h)
theorem Same.seq {K:PySem.W.Frag}{H H':Hp}{a:Addr}{xs:List V}(e:Same H H') (h:SqL K H a xs):SqL K H' a xs:=by
 rcases h with (h|⟨o,h⟩)|h
 ·exact .inl (.inl (e _ _ h))
 ·exact .inl (.inr ⟨o,e _ _ h⟩)
 ·exact .inr h
end L2
namespace L2
open PySem PySem.Spec PyProof.Rows
section
variable {X:Cx}
theorem closure_ok {env:Env}:∀{names:List (Str×NameKind)}{acc:List (Str×Addr)},
  (∀p∈names,p.2=.free->∃c,cellOf env p.1=pure c/\env.cells.lookup p.1=some c) ->
  (∀y c,acc.lookup y=some c->env.cells.lookup y=some c) ->
  ∃cl:List (Str×Addr),(forIn names acc λp cs=>(if p.2==.free then (do let c <- cellOf env p.1;pure (ForInStep.yield ((p.1,c)::cs))) else pure (ForInStep.yield cs):Sem (ForInStep (List (Str×Addr)))))=pure cl /\
   (∀y c,cl.lookup y=some c->env.cells.lookup y=some c)/\(∀y,(acc.lookup y).isSome=true->(cl.lookup y).isSome=true)/\∀p∈names,p.2=.free->(cl.lookup p.1).isSome=true
 |[],acc,_,ha=>⟨acc,by simp,ha,λ_ h=>h,λ_ h=>absurd h (by simp)⟩
 |(n,k)::r,acc,hn,ha=>by
  by_cases hk:k=.free
  ·subst hk
   obtain⟨c,e1,e2⟩:=hn (n,.free) List.mem_cons_self rfl
   obtain⟨cl,h1,h2,h3,h4⟩:=closure_ok (env:=env) (names:=r) (acc:=(n,c)::acc) (λp hp=>hn p (List.mem_cons_of_mem _ hp)) (λy d h=>by
    rw[List.lookup_cons] at h
    cases hy:y==n with
    |true=>rw[hy] at h;cases h;rw[eq_of_beq hy];exact e2
    |false=>rw[hy] at h;exact ha y d h)
   refine⟨cl,?_,h2,λy hy=>h3 y (by
    rw[List.lookup_cons]
    cases y==n with
    |true=>rfl
    |false=>exact hy),λp hp hf=>?_⟩
   ·rw[List.forIn_cons]
    have e1':cellOf env n=pure c:=e1
    simp only[beq_self_eq_true,if_true,e1',pure_bind]
    exact h1
   ·rcases List.mem_cons.mp hp with rfl|hp
    ·exact h3 _ (by simp[List.lookup_cons])
    ·exact h4 p hp hf
  ·obtain⟨cl,h1,h2,h3,h4⟩:=closure_ok (env:=env) (names:=r) (acc:=acc) (λp hp=>hn p (List.mem_cons_of_mem _ hp)) ha
   refine⟨cl,?_,h2,h3,λp hp hf=>?_⟩
   ·rw[List.forIn_cons]
    have:(k==NameKind.free)=false:=by simpa using hk
    simp only[this,Bool.false_eq_true,if_false,pure_bind]
    exact h1
   ·rcases List.mem_cons.mp hp with rfl|hp
    ·exact absurd hf hk
    ·exact h4 p hp hf
def compCx (X:Cx) (scope:Scope) (cl:List (Str×Addr)) (C:Addr) (x:Str) (fp:List Addr) (s₀:Shared) (H₀:Hp):Cx:=
 { X with N:=x::X.N,s₀:=s₀,H₀:=H₀,env:=compEnvC scope cl C X.env,outer:=X.stack,stack:=X.stack,ex:=fp,fn:=λ_=>false,pn:=[],xe:=λ_ _=>False }
def tComp (wi:TI) (te:TE):TE:=λσ H Q=>wi σ H λJ H1=>∀D,H1 D=none->∃W:Nat->Nat->List V->Hp->Prop,(∃m,W 0 m [] (upd H1 D (.lst []))) /\
 ∀i m xs H2,W i m xs H2->H2 D=some (.lst xs)/\xs.length<sizeLine/\((J.stop i H2/\Q (.ref D) H2)\/(J.go i H2/\∀y H3,J.yld i H2 y H3 ->
  te (some y::σ) H3 λv H4=>H4 D=some (.lst xs)/\∃m',m'<m/\W (i+1) m' (xs++[v]) (upd H4 D (.lst (xs++[v])))))
theorem compLoop_any {prog:Program}{w:World}{A:Around}{R:Result->Shared->Prop}{s:Shared}{elt target iter:Expr}{scope:Scope}{pos:Pos}{it acc:Value}{env:Env}(I:Nat->Shared->Prop)
  (turn:∀n s,I n s->wpAny (model prog w) A (pyNext it) (λr s₁=>match r with
   |none=>R (.ok .next) s₁
   |some v=>wpAny (model prog w) A (letOwnedTupleGo target it v) (λ_ s₁'=>wpAny (model prog w) A (assign target env v) (λ_ s₂=>wpAny (model prog w) A (eval elt env) (λx s₃=>
     wpAny (model prog w) A (call (.builtin "list.append") [acc,x]) (λ_ s₄=>∃m,m<n/\I m s₄) (λ_ _=>False) s₃)
     (λ_ _=>False) s₂) (λ_ _=>False) s₁') (λ_ _=>False) s₁) (λ_ _=>False) s)
  (n:Nat) (h:I n s) :
  codeAny (model prog w) A (.compLoop (.ListComp elt [⟨target,iter,[],0⟩] scope pos) 0 it acc env) R s:=by
 refine codeAny_loop rfl I (λn s hI=>?_) n h
 show wpAny _ A ((compTurn (.ListComp elt [⟨target,iter,[],0⟩] scope pos) 0 it acc env).onRaise (λx=>do noteFrame x env;theTreesLotGoes x)) _ _ s
 refine wpAny_noted ?_
 rw[compTurn_list1]
 refine wpAny_bind (wpAny_standAt (wpAny_bind (wpAny_mono (turn n s hI) (λr s₁ h₁=>?_) λ_ _ h'=>h'.elim)))
 cases r with
 |none=>exact wpAny_pure h₁
 |some v=>
  refine wpAny_bind (wpAny_mono h₁ (λ_ s₁' h₁'=>?_) λ_ _ h'=>h'.elim)
  exact wpAny_bind (wpAny_mono h₁' (λ_ s₂ h₂=>wpAny_bind (wpAny_bind (wpAny_mono h₂ (λx s₃ h₃=>wpAny_bind (wpAny_mono h₃
   (λ_ s₄ h₄=>wpAny_pure (wpAny_pure ⟨rfl,h₄⟩)) λ_ _ h'=>h'.elim)) λ_ _ h'=>h'.elim))) λ_ _ h'=>h'.elim)
theorem closureFor_some {scope:Scope}{env:Env}(hf:∀p∈scope.names,p.2=.free->∃c,env.cells.lookup p.1=some c) :
  ∃cl:List (Str×Addr),closureFor scope env=pure cl/\(∀y c,cl.lookup y=some c->env.cells.lookup y=some c)/\∀p∈scope.names,p.2=.free->(cl.lookup p.1).isSome=true:=by
 obtain⟨cl,h1,h2,_,h4⟩:=closure_ok (env:=env) (names:=scope.names) (acc:=[]) (λp hp hk=>by
  obtain⟨c,e⟩:=hf p hp hk
  refine⟨c,?_,e⟩
  unfold cellOf
  rw[e]) (λy c h=>by simp at h)
 refine⟨cl,?_,h2,h4⟩
 unfold closureFor
 refine Eq.trans ?_ h1
 simp only[bind_pure]
theorem relabel_vis {env:Env}:∀{names:List (Str×NameKind)}{y:Str}{k:NameKind},(names.map λ(n,k)=>if (k==NameKind.free&&env.scope.kind==.function&&env.kindOf n==some .cell) then (n,NameKind.cell) else (n,k)).lookup y=some k ->
  (∀p∈names,p.2≠.cell)->(k=.cell\/k=.free)->∃p∈names,p.1=y/\p.2=.free
 |[],_,_,h,_,_=>by simp at h
 |(n,k0)::r,y,k,h,hc,hk=>by
  rw[List.map_cons] at h
  by_cases hy:y=n
  ·subst hy
   by_cases h0:k0=.free
   ·exact⟨(y,k0),List.mem_cons_self,rfl,h0⟩
   ·exfalso
    have e:(k0==NameKind.free)=false:=by simpa using h0
    simp only[e,Bool.false_and,Bool.false_eq_true,if_false,List.lookup_cons,beq_self_eq_true,Option.some.injEq] at h
    rcases hk with z|z
    ·exact hc _ List.mem_cons_self (h.trans z)
    ·exact h0 (h.trans z)
  ·have hb:(y==n)=false:=by simpa using hy
   have h':(r.map λ(n,k)=>if (k==NameKind.free&&env.scope.kind==.function&&env.kindOf n==some .cell) then (n,NameKind.cell) else (n,k)).lookup y=some k:=by
    revert h
    dsimp only
    split<;>(intro h;simpa only [List.lookup_cons,hb] using h)
   obtain⟨p,hp,e⟩:=relabel_vis h' (λp hp=>hc p (List.mem_cons_of_mem _ hp)) hk
   exact⟨p,List.mem_cons_of_mem _ hp,e⟩
theorem relabel_local {env:Env}:∀{names:List (Str×NameKind)}{y:Str},(names.map λ(n,k)=>if (k==NameKind.free&&env.scope.kind==.function&&env.kindOf n==some .cell) then (n,NameKind.cell) else (n,k)).lookup y=some .local ->
  names.lookup y=some .local
 |[],_,h=>by simp at h
 |(n,k0)::r,y,h=>by
  rw[List.map_cons] at h
  by_cases hy:y=n
  ·subst hy
   rw[List.lookup_cons,beq_self_eq_true]
   revert h
   dsimp only
   split
   ·intro h;simp[List.lookup_cons] at h
   ·intro h;simpa [List.lookup_cons] using h
  ·have hb:(y==n)=false:=by simpa using hy
   rw[List.lookup_cons,hb]
   refine relabel_local (env:=env) ?_
   revert h
   dsimp only
   split<;>(intro h;simpa only [List.lookup_cons,hb] using h)
end
end L2
namespace L2
open PySem PySem.Spec PyProof.Rows
section
variable {X:Cx}
theorem comp_start {pins:List (Addr×Obj)}{σ:St}{H:Hp}{s:Shared}{h':Heap}{tk:Nat}{scope:Scope}{cl:List (Str×Addr)}{C:Addr}{x:Str}{fp:List Addr}{m:Str->Option Value}
  (I:Inv X pins σ H s) (hC:C=s.heap.objs.size) (keep:∀b o,s.heap.get? b=some o->h'.get? b=some o) (ns:h'.Ns C m) (hfp:∀b∈fp,FpOk X pins H b) (hfs:∀b∈fp,b<s.heap.objs.size)
  (hkind:scope.kind=.function) (hcell:∀y∈scope.names,y.2≠.cell) (hloc:∀y∈X.N,scope.names.lookup y≠some .local)
  (hcl1:∀y c,cl.lookup y=some c->X.env.cells.lookup y=some c) (hcl2:∀p∈scope.names,p.2=.free->(cl.lookup p.1).isSome=true)
  (hfr:∀p∈scope.names,p.2=.free->Vis X.env.scope p.1/\X.env.scope.names.lookup p.1≠some .local) :
  Inv (compCx X scope cl C x fp s H) [] (none::σ) H { s with heap:=h',toks:=tk }:=by
 have cells:∀y c,cl.lookup y=some c->∃v,s.heap.IsCell c v:=λy c e=>I.cell y c (hcl1 y c e)
 have celllt:∀y c,cl.lookup y=some c->c<s.heap.objs.size:=λy c e=>by
  obtain⟨v,q⟩:=cells y c e
  exact q.lt
 have cellk:∀c v,s.heap.IsCell c v->h'.IsCell c v:=λc v ⟨o,e,d⟩=>⟨o,keep c o e,d⟩
 have stkl:∀b∈frs X.stack,∃o,s.heap.get? b=some o:=λb hb=>by
  rcases List.mem_cons.mp (I.stkSub b hb) with e|hb
  ·obtain⟨_,⟨o,_,_,ho,_⟩,_⟩:=I.loc
   exact⟨o,by rw[e];exact ho⟩
  ·obtain⟨_,o,ho,_⟩:=I.funs.mem hb
   exact⟨o,ho⟩
 refine⟨⟨I.ok.mod,hkind,I.ok.glob,I.ok.blt,Nat.le_of_eq hC.symm,λy z c h1 h2=>I.ok.inj y z c (hcl1 y c h1) (hcl1 z c h2),λy hy=>?_,λy c h _=>Bool.noConfusion h,I.ok.hd,I.ok.frames,.inl rfl,λb hb=>⟨?_,λy c e z=>?_⟩,I.bs,
  Nat.le_trans I.ok.bsz I.sz,λb o e hb=>?_,λb hb hf=>?_,I.stack,I.stkFree⟩,rfl,I.bare,Un.kept keep,⟨m,ns,λi y v h1 h2 h3=>?_⟩,λy c e=>?_,?_,λy c e=>?_,λp hp=>absurd hp (by simp[compCx]),I.hok.kept keep,?_⟩
 ·
  have hy:(relabel scope X.env).names.lookup y=some .cell\/(relabel scope X.env).names.lookup y=some .free:=hy
  obtain⟨p,hp,e1,e2⟩:∃p∈scope.names,p.1=y/\p.2=.free:=by
   rcases hy with hy|hy
   ·exact relabel_vis hy hcell (.inl rfl)
   ·exact relabel_vis hy hcell (.inr rfl)
  obtain⟨c,e⟩:=Option.isSome_iff_exists.mp (hcl2 p hp e2)
  exact⟨c,by rw[<- e1];exact e⟩
 ·show b≠C
  rw[hC];exact Nat.ne_of_lt (hfs b hb)
 ·exact (hfp b hb).2.2.2.2.1 y c (hcl1 y c e) z
 ·rcases (hfp b hb).2.2.2.1 with z|z
  ·exact I.ok.noex b o e z
  ·exact absurd (Nat.lt_of_lt_of_le (Heap.lt_size (I.ok.bs b o e).1) z) (Nat.lt_irrefl _)
 ·rcases List.mem_cons.mp (I.stkSub b hf) with z|z
  ·exact (hfp b hb).2.1 z
  ·exact (hfp b hb).2.2.1 z
 ·
  cases i with
  |zero=>simp at h2
  |succ j=>
   have h1:X.N[j]?=some y:=by simpa [compCx] using h1
   have h2:σ[j]?=some (some v):=by simpa using h2
   have h3:(relabel scope X.env).names.lookup y=some .local\/(relabel scope X.env).names.lookup y=some .cell\/(relabel scope X.env).names.lookup y=some .free:=h3
   rcases h3 with h3|h3
   ·exact absurd (relabel_local h3) (hloc y (List.mem_of_getElem? h1))
   ·obtain⟨p,hp,e1,e2⟩:∃p∈scope.names,p.1=y/\p.2=.free:=by
     rcases h3 with h3|h3
     ·exact relabel_vis h3 hcell (.inl rfl)
     ·exact relabel_vis h3 hcell (.inr rfl)
    obtain⟨hv,hnl⟩:=hfr p hp e2
    rw[e1] at hv hnl
    obtain⟨m0,_,hl0⟩:=I.loc
    obtain⟨u,ru,lk⟩:=hl0 j y v h1 h2 hv
    rcases lk with ⟨lk,_⟩|⟨_,c,hc,hcv⟩
    ·exact absurd lk hnl
    ·obtain⟨c',e'⟩:=Option.isSome_iff_exists.mp (hcl2 p hp e2)
     rw[e1] at e'
     have:=hcl1 y c' e'
     rw[hc] at this
     cases this
     refine⟨u,ru,.inr ⟨h3,c,e',cellk c _ hcv⟩⟩
 ·obtain⟨v,q⟩:=cells y c e
  exact⟨v,cellk c v q⟩
 ·show H C=none
  exact I.hok.fresh (Nat.le_of_eq hC.symm)
 ·exact I.freeC y c (hcl1 y c e)
 ·show (none::σ).length=(x::X.N).length
  simp[I.len]
theorem comp_end {pins:List (Addr×Obj)}{σ σ':St}{H H':Hp}{s s':Shared}{h':Heap}{scope:Scope}{cl:List (Str×Addr)}{C:Addr}{x:Str}{fp:List Addr}
  (I:Inv X pins σ H s) (hC:C=s.heap.objs.size) (hfp:∀b∈fp,FpOk X pins H b) (J:Inv (compCx X scope cl C x fp s H) [] σ' H' s') (sb:Heap.SameBut C s'.heap h'):Inv X pins σ H' { s' with heap:=h' }:=by
 have ne:∀b o,s.heap.get? b=some o->b≠C:=λb o e=>by rw[hC];exact Nat.ne_of_lt (Heap.lt_size e)
 have B:Un (frs X.stack) fp H H' s.heap s'.heap:=J.base
 have U:Un (frs X.stack) fp H H' s.heap h':=
  ⟨λb o e n hb hx=>(sb.2 b (ne b o e)).trans (B.keep b o e n hb hx),λb o e n hb hx=>by
   obtain⟨sl,q⟩:=B.slot b o e n hb hx
   exact⟨sl,(sb.2 b (ne b o e)).trans q⟩,B.free,λb o e hx=>by
   obtain⟨o',q⟩:=B.there b o e hx
   exact⟨o',(sb.2 b (ne b o e)).trans q⟩,B.tups,B.frzs,B.tbls⟩
 have hf:H' C=none:=J.free
 have K:HOk X.prog X.w H' h':=λb o e=>(J.hok b o e).stay (λc u hc q=>(sb.2 c (by
  rintro rfl
  rcases hc with z|z
  ·rw[z,e] at hf;cases hf
  ·rw[hf] at z;cases z)).trans q) (λ_ q=>q) λ_ _ q=>q
 refine I.call' (s':={ s' with heap:=h' }) (ch:=fp) J.os U K J.bare λb hb=>?_
 obtain⟨_,h2,_,h4,h5,h6⟩:=hfp b hb
 exact⟨h4,h2,h5,h6⟩
theorem pe_comp {x:Str}{px pos:Pos}{elt iter:Expr}{scope:Scope}{wi:TI}{te:TE}(hc:X.calm=true) (hN:X.N.Nodup) (hi:PI X (.Name x px) iter wi) (he:∀cl C fp s₀ H₀,PE (compCx X scope cl C x fp s₀ H₀) elt te)
  (hkind:scope.kind=.function) (hcell:∀y∈scope.names,y.2≠.cell) (hnames:∀y∈scope.names,y.2=.local->scope.names.lookup y.1=some .local) (hx:scope.names.lookup x=some .local)
  (hloc:∀y∈X.N,scope.names.lookup y≠some .local) (hfr:∀p∈scope.names,p.2=.free->Vis X.env.scope p.1/\X.env.scope.names.lookup p.1≠some .local)
  (hs:∀x,foldedSetIterable iter X.env x=pure x:=by intro _;rfl):PE X (.ListComp elt [⟨.Name x px,iter,[],0⟩] scope pos) (tComp wi te):=by
 intro pins s σ H Q I h
 rw[eval_ListComp]
 obtain⟨cl,hclos,hcl1,hcl2⟩:=closureFor_some (scope:=scope) (env:=X.env) (λp hp hk=>by
  obtain⟨hv,hn⟩:=hfr p hp hk
  refine I.ok.has p.1 ?_
  rcases hv with z|z
  ·exact absurd z hn
  ·exact z)
 refine wpAny_comprehension_free (use:=none) rfl hs hclos hkind hnames (thn (hi pins s σ H _ I h) λv s1 h1=>thn h1 λitv s2 h2=>?_)
 obtain⟨it,fp,tn,J,H2,rfl,I2,T,st2,f2,q⟩:=h2
 have hD:H2 s2.heap.objs.size=none:=I2.hok.fresh (Nat.le_refl _)
 obtain⟨W,⟨m0,w0⟩,turn⟩:=q _ hD
 refine wpAny_newObj_type (wpAny_newFunctionEnv hcell (by intro y hy;simp at hy) (λh₁ hns₁ hsb₁=>?_) hkind)
 dsimp only at hns₁ hsb₁ ⊢
 have I3:Inv X pins σ (upd H2 s2.heap.objs.size (.lst [])) { s2 with heap:=s2.heap.push { cls:=.type "list",dict:=none,data:=.seq ([]:List Value).toArray } }:=
  I2.laid (t':=s2.toks) (λb u e=>Heap.get?_push_of_some _ e) (Nat.le_refl _) ⟨Nat.zero_le _,[],0,.nil,Heap.get?_push_size _ rfl⟩
 have fpn:∀b∈fp,b≠s2.heap.objs.size:=λb hb=>by
  obtain⟨o,e,_⟩:=T.obj 0 s2.heap st2 b hb
  exact Nat.ne_of_lt (Heap.lt_size e)
 have fplt:∀b∈fp,b<(s2.heap.push { cls:=.type "list",dict:=none,data:=.seq ([]:List Value).toArray }).objs.size:=λb hb=>by
  obtain⟨o,e,_⟩:=T.obj 0 s2.heap st2 b hb
  rw[Heap.size_push];exact Nat.lt_succ_of_lt (Heap.lt_size e)
 have f3:∀b∈fp,FpOk X pins (upd H2 s2.heap.objs.size (.lst [])) b:=λb hb=>⟨by rw[upd_ne (fpn b hb)];exact (f2 b hb).1,(f2 b hb).2⟩
 generalize hg2:s2.heap.push { cls:=.type "list",dict:=none,data:=.seq ([]:List Value).toArray }=g2 at hns₁ hsb₁ I3 fplt ⊢
 have keep:∀b o,g2.get? b=some o->h₁.get? b=some o:=λb o e=>(hsb₁.2 b (Nat.ne_of_lt (Heap.lt_size e))).trans (Heap.get?_push_of_some _ e)
 have J0:=comp_start (x:=x) (tk:=s2.toks+([]:List (Str×Value)).length) I3 (C:=g2.objs.size) rfl keep hns₁ f3 fplt hkind hcell hloc hcl1 hcl2 hfr
 generalize hY:compCx X scope cl g2.objs.size x fp { s2 with heap:=g2 } (upd H2 s2.heap.objs.size (.lst []))=Y at J0
 have eY:PE Y elt te:=by rw[<- hY];exact he _ _ _ _ _
 have eP:Y.prog=X.prog:=by rw[<- hY];rfl
 have eW:Y.w=X.w:=by rw[<- hY];rfl
 have eK:Y.K=X.K:=by rw[<- hY];rfl
 have eA:Y.A=X.A:=by rw[<- hY];rfl
 have eC:Y.calm=true:=by rw[<- hY];exact hc
 have eE:Y.env=compEnvC scope cl g2.objs.size X.env:=by rw[<- hY];rfl
 have eX:Y.xe=λ_ _=>False:=by rw[<- hY];rfl
 have eN:Y.N=x::X.N:=by rw[<- hY];rfl
 have eEx:Y.ex=fp:=by rw[<- hY];rfl
 have eFs:Y.fs=frs X.stack:=by rw[<- hY];rfl
 have ePn:Y.pn=[]:=by rw[<- hY];rfl
 have ndY:Y.N.Nodup:=by
  rw[eN]
  exact List.nodup_cons.mpr ⟨λz=>hloc x z hx,hN⟩
 have locY:Y.env.scope.names.lookup x=some .local:=by rw[eE];exact lookup_relabel_local hx
 have fpY:∀{H':Hp},(∀b∈fp,H' b=none)->∀b∈fp,FpOk Y [] H' b:=λhn b hb=>by
  have g:=f3 b hb
  refine⟨hn b hb,?_,?_,.inl (by rw[eEx];exact hb),?_,λp hp=>absurd hp (by rw[ePn];simp)⟩
  ·rw[eE];exact Nat.ne_of_lt (fplt b hb)
  ·rw[eFs]
   intro z
   rcases List.mem_cons.mp (I3.stkSub b z) with z|z
   ·exact g.2.1 z
   ·exact g.2.2.1 z
  ·rw[eE]
   exact λy c e=>g.2.2.2.2.1 y c (hcl1 y c e)
 have loop:∀s₃:Shared,s₃={ s2 with heap:=h₁,toks:=s2.toks+([]:List (Str×Value)).length } ->
   codeAny (model X.prog X.w) X.A (.compLoop (.ListComp elt [⟨.Name x px,iter,[],0⟩] scope pos) 0 (.ref it) (.ref s2.heap.objs.size) (compEnvC scope cl g2.objs.size X.env))
    (compPost (model X.prog X.w) X.A X.xe none (EP X pins σ Q) (.ref s2.heap.objs.size) g2.objs.size) s₃:=by
  rintro s₃ rfl
  refine compLoop_any (λn s'=>∃i xs H' o,Inv Y [] (o::σ) H' s'/\tn i s'.heap/\(∀b∈fp,H' b=none)/\W i n xs H') ?_ m0
   ⟨0,[],_,none,J0,T.keep 0 _ _ st2 (λb hb o e=>keep b o (by rw[<- hg2];exact Heap.get?_push_of_some _ e)),λb hb=>(f3 b hb).1,w0⟩
  rintro n s3 ⟨i,xs,H3,o,I4,st3,fr3,w3⟩
  obtain⟨hDx,hlx,alt⟩:=turn i n xs H3 w3
  rcases alt with ⟨stop,qn⟩|⟨go,step⟩
  ·have D1:=T.done Y eP eW eK eC i [] s3 _ H3 (λ_ _=>False) I4 (fpY fr3) st3 stop
   rw[eA] at D1
   refine thn D1 λr s4 ⟨hr,I5⟩=>?_
   subst hr
   obtain⟨m4,hns4,_⟩:=id I5.loc
   rw[eE] at hns4
   refine⟨m4,hns4,λh' sb=>⟨.ref _,H3,?_,rfl,qn⟩⟩
   rw[<- hY] at I5
   exact comp_end I3 rfl f3 I5 sb
  ·have G1:=T.item Y eP eW eK eC i [] s3 _ H3 (λ_ _=>False) I4 (fpY fr3) st3 go
   rw[eA] at G1
   refine thn G1 λr s4 ⟨u,hr,h4⟩=>?_
   subst hr
   refine thn h4 λ_ s5 ⟨y,H5,I5,r5,y5,st5,fr5⟩=>?_
   have I5':=I5.pinned (fpY fr5) (T.obj _ _ st5)
   have S1:=(pg_name (X:=Y) (pos:=px) (i:=0) ndY (by rw[eN];rfl) (.inl locY) (.inr locY)) _ s5 _ H5 y u (λσ6 H6=>σ6=some y::σ/\H6=H5) I5' r5 ⟨rfl,rfl⟩
   rw[eP,eW,eA,eE,eX] at S1
   refine thn S1 λ_ s6 ⟨σ6,H6,I6,e6,e6'⟩=>?_
   subst e6 e6'
   have S2:=eY _ s6 _ _ _ I6 (step y _ y5)
   rw[eP,eW,eA,eE,eX] at S2
   refine thn S2 λxv s7 ⟨v7,H7,I7,r7,hD7,m',hm',w7⟩=>?_
   have S3:=mt_append (X:=Y) _ s7 _ H7 (.ref s2.heap.objs.size) [v7] (.ref s2.heap.objs.size) [xv] (λ_ H8=>H8=upd H7 s2.heap.objs.size (.lst (xs++[v7]))) I7 rfl (.cons r7 .nil) ⟨_,xs,v7,rfl,rfl,hD7,hlx,rfl⟩
   rw[eP,eW,eA,eX] at S3
   refine thn S3 λ_ s8 ⟨v8,H8,I8,_,e8⟩=>?_
   subst e8
   have pin:∀b∈fp,∀ob,s5.heap.get? b=some ob->s8.heap.get? b=some ob/\(upd H7 s2.heap.objs.size (.lst (xs++[v7]))) b=none:=λb hb ob e=>by
    have z:=I8.pin (b,ob) (List.mem_append_right _ (List.mem_append_right _ (mem_pinsAt hb e)))
    exact⟨z.1,z.2.1⟩
   refine⟨m',hm',i+1,xs++[v7],_,some y,I8.unpinned,T.keep _ _ _ st5 (λb hb ob e=>(pin b hb ob e).1),λb hb=>?_,w7⟩
   obtain⟨ob,e,_⟩:=T.obj _ _ st5 b hb
   exact (pin b hb ob e).2
 exact codeAny_compStart_list (loop _ rfl) (T.self _ 0 _ _ _ (T.keep 0 _ _ st2 (λb hb o e=>keep b o (by rw[<- hg2];exact Heap.get?_push_of_some _ e))) (loop _ rfl))
end
end L2
namespace L2
open PySem PySem.Spec PyProof.Rows
section
variable {κ:Type}[DecidableEq κ]
def valV (kvs:List (κ×V)) (k:κ):Option V:=(kvs.find? λkv=>decide (kv.1=k)).map (·.2)
def putK (kvs:List (κ×V)) (k:κ) (v:V):List (κ×V):=
 if (kvs.any λkv=>decide (kv.1=k))=true then kvs.map (λkv=>if kv.1=k then (kv.1,v) else kv) else kvs++[(k,v)]
theorem valV_pos {p:κ×V}{r:List (κ×V)}{k:κ}(e:p.1=k):valV (p::r) k=some p.2:=by simp[valV,List.find?_cons,e]
theorem valV_neg {p:κ×V}{r:List (κ×V)}{k:κ}(e:¬p.1=k):valV (p::r) k=valV r k:=by simp[valV,List.find?_cons,e]
theorem valV_any (k:κ):∀kvs:List (κ×V),(kvs.any λkv=>decide (kv.1=k))=(valV kvs k).isSome
 |[]=>rfl
 |p::r=>by
  rw[List.any_cons]
  by_cases e:p.1=k
  ·simp only[valV_pos e,decide_eq_true e,Bool.true_or,Option.isSome_some]
  ·rw[valV_neg e,decide_eq_false e,Bool.false_or];exact valV_any k r
theorem length_putK (kvs:List (κ×V)) (k:κ) (v:V):(putK kvs k v).length<=kvs.length+1:=by
 unfold putK
 split
 ·rw[List.length_map];lia
 ·rw[List.length_append,List.length_cons,List.length_nil];lia
theorem RelO.isSome_eq {o:Option V}{u:Option Value}(r:RelO o u):o.isSome=u.isSome:=by
 cases o with
 |none=>cases u with
  |none=>rfl
  |some _=>exact (show False from r).elim
 |some _=>cases u with
  |none=>exact (show False from r).elim
  |some _=>rfl
theorem KV.val {kvs:List (κ×V)}{vs:List (κ×Value)}(r:KV kvs vs) (k:κ):RelO (valV kvs k) (valueAt vs k):=by
 unfold KV at r
 induction r with
 |nil=>exact True.intro
 |@cons p q ps qs h t ih=>
  obtain⟨h1,h2⟩:=h
  by_cases e:p.1=k
  ·have e':q.1=k:=h1.symm.trans e
   have b:valueAt (q::qs) k=some q.2:=by simp[valueAt,List.find?_cons,e']
   rw[valV_pos e,b];exact h2
  ·have e':¬q.1=k:=λz=>e (h1.trans z)
   have b:valueAt (q::qs) k=valueAt qs k:=by simp[valueAt,List.find?_cons,e']
   rw[valV_neg e,b];exact ih
theorem KV.any {kvs:List (κ×V)}{vs:List (κ×Value)}(r:KV kvs vs) (k:κ):(kvs.any λkv=>decide (kv.1=k))=vs.any λkv=>decide (kv.1=k):=by
 unfold KV at r
 induction r with
 |nil=>rfl
 |cons h t ih=>rw[List.any_cons,List.any_cons,ih,h.1]
theorem KV.repl {kvs:List (κ×V)}{vs:List (κ×Value)}(r:KV kvs vs) (k:κ){y:V}{u:Value}(ry:RelV y u) :
  KV (kvs.map λkv=>if kv.1=k then (kv.1,y) else kv) (vs.map λkv=>if kv.1=k then (kv.1,u) else kv):=by
 unfold KV at r ⊢
 induction r with
 |nil=>exact .nil
 |@cons p q ps qs h t ih=>
  rw[List.map_cons,List.map_cons]
  refine .cons ?_ ih
  obtain⟨h1,h2⟩:=h
  by_cases e:p.1=k
  ·rw[if_pos e,if_pos (h1.symm.trans e)];exact⟨h1,ry⟩
  ·rw[if_neg e,if_neg (λz=>e (h1.trans z))];exact⟨h1,h2⟩
theorem KV.put {kvs:List (κ×V)}{vs:List (κ×Value)}(r:KV kvs vs) (k:κ){y:V}{u:Value}(ry:RelV y u):KV (putK kvs k y) (stored vs k u):=by
 unfold putK stored
 rw[r.any k]
 by_cases e:(vs.any λkv=>decide (kv.1=k))=true
 ·rw[if_pos e,if_pos e];exact r.repl k ry
 ·rw[if_neg e,if_neg e];exact Paired.snoc r ⟨rfl,ry⟩
theorem KV.keys {kvs:List (κ×V)}{vs:List (κ×Value)}(r:KV kvs vs):kvs.map (·.1)=vs.map (·.1):=by
 unfold KV at r
 induction r with
 |nil=>rfl
 |cons h t ih=>rw[List.map_cons,List.map_cons,ih,h.1]
theorem KV.length {kvs:List (κ×V)}{vs:List (κ×Value)}(r:KV kvs vs):kvs.length=vs.length:=Paired.length r
end
theorem kV_is {P:Program}{w:World}{k:Key}{u:Value}(r:RelV (kV k) u):(mixKind P w).is k u=true:=by
 cases k with
 |inl i=>obtain⟨t,e⟩:=(show ∃t,u=Value.int i t from r);subst e;exact mixKind_int P w i t
 |inr x=>obtain⟨t,e⟩:=(show ∃t,u=Value.str x t from r);subst e;exact mixKind_str P w x t
theorem items_are {P:Program}{w:World}:∀{ks:List Key}{us:List Value},Vals (ks.map kV) us->ItemsAre (mixKind P w) ks us
 |[],_,r=>by rw[List.map_nil] at r;cases r;exact .nil
 |k::ks,_,r=>by
  rw[List.map_cons] at r
  cases r with
  |cons h t=>exact .cons (kV_is h) (items_are t)
abbrev KT (H:Hp):List (List Key×V)->List (List Key×Addr×Value)->Prop:=Paired λp q=>p.1=q.1/\H q.2.1=some (.tup (p.1.map kV))/\RelV p.2 q.2.2
theorem KT.val {H:Hp}{kvs:List (List Key×V)}{xs:List (List Key×Addr×Value)}(r:KT H kvs xs) (k:List Key):RelO (valV kvs k) ((atKey xs k).map (·.2)):=by
 induction r with
 |nil=>exact True.intro
 |@cons p q ps qs h t ih=>
  obtain⟨h1,_,h2⟩:=h
  by_cases e:p.1=k
  ·have e':q.1=k:=h1.symm.trans e
   have b:atKey (q::qs) k=some q.2:=by simp[atKey,List.find?_cons,e']
   rw[valV_pos e,b];exact h2
  ·have e':¬q.1=k:=λz=>e (h1.trans z)
   have b:atKey (q::qs) k=atKey qs k:=by simp[atKey,List.find?_cons,e']
   rw[valV_neg e,b];exact ih
theorem KT.repl {H:Hp}{kvs:List (List Key×V)}{xs:List (List Key×Addr×Value)}(r:KT H kvs xs) (k:List Key){y:V}{u:Value}(ry:RelV y u) :
  KT H (kvs.map λkv=>if kv.1=k then (kv.1,y) else kv) (xs.map (putAt k u)):=by
 induction r with
 |nil=>exact .nil
 |@cons p q ps qs h t ih=>
  rw[List.map_cons,List.map_cons]
  refine .cons ?_ ih
  obtain⟨h1,h2,h3⟩:=h
  unfold putAt
  by_cases e:p.1=k
  ·rw[if_pos e,if_pos (h1.symm.trans e)];exact⟨h1,h2,ry⟩
  ·rw[if_neg e,if_neg (λz=>e (h1.trans z))];exact⟨h1,h2,h3⟩
theorem KT.put {H:Hp}{kvs:List (List Key×V)}{xs:List (List Key×Addr×Value)}(r:KT H kvs xs) (k:List Key){b:Addr}{y:V}{u:Value}(hb:H b=some (.tup (k.map kV))) (ry:RelV y u) :
  KT H (putK kvs k y) (storedH xs k b u):=by
 have e:(kvs.any λkv=>decide (kv.1=k))=(atKey xs k).isSome:=by
  rw[valV_any,(r.val k).isSome_eq,Option.isSome_map]
 unfold putK storedH
 rw[e]
 by_cases q:(atKey xs k).isSome=true
 ·rw[if_pos q,if_pos q];exact r.repl k ry
 ·rw[if_neg q,if_neg q];exact Paired.snoc r ⟨rfl,hb,ry⟩
theorem KT.keeps {H H':Hp}{kvs:List (List Key×V)}{xs:List (List Key×Addr×Value)}(r:KT H kvs xs) (ht:∀b ys,H b=some (.tup ys)->H' b=some (.tup ys)):KT H' kvs xs:=
 Paired.mapP r λ_ _ z=>⟨z.1,ht _ _ z.2.1,z.2.2⟩
section
variable {P:Program}{w:World}{H:Hp}{h:Heap}{a:Addr}
theorem rd_of {u:HO}(ok:HOk P w H h) (e:Rd H a u):ObjOk P w H h a u:=e.ok ok
theorem dk_rd {kvs:List (Key×V)}(ok:HOk P w H h) (e:Rd H a (.dK kvs)):kvs.length<=sizeLine/\(a==sysModules)=false/\∃vs,KV kvs vs/\h.DictOf (mixKind P w) a vs:=
 show ObjOk P w H h a (.dK kvs) from rd_of ok e
theorem dk_of {kvs:List (Key×V)}(ok:HOk P w H h) (e:H a=some (.dK kvs)):kvs.length<=sizeLine/\(a==sysModules)=false/\∃vs,KV kvs vs/\h.DictOf (mixKind P w) a vs:=dk_rd ok (.inl e)
theorem key_of {ks:List Key}(ok:HOk P w H h) (e:H a=some (.tup (ks.map kV))):(tupleKind (mixKind P w)).is h ks a:=by
 obtain⟨_,its,r,o,h1,h2,n,h3⟩:=(show ObjOk P w H h a (.tup (ks.map kV)) from ok a _ e)
 exact⟨o,its.toArray,n,h1,h2,h3,by simpa using items_are r⟩
theorem dt_rd {kvs:List (List Key×V)}(ok:HOk P w H h) (e:Rd H a (.dT kvs)):kvs.length<=sizeLine/\(a==sysModules)=false /\
  ∃xs,KT H kvs xs/\h.DictOfH (tupleKind (mixKind P w)) a xs:=by
 obtain⟨z,y,xs,r,o,es,ep,h1,h2,h3,h4,h5⟩:=(show ObjOk P w H h a (.dT kvs) from rd_of ok e)
 refine⟨z,y,xs,r,o,es,ep,h1,h2,h3,h4,λx hx=>?_,h5⟩
 have all:∀{l:List (List Key×V)}{m:List (List Key×Addr×Value)},KT H l m->∀x∈m,(tupleKind (mixKind P w)).is h x.1 x.2.1:=by
  intro l m q
  induction q with
  |nil=>intro x hx;exact nomatch hx
  |@cons p q ps qs hq t ih=>
   intro x hx
   rcases List.mem_cons.mp hx with e|hx
   ·subst e
    exact key_of ok (by rw[<- hq.1];exact hq.2.1)
   ·exact ih x hx
 exact all r x hx
theorem dt_of {kvs:List (List Key×V)}(ok:HOk P w H h) (e:H a=some (.dT kvs)):kvs.length<=sizeLine/\(a==sysModules)=false /\
  ∃xs,KT H kvs xs/\h.DictOfH (tupleKind (mixKind P w)) a xs:=dt_rd ok (.inl e)
end
def DGet (H:Hp) (a:Addr) (y:V) (r:Option V):Prop:=
 (∃kvs k,Rd H a (.dK kvs)/\y=kV k/\r=valV kvs k)\/∃kvs k b,Rd H a (.dT kvs)/\y=.ref b/\H b=some (.tup (k.map kV))/\r=valV kvs k
def DPut (H:Hp) (a:Addr) (y v:V) (H':Hp):Prop:=
 (∃kvs k,H a=some (.dK kvs)/\y=kV k/\kvs.length<sizeLine/\H'=upd H a (.dK (putK kvs k v))) \/
 ∃kvs k b,H a=some (.dT kvs)/\y=.ref b/\H b=some (.tup (k.map kV))/\kvs.length<sizeLine/\H'=upd H a (.dT (putK kvs k v))
theorem DGet.k {H:Hp}{a:Addr}{kvs:List (Key×V)}{k:Key}(e:H a=some (.dK kvs)):DGet H a (kV k) (valV kvs k):=.inl ⟨kvs,k,.inl e,rfl,rfl⟩
theorem DGet.t {H:Hp}{a b:Addr}{kvs:List (List Key×V)}{k:List Key}(e:H a=some (.dT kvs)) (eb:H b=some (.tup (k.map kV))):DGet H a (.ref b) (valV kvs k):=.inr ⟨kvs,k,b,.inl e,rfl,eb,rfl⟩
theorem DPut.k {H:Hp}{a:Addr}{kvs:List (Key×V)}{k:Key}{v:V}(e:H a=some (.dK kvs)) (hl:kvs.length<sizeLine):DPut H a (kV k) v (upd H a (.dK (putK kvs k v))):=.inl ⟨kvs,k,e,rfl,hl,rfl⟩
theorem DPut.t {H:Hp}{a b:Addr}{kvs:List (List Key×V)}{k:List Key}{v:V}(e:H a=some (.dT kvs)) (eb:H b=some (.tup (k.map kV))) (hl:kvs.length<sizeLine) :
  DPut H a (.ref b) v (upd H a (.dT (putK kvs k v))):=.inr ⟨kvs,k,b,e,rfl,eb,hl,rfl⟩
section
variable {X:Cx}{pins:List (Addr×Obj)}{σ:St}{H:Hp}{s:Shared}{a:Addr}{y v:V}{u r:Value}{o:Option V}{A:Around}{E:Value->Shared->Prop}
theorem Inv.big (I:Inv X pins σ H s):sysModules<s.heap.objs.size:=by
 have h:mainGlobals<s.heap.objs.size:=(I.mod.glob.keeps I.bk).lt
 exact Nat.lt_trans (by decide) h
theorem d_getItem {Q:Value->Shared->Prop}(hu:A.units+1<cLine) (I:Inv X pins σ H s) (g:DGet H a y (some v)) (ry:RelV y u) (h:∀w' s',Inv X pins σ H s'->RelV v w'->Q w' s') :
  wpAny (model X.prog X.w) A (getItem (.ref a) u) Q E s:=by
 rcases g with ⟨kvs,k,e,ey,l⟩|⟨kvs,k,b,e,ey,eb,l⟩
 ·subst ey
  obtain⟨z,hd,vs,rel,dd⟩:=dk_rd I.hok e
  obtain⟨w',hw,rw'⟩:=RelO.some_of (v:=v) (o:=valueAt vs k) (by rw[l];exact rel.val k)
  exact wpAny_getItem_of (kV_is ry) dd.mapOf hw (h w' _ (I.tok _) rw')
 ·subst ey
  cases (show u=Value.ref b from ry)
  obtain⟨z,hd,xs,rel,dd⟩:=dt_rd I.hok e
  obtain⟨w',hw,rw'⟩:=RelO.some_of (v:=v) (o:=(atKey xs k).map (·.2)) (by rw[l];exact rel.val k)
  obtain⟨p,hp,hp2⟩:=Option.map_eq_some_iff.mp hw
  refine wpAny_getItem_heap (tupleKind_room_in1 hu) (key_of I.hok eb) dd hp ?_
  rw[hp2]
  exact h w' _ (I.tok _) rw'
theorem d_in {Q:Value->Shared->Prop}(hu:A.units+1<cLine) (I:Inv X pins σ H s) (g:DGet H a y o) (ry:RelV y u) (h:∀s',Inv X pins σ H s'->Q (.bool o.isSome) s') :
  wpAny (model X.prog X.w) A (compareOp .In u (.ref a)) Q E s:=by
 rcases g with ⟨kvs,k,e,ey,l⟩|⟨kvs,k,b,e,ey,eb,l⟩
 ·subst ey
  obtain⟨z,hd,vs,rel,dd⟩:=dk_rd I.hok e
  refine wpAny_in_of (kV_is ry) hd dd.mapOf ?_
  rw[<- (rel.val k).isSome_eq,<- l]
  exact h _ (I.tok _)
 ·subst ey
  cases (show u=Value.ref b from ry)
  obtain⟨z,hd,xs,rel,dd⟩:=dt_rd I.hok e
  refine wpAny_in_heap (tupleKind_room_in1 hu) (key_of I.hok eb) hd dd ?_
  have q:=(rel.val k).isSome_eq
  rw[Option.isSome_map] at q
  rw[<- q,<- l]
  exact h _ (I.tok _)
theorem d_notIn {Q:Value->Shared->Prop}(hu:A.units+1<cLine) (I:Inv X pins σ H s) (g:DGet H a y o) (ry:RelV y u) (h:∀s',Inv X pins σ H s'->Q (.bool (!o.isSome)) s') :
  wpAny (model X.prog X.w) A (compareOp .NotIn u (.ref a)) Q E s:=by
 rcases g with ⟨kvs,k,e,ey,l⟩|⟨kvs,k,b,e,ey,eb,l⟩
 ·subst ey
  obtain⟨z,hd,vs,rel,dd⟩:=dk_rd I.hok e
  refine wpAny_notIn_of (kV_is ry) hd dd.mapOf ?_
  rw[<- (rel.val k).isSome_eq,<- l]
  exact h _ (I.tok _)
 ·subst ey
  cases (show u=Value.ref b from ry)
  obtain⟨z,hd,xs,rel,dd⟩:=dt_rd I.hok e
  refine wpAny_notIn_heap (tupleKind_room_in1 hu) (key_of I.hok eb) hd dd ?_
  have q:=(rel.val k).isSome_eq
  rw[Option.isSome_map] at q
  rw[<- q,<- l]
  exact h _ (I.tok _)
theorem d_write {h':Heap}{t':Nat}{ob:HO}(I:Inv X pins σ H s) (mu:Mut (H a)) (hs:Heap.SameBut a s.heap h') (he:∃q,h'.get? a=some q) (new:ObjOk X.prog X.w (upd H a ob) h' a ob) :
  Inv X pins σ (upd H a ob) { s with heap:=h',toks:=t' }:=
 I.write (x:=a) (e:=a) mu (.inl rfl) (λb q hb z=>(hs.2 b hb).trans z) he new
theorem dk_new {P:Program}{w:World}{H':Hp}{h':Heap}{kvs:List (Key×V)}{vs:List (Key×Value)}(z:kvs.length<=sizeLine) (hd:(a==sysModules)=false) (rel:KV kvs vs) (dd:h'.DictOf (mixKind P w) a vs) :
  ObjOk P w H' h' a (.dK kvs):=⟨z,hd,vs,rel,dd⟩
theorem d_setItem {H':Hp}{Q:Unit->Shared->Prop}(hu:A.units+1<cLine) (I:Inv X pins σ H s) (g:DPut H a y v H') (ry:RelV y u) (rv:RelV v r) (h:∀s',Inv X pins σ H' s'->Q () s') :
  wpAny (model X.prog X.w) A (setItem (.ref a) u r) Q E s:=by
 rcases g with ⟨kvs,k,e,ey,l,eH⟩|⟨kvs,k,b,e,ey,eb,l,eH⟩
 ·subst ey eH
  obtain⟨z,hd,vs,rel,dd⟩:=dk_of I.hok e
  have hz:vs.length<=sizeLine:=by rw[<- rel.length];exact z
  have hl:(putK kvs k v).length<=sizeLine:=by have:=length_putK kvs k v;lia
  refine wpAny_setItem_pairs (hsz:=hz) (kV_is ry) dd λh' dd' hs=>h _ ?_
  have he:∃q,h'.get? a=some q:=let ⟨q,_,_,hq,_⟩:=dd';⟨q,hq⟩
  exact d_write I (by rw[e];exact True.intro) hs he (dk_new hl hd (rel.put k rv) dd')
 ·subst ey eH
  cases (show u=Value.ref b from ry)
  obtain⟨z,hd,xs,rel,dd⟩:=dt_of I.hok e
  have hz:xs.length<=sizeLine:=by rw[<- Paired.length rel];exact z
  have hl:(putK kvs k v).length<=sizeLine:=by have:=length_putK kvs k v;lia
  refine wpAny_setItem_heap (hsz:=hz) (tupleKind_room_in1 hu) (key_of I.hok eb) dd λh' dd' hs=>h _ ?_
  obtain⟨q,es,ep,hq,h2,h3,h4,_,h5⟩:=dd'
  refine d_write I (by rw[e];exact True.intro) hs ⟨q,hq⟩ ⟨hl,hd,_,(rel.put k eb rv).keeps λc ys ec=>?_,q,es,ep,hq,h2,h3,h4,h5⟩
  rw[upd_ne (ne_of ec e (λz=>nomatch z))]
  exact ec
end
section
variable {X:Cx}{pins:List (Addr×Obj)}{σ:St}{H:Hp}{s:Shared}{a:Addr}{kvs:List (Key×V)}{k:Key}{u:Value}{A:Around}{E:Value->Shared->Prop}
end
def NoSl (i:Expr):Prop:=∀ov iv,subscripted i false ov iv=operate [ov,iv] (getItem ov iv)
theorem subD_of {prog:Program}{w:World}{A:Around}{E:Value->Shared->Prop}{s:Shared}{env:Env}{value slice:Expr}{pos:Pos}{T id:String}{Q:Value->Shared->Prop}
  (hl:typeLookup (.type T) "__getitem__" = pure (some (.builtin id))) (hs:NoSl slice)
  (h:wpAny (model prog w) A (eval value env) (λo s₁=>wpAny (model prog w) A (eval slice env) (λi s₂=>s₂.TypeIs o T/\wpAny (model prog w) A (getItem o i) Q E s₂) E s₁) E s) :
  wpAny (model prog w) A (eval (.Subscript value slice pos) env) Q E s:=by
 refine Subscript_ (wpAny_mono h (λo s₁ h₁=>wpAny_mono h₁ (λi s₂ h₂=>?_) λ_ _ x=>x) λ_ _ x=>x)
 obtain⟨hT,h₂⟩:=h₂
 unfold subscriptTail
 refine wpAny_bind ?_
 rw[getitemInPython_of_ne hT.not_modules]
 refine wpAny_bind (wpAny_specialOf hT hl ?_)
 have fin:wpAny (model prog w) A (subscripted slice false o i) (λr s₃=>wpAny (model prog w) A (letTemporaryGo value o r >>= λ_=>pure r) Q E s₃) E s₂:=by
  rw[hs o i]
  exact wpAny_operating (wpAny_mono h₂ (λr s₃ h₃=>wpAny_bind (wpAny_letTemporaryGo (wpAny_pure h₃))) λ_ _ x=>x)
 first
  |exact wpAny_pure (wpAny_bind fin)
  |exact wpAny_bind (wpAny_pure (wpAny_bind fin))
  |exact wpAny_bind fin
theorem dict_typeIs {X:Cx}{pins:List (Addr×Obj)}{σ:St}{H:Hp}{s:Shared}{a:Addr}{y:V}{o:Option V}(I:Inv X pins σ H s) (g:DGet H a y o):s.TypeIs (.ref a) "dict":=by
 rcases g with ⟨kvs,k,e,_,_⟩|⟨kvs,k,b,e,_,_,_⟩
 ·obtain⟨_,_,vs,_,dd⟩:=dk_rd I.hok e
  exact dd.typeIs
 ·obtain⟨_,_,xs,_,dd⟩:=dt_rd I.hok e
  exact dd.typeIs
def tDGet (td ty:TE):TE:=λσ H Q=>td σ H λx H1=>ty σ H1 λy H2=>∃a v,x=.ref a/\DGet H2 a y (some v)/\Q v H2
def tDIn (ty td:TE):TE:=λσ H Q=>ty σ H λy H1=>td σ H1 λx H2=>∃a o,x=.ref a/\DGet H2 a y o/\Q (.bl o.isSome) H2
def tDNotIn (ty td:TE):TE:=λσ H Q=>ty σ H λy H1=>td σ H1 λx H2=>∃a o,x=.ref a/\DGet H2 a y o/\Q (.bl (!o.isSome)) H2
def sDPut (td ty tv:TE):TS:=λD σ H=>tv σ H λv H1=>td σ H1 λx H2=>ty σ H2 λy H3=>∃a H4,x=.ref a/\DPut H3 a y v H4/\D.nx σ H4
section
variable {X:Cx}{o i e value:Expr}{pos pos' tpos:Pos}{td ty tv:TE}
theorem pe_dget (hu:X.A.units+1<cLine) (ho:PE X o td) (hi:PE X i ty) (hs:NoSl i):PE X (.Subscript o i pos) (tDGet td ty):=by
 intro pins s σ H Q I h
 refine subD_of PySem.F.slot_dict_getitem.lookup hs (thn (ho pins s σ H _ I h) λu s1 ⟨x,H1,I1,rx,q1⟩=>thn (hi pins s1 σ H1 _ I1 q1) λiv s2 ⟨y,H2,I2,ry,a,v,ex,g,q2⟩=>?_)
 subst ex
 obtain rfl:u=Value.ref a:=rx
 exact⟨dict_typeIs I2 g,d_getItem hu I2 g ry λw' s3 I3 rw'=>⟨v,H2,I3,rw',q2⟩⟩
theorem pc_din (hu:X.A.units+1<cLine) (hi:PE X i ty) (ho:PE X o td):PC X .In i o (tDIn ty td):=by
 intro pins s σ H Q I h
 refine thn (hi pins s σ H _ I h) λiv s1 ⟨y,H1,I1,ry,q1⟩=>thn (ho pins s1 σ H1 _ I1 q1) λu s2 ⟨x,H2,I2,rx,a,ov,ex,g,q2⟩=>?_
 subst ex
 obtain rfl:u=Value.ref a:=rx
 exact d_in hu I2 g ry λs3 I3=>⟨.bl ov.isSome,H2,I3,rfl,q2⟩
theorem pc_dnotin (hu:X.A.units+1<cLine) (hi:PE X i ty) (ho:PE X o td):PC X .NotIn i o (tDNotIn ty td):=by
 intro pins s σ H Q I h
 refine thn (hi pins s σ H _ I h) λiv s1 ⟨y,H1,I1,ry,q1⟩=>thn (ho pins s1 σ H1 _ I1 q1) λu s2 ⟨x,H2,I2,rx,a,ov,ex,g,q2⟩=>?_
 subst ex
 obtain rfl:u=Value.ref a:=rx
 exact d_notIn hu I2 g ry λs3 I3=>⟨.bl (!ov.isSome),H2,I3,rfl,q2⟩
theorem ps_dput (hu:X.A.units+1<cLine) (ho:PE X o td) (hi:PE X i ty) (hv:PE X value tv) (hs:swapsWith value (some (.Subscript o i pos')) pos.line X.env=pure false) :
  PS X (.Assign [.Subscript o i pos'] value pos) (sDPut td ty tv):=by
 intro pins s σ H D I h
 refine wpAny_Assign_Subscript (thn (hv pins s σ H _ I h) λr s1 ⟨v,H1,I1,rv,q1⟩=>thn (ho pins s1 σ H1 _ I1 q1) λu s2 ⟨x,H2,I2,rx,q2⟩=>thn (hi pins s2 σ H2 _ I2 q2) λiv s3 ⟨y,H3,I3,ry,a,H4,ex,g,q3⟩=>?_) hs
 subst ex
 obtain rfl:u=Value.ref a:=rx
 exact d_setItem hu I3 g ry rv λs4 I4=>⟨σ,H4,I4,q3⟩
end
theorem dt_empty {P:Program}{w:World}{H:Hp}(h:Heap) (hb:sysModules<h.objs.size):ObjOk P w H (h.push { cls:=.type "dict",data:=.dict #[] }) h.objs.size (.dT []):=
 ⟨Nat.zero_le _,beq_eq_false_iff_ne.mpr (Ne.symm (Nat.ne_of_lt hb)),[],.nil,_,#[],0,Heap.get?_push_size _ rfl,⟨rfl,rfl,rfl⟩,rfl,rfl,List.nodup_nil⟩
def tDNewT:TE:=λ_ H Q=>∀p,H p=none->Q (.ref p) (upd H p (.dT []))
section
variable {X:Cx}{pos:Pos}
theorem pe_dnewT:PE X (.Dict [] [] pos) tDNewT:=λpins s σ H Q I h=>
 wpAny_Dict_empty ⟨.ref s.heap.objs.size,_,I.laid (a:=s.heap.objs.size) (o:=.dT []) (t':=s.toks) (λ_ _ q=>Heap.get?_push_of_some _ q) (Nat.le_refl _) (dt_empty s.heap I.big),rfl,h _ (I.hok.fresh (Nat.le_refl _))⟩
end
section
variable {X:Cx}{pins:List (Addr×Obj)}{σ:St}{H:Hp}{s:Shared}{a:Addr}{y d:V}{u r:Value}{o:Option V}{A:Around}{E:Value->Shared->Prop}
end
section
variable {X:Cx}{o e f:Expr}{apos cpos:Pos}{td ty tx:TE}
end
section
variable {X:Cx}{pins:List (Addr×Obj)}{σ:St}{H:Hp}{s:Shared}{a:Addr}{kvs:List (Key×V)}{A:Around}{E:Value->Shared->Prop}
end
section
variable {X:Cx}{pins:List (Addr×Obj)}{σ:St}{H:Hp}{s:Shared}{a:Addr}{y:V}{u:Value}{A:Around}{E:Value->Shared->Prop}
end
end L2
namespace L2
open PySem PySem.Spec PyProof.Rows
section
variable {X:Cx}
end
section
variable {κ:Type}[DecidableEq κ]
end
end L2
namespace SetT
open PySem
def g:Nat->Nat
 |0=>0
 |n+1=>5*g n+1
def F:Nat->Nat->Nat
 |0,x=>x
 |n+1,x=>5*F n x+1
theorem F_eq (n x:Nat):F n x=x+g n*(4*x+1):=by
 induction n with
 |zero=>simp[F,g]
 |succ n ih=>
  show 5*F n x+1=x+(5*g n+1)*(4*x+1)
  rw[ih,Nat.add_mul,Nat.one_mul,Nat.mul_assoc]
  lia
theorem F_add (m n x:Nat):F (m+n) x=F m (F n x):=by
 induction m with
 |zero=>simp[F]
 |succ m ih=>
  rw[Nat.succ_add]
  show 5*F (m+n) x+1=5*F m (F n x)+1
  rw[ih]
theorem g_F (n:Nat):g n=F n 0:=by
 rw[F_eq];simp
theorem g_add (m n:Nat):g (m+n)=g n+g m*(4*g n+1):=by
 rw[g_F,F_add,F_eq m,<- g_F n]
theorem g_pow:∀k:Nat,∃c,g (2^k)=2^k*(2*c+1)
 |0=>⟨0,rfl⟩
 |k+1=>by
  obtain⟨c,hc⟩:=g_pow k
  have e:g (2^(k+1))=g (2^k)*(4*g (2^k)+2):=by
   rw[Nat.pow_succ,Nat.mul_two,g_add]
   generalize g (2^k)=y
   rw[Nat.mul_add,Nat.mul_add]
   lia
  rw[e,hc]
  refine⟨2^k*(2*c+1)*(2*c+1)+c,?_⟩
  rw[Nat.pow_succ]
  generalize 2^k=p
  have h1:p*(2*c+1)*(4*(p*(2*c+1))+2)=p*2*((2*c+1)*(2*(p*(2*c+1))+1)):=by
   have:4*(p*(2*c+1))+2=2*(2*(p*(2*c+1))+1):=by lia
   rw[this,Nat.mul_assoc,Nat.mul_assoc,Nat.mul_left_comm (2*c+1) 2]
  rw[h1]
  congr 1
  rw[Nat.mul_add,Nat.mul_one,Nat.mul_left_comm,Nat.mul_comm (2*c+1) (p*(2*c+1))]
  lia
theorem low_bit (k a q:Nat):(2^k*a+q)%2^(k+1)=(2^k*(a%2)+q)%2^(k+1):=by
 have ha:a=2*(a/2)+a%2:=by lia
 have:2^k*a+q=(2^k*(a%2)+q)+2^(k+1)*(a/2):=by
  have h:2^k*a+q=2^k*(2*(a/2)+a%2)+q:=by rw[<- ha]
  rw[h,Nat.pow_succ,Nat.mul_add,Nat.mul_assoc]
  lia
 rw[this,Nat.add_mul_mod_self_left]
theorem cover:∀(k x y:Nat),∃r,r<2^k/\F r x%2^k=y%2^k
 |0,x,y=>⟨0,by decide,by simp[Nat.mod_one]⟩
 |k+1,x,y=>by
  obtain⟨r,hr,e⟩:=cover k x y
  have hp:0<2^k:=Nat.two_pow_pos k
  have h2:(2:Nat)^(k+1)=2^k+2^k:=by rw[Nat.pow_succ,Nat.mul_two]
  obtain⟨c,hc⟩:=g_pow k
  have e2:F (2^k+r) x=F r x+2^k*(2*c+1)*(4*F r x+1):=by
   rw[F_add,F_eq (2^k),hc]
  have y1:2^k*(y/2^k)+y%2^k=y:=Nat.div_add_mod y _
  have z1:2^k*(F r x/2^k)+F r x%2^k=F r x:=Nat.div_add_mod _ _
  by_cases h:F r x/2^k%2=y/2^k%2
  ·refine⟨r,by lia,?_⟩
   rw[<- z1,<- y1,low_bit,h,<- low_bit,e]
  ·refine⟨2^k+r,by lia,?_⟩
   rw[e2]
   generalize F r x=z at *
   have o:(2*c+1)*(4*z+1)=2*(c*(4*z+1)+2*z)+1:=by
    rw[Nat.add_mul,Nat.one_mul,Nat.mul_assoc]
    lia
   have e3:z+2^k*(2*c+1)*(4*z+1)=2^k*(z/2^k+(2*(c*(4*z+1)+2*z)+1))+z%2^k:=by
    rw[Nat.mul_assoc,o,Nat.mul_add (2^k) (z/2^k)]
    lia
   rw[e3,<- y1,low_bit,e]
   have e4:(z/2^k+(2*(c*(4*z+1)+2*z)+1))%2=y/2^k%2:=by lia
   rw[e4,<- low_bit]
def starts (mask:Nat):Nat->Nat->Nat->Nat
 |0,i,_=>i
 |r+1,i,p=>starts mask r (SetTable.leap mask i p).1 (SetTable.leap mask i p).2
theorem starts_calm (k:Nat):∀(r i:Nat),starts (2^k-1) r (i%2^k) 0=F r i%2^k
 |0,i=>rfl
 |r+1,i=>by
  have hp:0<2^k:=Nat.two_pow_pos k
  show starts (2^k-1) r ((i%2^k*5+1+0/32)%(2^k-1+1)) (0/32)=_
  have e1:2^k-1+1=2^k:=by lia
  have e2:(i%2^k*5+1+0/32)%2^k=(5*i+1)%2^k:=by
   simp only[Nat.zero_div,Nat.add_zero]
   rw[Nat.add_mod,Nat.mul_mod,Nat.mod_mod,<- Nat.mul_mod,<- Nat.add_mod,Nat.mul_comm]
  rw[e1,e2,Nat.zero_div,starts_calm k r (5*i+1)]
  have:F r (5*i+1)=F (r+1) i:=by rw[F_add r 1 i];rfl
  rw[this]
theorem starts_add (mask:Nat):∀(a b i p:Nat),starts mask (a+b) i p=starts mask b (starts mask a i p) (p/32^a)
 |0,b,i,p=>by simp[starts]
 |a+1,b,i,p=>by
  rw[Nat.succ_add]
  show starts mask (a+b) _ _=starts mask b (starts mask a _ _) _
  rw[starts_add mask a b]
  show starts mask b _ (p/32/32^a)=_
  rw[Nat.div_div_eq_div_mul,Nat.pow_succ,Nat.mul_comm (32^a) 32]
theorem starts_lt (mask:Nat):∀(a i p:Nat),i<mask+1->starts mask a i p<mask+1
 |0,i,p,h=>h
 |a+1,i,p,_=>starts_lt mask a _ _ (Nat.mod_lt _ (Nat.succ_pos _))
theorem starts_meet (k i p j:Nat) (hi:i<2^k) (hp:p<2^64) (hj:j<2^k):∃r,r<13+2^k/\starts (2^k-1) r i p=j:=by
 have hk:0<2^k:=Nat.two_pow_pos k
 have hl:=starts_lt (2^k-1) 13 i p (by lia)
 obtain⟨r,hr,e⟩:=cover k (starts (2^k-1) 13 i p) j
 refine⟨13+r,by lia,?_⟩
 rw[starts_add]
 have hz:p/32^13=0:=Nat.div_eq_of_lt (Nat.lt_trans hp (by decide))
 have hm:starts (2^k-1) 13 i p=starts (2^k-1) 13 i p%2^k:=(Nat.mod_eq_of_lt (by lia)).symm
 rw[hz,hm,starts_calm,e,Nat.mod_eq_of_lt hj]
theorem runEnd_le (mask i:Nat):SetTable.runEnd mask i-i<=9:=by unfold SetTable.runEnd;split<;>lia
def adv (t:SetTable):Nat->SetTable.Probe->SetTable.Probe
 |0,p=>p
 |n+1,p=>adv t n (t.advance p)
theorem adv_run (t:SetTable):∀(m:Nat) (p:SetTable.Probe),m<=p.more->adv t m p={ p with j:=p.j+m,more:=p.more-m }
 |0,p,_=>by simp[adv]
 |m+1,p,h=>by
  have e:t.advance p={ p with j:=p.j+1,more:=p.more-1 }:=by
   unfold SetTable.advance
   rw[if_pos (by lia)]
  show adv t m (t.advance p)=_
  rw[e,adv_run t m _ (by show m<=p.more-1;lia)]
  show SetTable.Probe.mk _ _ _ _ _=SetTable.Probe.mk _ _ _ _ _
  congr 1
  ·show p.j+1+m=p.j+(m+1);lia
  ·show p.more-1-m=p.more-(m+1);lia
theorem adv_add (t:SetTable):∀(a b:Nat) (p:SetTable.Probe),adv t (a+b) p=adv t b (adv t a p)
 |0,b,p=>by simp[adv]
 |a+1,b,p=>by rw[Nat.succ_add];exact adv_add t a b _
structure Head (t:SetTable) (i perturb:Nat) (d:Option Nat) (p:SetTable.Probe):Prop where
 e:p={ j:=i,more:=SetTable.runEnd t.mask i-i,i:=i,perturb:=perturb,dummy:=d }
theorem head_next {t:SetTable}{i q:Nat}{d:Option Nat}{p:SetTable.Probe}(h:Head t i q d p):∃n,n<=10/\Head t (SetTable.leap t.mask i q).1 (SetTable.leap t.mask i q).2 d (adv t n p):=by
 have hr:=runEnd_le t.mask i
 refine⟨(SetTable.runEnd t.mask i-i)+1,by lia,⟨?_⟩⟩
 rw[adv_add,adv_run t _ p (by rw[h.e];exact Nat.le_refl _)]
 show t.advance _=_
 rw[h.e]
 unfold SetTable.advance
 rw[if_neg (by show ¬(SetTable.runEnd t.mask i-i)-(SetTable.runEnd t.mask i-i)>0;lia)]
theorem head_at {t:SetTable}{d:Option Nat}:∀(r:Nat){i q:Nat}{p:SetTable.Probe},Head t i q d p->∃n,n<=10*r/\(adv t n p).j=starts t.mask r i q/\(adv t n p).dummy=d
 |0,i,q,p,h=>⟨0,Nat.le_refl _,by show p.j=i;rw[h.e],by show p.dummy=d;rw[h.e]⟩
 |r+1,i,q,p,h=>by
  obtain⟨n,hn,h1⟩:=head_next h
  obtain⟨m,hm,e1,e2⟩:=head_at r h1
  exact⟨n+m,by lia,by rw[adv_add];exact e1,by rw[adv_add];exact e2⟩
theorem adv_dummy (t:SetTable):∀(n:Nat) (p:SetTable.Probe),(adv t n p).dummy=p.dummy
 |0,p=>rfl
 |n+1,p=>by
  show (adv t n (t.advance p)).dummy=_
  rw[adv_dummy t n]
  unfold SetTable.advance
  split<;>rfl
theorem bits_lt (h:Int):SetTable.bits h<2^64:=by
 unfold SetTable.bits
 have:=Int.emod_lt_of_pos h (show (0:Int)<2^64 by decide)
 have h0:=Int.emod_nonneg h (show (2^64:Int)≠0 by decide)
 lia
theorem meet {t:SetTable}{k:Nat}(hm:t.mask=2^k-1) (h:Int){j:Nat}(hj:j<2^k):∃n,n<10*SetTable.turns t.mask/\(adv t n (t.probeStart h)).j=j:=by
 have hk:0<2^k:=Nat.two_pow_pos k
 have hd:Head t (SetTable.bits h%(t.mask+1)) (SetTable.bits h) none (t.probeStart h):=⟨rfl⟩
 obtain⟨r,hr,e⟩:=starts_meet k (SetTable.bits h%(t.mask+1)) (SetTable.bits h) j (by rw[hm];have:=Nat.mod_lt (SetTable.bits h) hk;rw[show 2^k-1+1=2^k by lia];exact this) (bits_lt h) hj
 obtain⟨n,hn,e1,_⟩:=head_at r hd
 refine⟨n,?_,by rw[e1];rw[<- hm] at e;exact e⟩
 unfold SetTable.turns
 lia
theorem has_none (j:Nat):SetTable.has #[] j=false:=by
 unfold SetTable.has
 simp
theorem slot_of {t:SetTable}(hd:t.dummies=#[]) (j:Nat):(t.slot j=.empty)\/∃i,t.slot j=.live i/\t.place[i]?=some j:=by
 unfold SetTable.slot
 simp only
 split
 ·rename_i h
  exact .inr ⟨_,rfl,by simpa using h⟩
 ·rw[hd,has_none]
  exact .inl rfl
theorem slot_free {t:SetTable}(hd:t.dummies=#[]){j:Nat}(h:j∉t.place.toList):t.slot j=.empty:=by
 rcases slot_of hd j with e|⟨i,_,e⟩
 ·exact e
 ·refine absurd ?_ h
  have:=Array.mem_of_getElem? e
  simpa using this
theorem pigeon:∀(n:Nat) (l:List Nat),l.length<n->∃j,j<n/\j∉l
 |0,l,h=>absurd h (Nat.not_lt_zero _)
 |n+1,l,h=>by
  by_cases hn:n∈l
  ·obtain⟨j,hj,hl⟩:=pigeon n (l.erase n) (by rw[List.length_erase_of_mem hn];have:=List.length_pos_of_mem hn;lia)
   refine⟨j,by lia,λm=>hl ?_⟩
   exact (List.mem_erase_of_ne (by lia)).mpr m
  ·exact⟨n,Nat.lt_succ_self n,hn⟩
structure Grown (t:SetTable) (n:Nat):Prop where
 pl:t.place.size=n
 du:t.dummies=#[]
 ma:∃k,t.mask=2^k-1/\1<=k
 le:n<=t.mask
theorem Grown.fill {t:SetTable}{n:Nat}(h:Grown t n):t.fill=n:=by unfold SetTable.fill;rw[h.pl,h.du];rfl
theorem Grown.way {t:SetTable}{n:Nat}(h:Grown t n):t.gaveWay=false:=by
 obtain⟨k,e,hk⟩:=h.ma
 unfold SetTable.gaveWay
 rw[e]
 obtain⟨k,rfl⟩:∃m,k=m+1:=⟨k-1,by lia⟩
 have:=Nat.two_pow_pos k
 have e2:(2^(k+1)-1)%2=1:=by rw[Nat.pow_succ];lia
 rw[e2]
 rfl
theorem Grown.meets {t:SetTable}{n:Nat}(g:Grown t n) (h:Int):∃m,m<10*SetTable.turns t.mask/\t.slot (adv t m (t.probeStart h)).j=.empty:=by
 obtain⟨k,e,_⟩:=g.ma
 have hk:=Nat.two_pow_pos k
 obtain⟨j,hj,hl⟩:=pigeon (2^k) t.place.toList (by simp only[Array.length_toList,g.pl];have:=g.le;lia)
 obtain⟨m,hm,ej⟩:=meet e h hj
 exact⟨m,hm,by rw[ej];exact slot_free g.du hl⟩
theorem go_some {t:SetTable}(hd:t.dummies=#[]) (hashAt:Nat->Int) (h:Int):∀(f m:Nat) (p:SetTable.Probe),m<f->p.dummy=none->t.slot (adv t m p).j=.empty ->
  (∃j,SetTable.probe.go t hashAt h f p=some (.empty j none)) \/
  (∃m' j i,m'<m/\SetTable.probe.go t hashAt h f p=some (.candidate j i (adv t (m'+1) p))/\t.slot j=.live i/\t.place[i]?=some j/\hashAt i=h)
 |0,m,p,h1,_,_=>absurd h1 (Nat.not_lt_zero _)
 |f+1,m,p,h1,hp,he=>by
  unfold SetTable.probe.go
  rcases slot_of hd p.j with e|⟨i,e,e2⟩
  ·rw[e]
   exact .inl ⟨p.j,by rw[hp]⟩
  ·rw[e]
   cases m with
   |zero=>
    have he':t.slot p.j=.empty:=he
    rw[e] at he';cases he'
   |succ m=>
    by_cases hc:hashAt i==h
    ·refine .inr ⟨0,p.j,i,Nat.succ_pos _,?_,e,e2,by simpa using hc⟩
     simp only
     rw[if_pos hc]
     rfl
    ·simp only
     rw[if_neg hc]
     rcases go_some hd hashAt h f m (t.advance p) (by lia) (by rw[<- hp];exact adv_dummy t 1 p) he with ⟨j,ej⟩|⟨m',j,i',hm',ej,r⟩
     ·exact .inl ⟨j,ej⟩
     ·exact .inr ⟨m'+1,j,i',by lia,ej,r⟩
theorem size_insertAt {α:Type}(xs:Array α) (p:Nat) (x:α):(SetTable.insertAt xs p x).size=xs.size+1:=by
 unfold SetTable.insertAt
 simp
 lia
theorem mem_insertAt {α:Type}{xs:Array α}{p:Nat}{x y:α}(h:y∈SetTable.insertAt xs p x):y=x\/y∈xs:=by
 unfold SetTable.insertAt at h
 rcases Array.mem_append.mp h with h|h
 ·rcases Array.mem_push.mp h with h|h
  ·obtain⟨i,hi,e⟩:=Array.mem_extract_iff_getElem.mp h
   exact .inr (by rw[<- e];exact Array.getElem_mem _)
  ·exact .inl h
 ·obtain⟨i,hi,e⟩:=Array.mem_extract_iff_getElem.mp h
  exact .inr (by rw[<- e];exact Array.getElem_mem _)
theorem Grown.put {t:SetTable}{n:Nat}(g:Grown t n) (hf:t.tooFull=false) (j:Nat):Grown (t.put j).1 (n+1):=by
 have e:(t.put j).1={ t with place:=SetTable.insertAt t.place (SetTable.below t.place j) j }:=by
  unfold SetTable.put
  simp only
  rw[g.du,has_none]
  simp[g.du]
 rw[e]
 refine⟨by rw[size_insertAt,g.pl],g.du,g.ma,?_⟩
 show n+1<=t.mask
 unfold SetTable.tooFull at hf
 rw[g.fill] at hf
 have:=of_decide_eq_false hf
 lia
theorem free_some {mask:Nat}{owner:Array (Option Nat)}:∀(f r i p:Nat),r<f->(owner.getD (starts mask r i p) (some 0)).isNone=true ->
  ∃j,SetTable.layClean.free mask owner f i p=some j/\(owner.getD j (some 0)).isNone=true
 |0,r,i,p,h,_=>absurd h (Nat.not_lt_zero _)
 |f+1,r,i,p,h,hn=>by
  unfold SetTable.layClean.free
  cases e:(List.range (SetTable.runEnd mask i+1-i)).find? λk=>(owner.getD (i+k) (some 0)).isNone with
  |some k=>
   have:=List.find?_some e
   exact⟨i+k,rfl,this⟩
  |none=>
   cases r with
   |zero=>
    have h0:∀x∈List.range (SetTable.runEnd mask i+1-i),¬(owner.getD (i+x) (some 0)).isNone=true:=by simpa using e
    have hm:0∈List.range (SetTable.runEnd mask i+1-i):=List.mem_range.mpr (by unfold SetTable.runEnd;split<;>lia)
    exact absurd hn (h0 0 hm)
   |succ r=>exact free_some f r _ _ (by lia) hn
def cnt (owner:Array (Option Nat)):Nat:=(owner.toList.filter Option.isSome).length
theorem cnt_set_list:∀(l:List (Option Nat)) (j k:Nat),l[j]?=some none->((l.set j (some k)).filter Option.isSome).length=(l.filter Option.isSome).length+1
 |[],j,k,h=>by simp at h
 |a::l,0,k,h=>by
  have:a=none:=by simpa using h
  subst this
  simp
 |a::l,j+1,k,h=>by
  have ih:=cnt_set_list l j k (by simpa using h)
  rw[List.set_cons_succ,List.filter_cons,List.filter_cons]
  split
  ·rw[List.length_cons,List.length_cons,ih]
  ·exact ih
theorem none_in:∀(l:List (Option Nat)),(l.filter Option.isSome).length<l.length->∃j:Nat,l[j]?=some none
 |[],h=>by simp at h
 |none::l,_=>⟨0,rfl⟩
 |some a::l,h=>by
  obtain⟨j,hj⟩:=none_in l (by simpa using h)
  exact⟨j+1,by simpa using hj⟩
structure Laid (mask:Nat) (owner:Array (Option Nat)) (K:Nat):Prop where
 sz:owner.size=mask+1
 ct:cnt owner=K
 lt:∀v,some v∈owner.toList->v<K
theorem Laid.step {mask k K:Nat}{owner:Array (Option Nat)}(hm:mask=2^k-1) (g:Laid mask owner K) (hK:K<=mask) (h:Int) :
  ∃j,SetTable.layClean.free mask owner (SetTable.turns mask) (SetTable.bits h%(mask+1)) (SetTable.bits h)=some j/\Laid mask (owner.setIfInBounds j (some K)) (K+1):=by
 have hk:=Nat.two_pow_pos k
 obtain⟨j0,hj0⟩:=none_in owner.toList (by
  have:=g.ct
  unfold cnt at this
  rw[this,Array.length_toList,g.sz]
  lia)
 have hl:j0<mask+1:=by
  have:=(List.getElem?_eq_some_iff.mp hj0).1
  rw[Array.length_toList,g.sz] at this
  exact this
 have e1:mask+1=2^k:=by lia
 obtain⟨r,hr,er⟩:=starts_meet k (SetTable.bits h%(mask+1)) (SetTable.bits h) j0 (by rw[<- e1];exact Nat.mod_lt _ (Nat.succ_pos _)) (bits_lt h) (by lia)
 rw[<- hm] at er
 have hgd:∀j,(owner.getD j (some 0)).isNone=true<->owner.toList[j]?=some none:=λj=>by
  rw[Array.getElem?_toList]
  by_cases hj:j<owner.size
  ·simp[Array.getD,hj]
  ·simp[Array.getD,hj]
 obtain⟨j,ej,hj⟩:=free_some (mask:=mask) (owner:=owner) (SetTable.turns mask) r _ _ (by unfold SetTable.turns;lia) (by rw[er];exact (hgd j0).mpr hj0)
 have hj':=(hgd j).mp hj
 refine⟨j,ej,by rw[Array.size_setIfInBounds];exact g.sz,?_,λv hv=>?_⟩
 ·unfold cnt
  rw[Array.toList_setIfInBounds,cnt_set_list _ _ _ hj']
  have:=g.ct
  unfold cnt at this
  rw[this]
 ·rw[Array.toList_setIfInBounds] at hv
  rcases List.mem_or_eq_of_mem_set hv with hv|hv
  ·have:=g.lt v hv;lia
  ·have:v=K:=by simpa using hv
   lia
theorem lay_fold {mask k:Nat}(hm:mask=2^k-1):∀(hs:List Int) (owner:Array (Option Nat)) (K:Nat),Laid mask owner K->K+hs.length<=mask ->
  ∃owner',(hs.foldl (λ(acc:Option (Array (Option Nat)×Nat)) (h:Int)=>do
   let (owner,k) <- acc
   let j <- SetTable.layClean.free mask owner (SetTable.turns mask) (SetTable.bits h%(mask+1)) (SetTable.bits h)
   pure (owner.setIfInBounds j (some k),k+1)) (some (owner,K)))=some (owner',K+hs.length)/\Laid mask owner' (K+hs.length)
 |[],owner,K,g,_=>⟨owner,rfl,g⟩
 |h::hs,owner,K,g,hl=>by
  rw[List.length_cons] at hl
  obtain⟨j,ej,g'⟩:=g.step hm (by lia) h
  obtain⟨o',e',g''⟩:=lay_fold hm hs _ (K+1) g' (by lia)
  refine⟨o',?_,by rw[List.length_cons,show K+(hs.length+1)=K+1+hs.length by lia];exact g''⟩
  rw[List.foldl_cons,List.length_cons,show K+(hs.length+1)=K+1+hs.length by lia,<- e']
  congr 1
  show (SetTable.layClean.free mask owner (SetTable.turns mask) (SetTable.bits h%(mask+1)) (SetTable.bits h)).bind _=_
  rw[ej]
  rfl
theorem lay_all {mask k:Nat}(hm:mask=2^k-1) (hs:Array Int) (hl:hs.size<=mask):∃owner,SetTable.layClean mask hs=some owner/\Laid mask owner hs.size:=by
 have g0:Laid mask (Array.replicate (mask+1) none) 0:=⟨by simp,by unfold cnt;simp,λv hv=>by simp at hv⟩
 obtain⟨o,e,g⟩:=lay_fold hm hs.toList _ 0 g0 (by simpa using hl)
 refine⟨o,?_,by simpa using g⟩
 unfold SetTable.layClean
 rw[<- Array.foldl_toList,e]
 rfl
theorem fm_congr {α β:Type}{f g:α->Option β}:∀(l:List α),(∀x∈l,f x=g x)->l.filterMap f=l.filterMap g
 |[],_=>rfl
 |a::l,h=>by
  rw[List.filterMap_cons,List.filterMap_cons,h a List.mem_cons_self,fm_congr l λx hx=>h x (List.mem_cons_of_mem _ hx)]
theorem live_len:∀(l:List (Option Nat)) (a:Nat),((List.range' a l.length).filterMap λj=>((l[j-a]?).getD none).map (λv=>(j,v))).length=(l.filter Option.isSome).length
 |[],a=>rfl
 |x::l,a=>by
  rw[List.length_cons,List.range'_succ,List.filterMap_cons]
  have ih:=live_len l (a+1)
  have e:(List.range' (a+1) l.length).filterMap (λj=>(((x::l)[j-a]?).getD none).map (λv=>(j,v)))=(List.range' (a+1) l.length).filterMap λj=>((l[j-(a+1)]?).getD none).map (λv=>(j,v)):=by
   refine fm_congr _ λj hj=>?_
   have:=(List.mem_range'_1.mp hj).1
   obtain⟨d,rfl⟩:∃d,j=a+1+d:=⟨j-(a+1),by lia⟩
   rw[show a+1+d-a=d+1 by lia,show a+1+d-(a+1)=d by lia,List.getElem?_cons_succ]
  rw[e,Nat.sub_self]
  cases x with
  |none=>simpa using ih
  |some v=>simpa using ih
theorem laid_some {mask k finger moves:Nat}{led plain:Bool}(hm:mask=2^k-1) (h1:1<=k) (hs:Array Int) (hl:hs.size<=mask) :
  ∃t order,SetTable.laid mask finger moves led plain hs=some (t,order)/\Grown t hs.size/\t.mask=mask/\t.led=led/\t.moves=moves/\order.size=hs.size/\∀v∈order,v<hs.size:=by
 obtain⟨owner,e,g⟩:=lay_all hm hs hl
 have el:∀a:Nat,(List.range (mask+1)).filterMap (λj=>(owner.getD j none).map (λv=>(j,v)))=(List.range' 0 owner.toList.length).filterMap λj=>((owner.toList[j-0]?).getD none).map (λv=>(j,v)):=λ_=>by
  rw[Array.length_toList,g.sz,<- List.range_eq_range']
  refine fm_congr _ λj hj=>?_
  have hj':=List.mem_range.mp hj
  rw[Nat.sub_zero,Array.getElem?_toList]
  simp[Array.getD,g.sz,hj']
 have len:((List.range (mask+1)).filterMap (λj=>(owner.getD j none).map (λv=>(j,v)))).length=hs.size:=by
  rw[el 0,live_len,<- g.ct]
  rfl
 refine⟨_,_,by unfold SetTable.laid;rw[e];rfl,⟨?_,rfl,⟨k,hm,h1⟩,hl⟩,rfl,rfl,rfl,?_,λv hv=>?_⟩
 ·show ((((List.range (mask+1)).filterMap (λj=>(owner.getD j none).map (λv=>(j,v)))).map (·.1)).toArray).size=_
  rw[List.size_toArray,List.length_map,len]
 ·show ((((List.range (mask+1)).filterMap (λj=>(owner.getD j none).map (λv=>(j,v)))).map (·.2)).toArray).size=_
  rw[List.size_toArray,List.length_map,len]
 ·have hv':v∈((List.range (mask+1)).filterMap (λj=>(owner.getD j none).map (λv=>(j,v)))).map (·.2):=by simpa using hv
  obtain⟨q,hq,rfl⟩:=List.mem_map.mp hv'
  obtain⟨j,hj,ej⟩:=List.mem_filterMap.mp hq
  obtain⟨v',ev,rfl⟩:=Option.map_eq_some_iff.mp ej
  refine g.lt v' ?_
  have hj':=List.mem_range.mp hj
  have:owner[j]'(by rw[g.sz];exact hj')=some v':=by simpa [Array.getD,g.sz,hj'] using ev
  rw[<- this]
  simp
theorem above_pow:∀(f k n:Nat),3<=k->n<2^(k+f)->∃k',SetTable.sizeAbove.go n f (2^k)=2^k'/\3<=k'/\n<2^k'/\(2^k<=2*n+8->2^k'<=2*n+8)
 |0,k,n,hk,h=>⟨k,rfl,hk,h,λz=>z⟩
 |f+1,k,n,hk,h=>by
  unfold SetTable.sizeAbove.go
  by_cases hc:2^k<=n
  ·rw[if_pos hc,<- Nat.pow_succ]
   obtain⟨k',e,h1,h2,h3⟩:=above_pow f (k+1) n (by lia) (by rw[show k+1+f=k+(f+1) by lia];exact h)
   exact⟨k',e,h1,h2,λ_=>h3 (by rw[Nat.pow_succ];lia)⟩
  ·rw[if_neg hc]
   exact⟨k,rfl,hk,by lia,λz=>z⟩
theorem sizeAbove_is {n:Nat}(h:n<2^60):∃k,SetTable.sizeAbove n=2^k/\3<=k/\n<2^k/\2^k<=2*n+8:=by
 obtain⟨k,e,h1,h2,h3⟩:=above_pow 64 3 n (by decide) (Nat.lt_trans h (by decide))
 exact⟨k,e,h1,h2,h3 (by show 8<=2*n+8;lia)⟩
theorem relaid_some {t:SetTable}{hs:Array Int}{wanted:Nat}(hw:wanted<2^60) (hl:hs.size<wanted) :
  ∃t' order,t.relaid hs wanted=some (t',order)/\Grown t' hs.size/\wanted<=t'.mask/\t'.mask<=2*wanted+8/\t'.led=t.led/\order.size=hs.size/\∀v∈order,v<hs.size:=by
 obtain⟨k,e,h1,h2,h3⟩:=sizeAbove_is hw
 have hk:=Nat.two_pow_pos k
 obtain⟨t',order,el,g,em,eled,_,eo,ev⟩:=laid_some (mask:=2^k-1) (k:=k) (finger:=t.finger) (moves:=t.movedTo (2^k-1)) (led:=t.led) (plain:=t.plain) rfl (by lia) hs (by lia)
 refine⟨t',order,?_,g,by rw[em];lia,by rw[em];lia,eled,eo,ev⟩
 unfold SetTable.relaid
 rw[e]
 exact el
theorem size_pick {α:Type}{es:Array α}{order:Array Nat}(h:∀v∈order,v<es.size):(order.filterMap (es[·]?)).size=order.size:=by
 rw[<- Array.length_toList,Array.toList_filterMap,<- Array.length_toList (xs:=order)]
 have:∀l:List Nat,(∀v∈l,v<es.size)->(l.filterMap (es[·]?)).length=l.length:=λl=>by
  induction l with
  |nil=>intro _;rfl
  |cons a l ih=>
   intro hh
   rw[List.filterMap_cons]
   have ha:=hh a List.mem_cons_self
   rw[show es[a]?=some es[a] by simp[ha]]
   simp[ih λv hv=>hh v (List.mem_cons_of_mem _ hv)]
 exact this _ λv hv=>h v (by simpa using hv)
theorem mem_pick {α:Type}{es:Array α}{order:Array Nat}{y:α}(h:y∈order.filterMap (es[·]?)):y∈es:=by
 obtain⟨v,_,e⟩:=Array.mem_filterMap.mp h
 exact Array.mem_of_getElem? e
end SetT
namespace SetT
open PySem PySem.Spec PyProof.Rows
section
variable {prog:Program}{w:World}{K:Type}[DecidableEq K]{knd:KeyKind prog w K}{A:Around}{E:Value->Shared->Prop}{s:Shared}
theorem noClass_byValue (n:Nat){v:Value}(h:carriedByValue v=true):ofAClassStatement n v=pure false:=by
 cases v with
 |ref a=>simp[carriedByValue] at h
 |_=>first|rfl|(unfold ofAClassStatement;rfl)|(cases n<;>rfl)
theorem seqItems?_of {M:Model}{a:Addr}{o:Obj}{items:Array Value}{n:Nat}{Q:Option (Array Value)->Shared->Prop}(ho:s.heap.get? a=some o) (hd:o.data=.seq items n) (h:Q (some items) s) :
  wpAny M A (seqItems? (.ref a)) Q E s:=wpAny_seqItems ho hd h
theorem noClass_tuple {ks:List K}{a:Addr}{Q:Bool->Shared->Prop}(hk:IsTupleKey knd s.heap ks a) (h:Q false s):wpAny (model prog w) A (ofAClassStatement 8 (.ref a)) Q E s:=by
 have hT:=hk.typeIs
 obtain⟨o,items,n,ho,_,hd,hi⟩:=hk
 unfold ofAClassStatement
 refine wpAny_bind (wpAny_typeOf hT ?_)
 show wpAny _ _ ((if ("tuple" == "tuple")=true then pure true else isSubtype (.type "tuple") (.type "tuple")) >>= _) _ _ s
 rw[if_pos (by decide)]
 refine wpAny_bind (wpAny_pure ?_)
 simp only[Bool.not_true,Bool.false_eq_true,if_false]
 refine wpAny_bind (seqItems?_of ho hd ?_)
 dsimp only
 refine wpAny_bind ?_
 show wpAny _ _ (forIn items _ _) _ _ s
 rw[<- Array.forIn_toList]
 refine wpAny_forIn_list _ (λrest r s'=>r.1=none/\s'=s/\∀v∈rest,carriedByValue v=true) _ ?_ ?_ _ _ ⟨rfl,rfl,hi.byValue⟩
 ·rintro v rest r s' ⟨hr,rfl,hall⟩
  rw[noClass_byValue _ (hall v List.mem_cons_self)]
  refine wpAny_bind (wpAny_pure ?_)
  simp only[Bool.false_eq_true,if_false]
  exact wpAny_pure ⟨rfl,rfl,λu hu'=>hall u (List.mem_cons_of_mem _ hu')⟩
 ·rintro⟨r1,r2⟩ s' ⟨hr,rfl,_⟩
  simp only at hr
  subst hr
  exact wpAny_pure h
theorem unseen {ks:List K}{a:Addr}{Q:Bool->Shared->Prop}(hk:IsTupleKey knd s.heap ks a) (h:Q false s){stored:List Value}(hst:∀y∈stored,∃b ks',y=.ref b/\IsTupleKey knd s.heap ks' b) :
  wpAny (model prog w) A (searchCouldBeSeen (.ref a) stored) Q E s:=by
 unfold searchCouldBeSeen
 refine wpAny_bind ?_
 refine wpAny_forIn_list _ (λrest r s'=>r.1=none/\s'=s/\∀y∈rest,∃b ks',y=.ref b/\IsTupleKey knd s.heap ks' b) _ ?_ ?_ _ _ ⟨rfl,rfl,hst⟩
 ·rintro y rest r s' ⟨hr,rfl,hall⟩
  obtain⟨b,ks',rfl,hb⟩:=hall y List.mem_cons_self
  have rest':∀y∈rest,∃b ks',y=.ref b/\IsTupleKey knd s'.heap ks' b:=λu hu'=>hall u (List.mem_cons_of_mem _ hu')
  dsimp only
  split
  ·exact wpAny_pure ⟨rfl,rfl,rest'⟩
  ·refine wpAny_bind (wpAny_eqIsQuiet_tuple hk ?_)
   simp only[Bool.not_true,Bool.false_eq_true,if_false]
   refine wpAny_bind (wpAny_eqIsQuiet_tuple hb ?_)
   simp only[Bool.not_true,Bool.false_eq_true,if_false]
   refine wpAny_bind (noClass_tuple hk ?_)
   simp only[Bool.false_eq_true,if_false]
   refine wpAny_bind (noClass_tuple hb ?_)
   simp only[Bool.false_eq_true,if_false]
   exact wpAny_pure ⟨rfl,rfl,rest'⟩
 ·rintro⟨r1,r2⟩ s' ⟨hr,rfl,_⟩
  simp only at hr
  subst hr
  exact wpAny_pure h
def Hb (v:Value):Prop:=∃b,∀n,hashByValue n v=pure b
theorem Hb.int (k:Int) (t:Tok):Hb (.int k t):=⟨true,λn=>by cases n<;>rfl⟩
theorem Hb.str (x:Str) (t:Tok):Hb (.str x t):=⟨false,λn=>by cases n<;>rfl⟩
theorem hashBy_tuple {a:Addr}{o:Obj}{items:Array Value}{n:Nat}{Q:Bool->Shared->Prop}(ho:s.heap.get? a=some o) (hc:o.cls=.type "tuple") (hd:o.data=.seq items n) (hi:∀v∈items.toList,Hb v) (h:∀b,Q b s) :
  wpAny (model prog w) A (hashByValue 8 (.ref a)) Q E s:=by
 have hT:s.TypeIs (.ref a) "tuple":=⟨o,ho,hc⟩
 unfold hashByValue
 refine wpAny_bind (wpAny_specialOf hT F.slot_tuple_hash.lookup ?_)
 dsimp only
 refine wpAny_bind (seqItems?_of ho hd ?_)
 dsimp only [Option.getD]
 refine wpAny_bind ?_
 show wpAny _ _ (forIn items _ _) _ _ s
 rw[<- Array.forIn_toList]
 refine wpAny_forIn_list _ (λrest r s'=>r.1=none/\s'=s/\∀v∈rest,Hb v) _ ?_ ?_ _ _ ⟨rfl,rfl,hi⟩
 ·rintro v rest r s' ⟨hr,rfl,hall⟩
  obtain⟨b,hb⟩:=hall v List.mem_cons_self
  rw[hb]
  refine wpAny_bind (wpAny_pure ?_)
  cases b with
  |true=>
   simp only[Bool.not_true,Bool.false_eq_true,if_false]
   exact wpAny_pure ⟨rfl,rfl,λu hu'=>hall u (List.mem_cons_of_mem _ hu')⟩
  |false=>
   simp only[Bool.not_false,if_true]
   exact wpAny_pure (wpAny_pure (h false))
 ·rintro⟨r1,r2⟩ s' ⟨hr,rfl,_⟩
  simp only at hr
  subst hr
  exact wpAny_pure (h true)
theorem Grown.fits {t:SetTable}{n:Nat}(g:Grown t n):t.fits n=true:=by
 unfold SetTable.fits
 rw[g.pl,g.fill]
 simp[g.le]
theorem probe_out {t:SetTable}{f:Nat->Int}{h:Int}{p:SetTable.Probe}{pr:Option SetTable.Met}{m:Nat}(hp:t.probe f h p=pr) (hd:t.dummies=#[]) (hm:m<10*SetTable.turns t.mask) (hdm:p.dummy=none) (he:t.slot (adv t m p).j=.empty) :
  (∃j,pr=some (.empty j none))\/(∃m' j i,m'<m/\pr=some (.candidate j i (adv t (m'+1) p))/\t.slot j=.live i/\t.place[i]?=some j):=by
 subst hp
 rcases go_some hd f h (10*SetTable.turns t.mask) m p hm hdm he with ⟨j,e⟩|⟨m',j,i,h1,e,h2,h3,_⟩
 ·exact .inl ⟨j,e⟩
 ·exact .inr ⟨m',j,i,h1,e,h2,h3⟩
theorem search {a b:Addr}{o:Obj}{es:Array (Int×Value)}{ep:Nat}{t:SetTable}{ks:List K}{h:Int}{Q:SetFound->Shared->Prop}(hu:A.units<cLine)
  (ho:s.heap.get? a=some o) (hd:o.data=.set es ep t) (g:Grown t es.size) (hk:IsTupleKey knd s.heap ks b) (hel:∀e∈es,∃b' ks',e.2=.ref b'/\IsTupleKey knd s.heap ks' b'/\ks'≠ks) (q:∀j,Q (.free j false) s) :
  ∀(m fuel:Nat) (stand:Option SetTable.Probe),m<fuel->m<10*SetTable.turns t.mask->(stand.getD (t.probeStart h)).dummy=none->t.slot (adv t m (stand.getD (t.probeStart h))).j=.empty ->
   wpAny (model prog w) A (setSearchFrom a (.ref b) h true fuel stand) Q E s:=by
 intro m
 induction m using Nat.strongRecOn with
 |ind m ih=>
  intro fuel stand hf hm hdm he
  cases fuel with
  |zero=>exact absurd hf (Nat.not_lt_zero _)
  |succ fuel=>
   unfold setSearchFrom
   refine wpAny_bind (wpAny_setState_of ho hd g.fits ?_)
   dsimp only
   rw[g.way]
   simp only[Bool.false_eq_true,if_false]
   split
   ·rename_i met hp
    rcases probe_out hp g.du hm hdm he with ⟨j,ej⟩|⟨m',j,i,hm',ej,sl,pl⟩
    ·cases ej
     dsimp only
     exact wpAny_pure (q j)
    ·cases ej
     dsimp only
     have hi:i<es.size:=by
      have:=(Array.getElem?_eq_some_iff.mp pl).1
      rw[g.pl] at this
      exact this
     obtain⟨b',ks',e2,hk',hne⟩:=hel es[i] (Array.getElem_mem hi)
     have hei:es[i]?=some (es[i].1,.ref b'):=by
      rw[<- e2]
      simp[hi]
     have sm:t.sameMemory t.moves t.mask=some true:=by
      unfold SetTable.sameMemory
      rw[if_pos (by simp)]
     have nx:∀fuel',m<fuel'+1->wpAny (model prog w) A (setSearchFrom a (.ref b) h true fuel' (some (adv t (m'+1) (stand.getD (t.probeStart h))))) Q E s:=λfuel' hf'=>
      ih (m-(m'+1)) (by lia) fuel' _ (by lia) (by lia) (by show (adv t (m'+1) _).dummy=none;rw[adv_dummy];exact hdm) (by
       show t.slot (adv t (m-(m'+1)) (adv t (m'+1) _)).j=.empty
       rw[<- adv_add,show m'+1+(m-(m'+1))=m by lia]
       exact he)
     have seen:∀y∈(es.filter (·.1==h)).toList.map (·.2),∃b ks',y=.ref b/\IsTupleKey knd s.heap ks' b:=λy hy=>by
      obtain⟨e,he',rfl⟩:=List.mem_map.mp hy
      have:e∈es:=by
       have:=(Array.mem_filter.mp (show e∈es.filter (·.1==h) by simpa using he')).1
       exact this
      obtain⟨b'',ks'',x1,x2,_⟩:=hel e this
      exact⟨b'',ks'',x1,x2⟩
     cases hl:t.led with
     |false=>
      simp only[Bool.not_false,if_true]
      refine wpAny_bind (unseen hk ?_ seen)
      simp only[Bool.false_eq_true,if_false]
      rw[hei]
      dsimp only
      refine wpAny_bind (wpAny_holding (wpAny_eqBool_tuple hu hk' hk ?_))
      rw[decide_eq_false hne]
      refine wpAny_bind (wpAny_setState_of ho hd g.fits ?_)
      dsimp only
      simp only[Bool.and_false,Bool.false_eq_true,if_false]
      rw[sm]
      dsimp only
      simp only[if_true]
      rw[sl]
      dsimp only
      rw[hei]
      dsimp only
      refine wpAny_bind (wpAny_isSame_ref_self ?_)
      refine wpAny_bind (wpAny_pure ?_)
      simp only[if_true]
      exact nx fuel hf
     |true=>
      simp only[Bool.not_true,Bool.false_eq_true,if_false]
      rw[hei]
      dsimp only
      refine wpAny_bind (wpAny_holding (wpAny_eqBool_tuple hu hk' hk ?_))
      rw[decide_eq_false hne]
      refine wpAny_bind (wpAny_setState_of ho hd g.fits ?_)
      dsimp only
      simp only[Bool.and_false,Bool.false_eq_true,if_false]
      rw[sm]
      dsimp only
      simp only[if_true]
      rw[sl]
      dsimp only
      rw[hei]
      dsimp only
      refine wpAny_bind (wpAny_isSame_ref_self ?_)
      refine wpAny_bind (wpAny_pure ?_)
      simp only[if_true]
      exact nx fuel hf
   ·rename_i hp
    exact Or.elim (probe_out rfl g.du hm hdm he) (λ⟨j,e⟩=>(hp _ e).elim) (λ⟨_,_,_,_,e,_⟩=>(hp _ e).elim)
structure SetR (knd:KeyKind prog w K) (h:Heap) (a:Addr) (Ks:List (List K)) (n:Nat):Prop where
 ex:∃o es ep t,h.get? a=some o/\o.ExactSet/\o.data=.set es ep t/\Grown t es.size/\t.tooFull=false/\t.mask<=8*n+8/\es.size=n/\∀e∈es,∃b ks,e.2=.ref b/\ks∈Ks/\IsTupleKey knd h ks b
theorem key_other {h:Heap}{a b:Addr}{o:Obj}{ks:List K}{es:Array (Int×Value)}{ep:Nat}{t:SetTable}(x:IsTupleKey knd h ks b) (ho:h.get? a=some o) (hd:o.data=.set es ep t):b≠a:=by
 rintro rfl
 obtain⟨o',items,n,ho',_,hd',_⟩:=x
 obtain rfl:o'=o:=Option.some.inj (ho'.symm.trans ho)
 rw[hd] at hd';exact nomatch hd'
theorem key_keeps {h h':Heap}{a b:Addr}{ks:List K}(x:IsTupleKey knd h ks b) (hne:b≠a) (hs:Heap.SameBut a h h'):IsTupleKey knd h' ks b:=by
 obtain⟨o',items,n,ho',hc,hd',hi⟩:=x
 exact⟨o',items,n,(hs.2 b hne).trans ho',hc,hd',hi⟩
theorem put_set {h:Heap}{a:Addr}{o:Obj}{es es':Array (Int×Value)}{ep:Nat}{t t':SetTable}(ho:h.get? a=some o) (hd:o.data=.set es ep t) :
  (h.update a (Obj.putSet es' t')).get? a=some { o with data:=.set es' (ep+1) t' }:=by
 have:=Heap.get?_update_self (Obj.putSet es' t') ho (by rw[putSet_of es' t' hd];rfl)
 rw[putSet_of es' t' hd] at this;exact this
theorem add_one {a b:Addr}{ks:List K}{Ks:List (List K)}{n:Nat}{h:Int}{Q:Bool->Shared->Prop}(hu:A.units<cLine) (S:SetR knd s.heap a Ks n) (hk:IsTupleKey knd s.heap ks b) (hHb:∀o items m,s.heap.get? b=some o->o.data=.seq items m->∀v∈items.toList,Hb v)
  (hn:ks∉Ks) (hsz:n<1200) (q:∀h',Heap.SameBut a s.heap h'->SetR knd h' a (ks::Ks) (n+1)->Q true { s with heap:=h' }) :
  wpAny (model prog w) A (setAddHashed a (.ref b) h) Q E s:=by
 obtain⟨o,es,ep,t,ho,hex,hd,g,hf,hmk,rfl,hel⟩:=S.ex
 unfold setAddHashed setAddHashedIn
 refine wpAny_holding (wpAny_bind (wpAny_setState_of ho hd g.fits ?_))
 dsimp only
 have hby:byScan (.ref b) es=false:=rfl
 rw[hby]
 simp only[Bool.false_eq_true,if_false]
 obtain⟨m,hm,hslot⟩:=g.meets h
 have hfu:m<100000:=by
  unfold SetTable.turns at hm
  lia
 refine wpAny_bind (search hu ho hd g hk (λe he=>?_) (λj=>?_) m 100000 none hfu hm rfl hslot)
 ·obtain⟨b',ks',e1,e2,e3⟩:=hel e he
  exact⟨b',ks',e1,e3,λz=>hn (by rw[<- z];exact e2)⟩
 dsimp only
 refine wpAny_bind (wpAny_setState_of ho hd g.fits ?_)
 dsimp only
 have g1:=g.put hf j
 generalize hp:t.put j=tp at g1
 obtain⟨t1,p⟩:=tp
 dsimp only at g1 ⊢
 have hmk1:t1.mask=t.mask:=by
  have:(t.put j).1.mask=t.mask:=rfl
  rw[hp] at this
  exact this
 have hba:b≠a:=key_other hk ho hd
 have mem1:∀{h1:Heap},Heap.SameBut a s.heap h1->∀e∈SetTable.insertAt es p (h,Value.ref b),∃b' ks',e.2=.ref b'/\ks'∈ks::Ks/\IsTupleKey knd h1 ks' b':=λ{h1} hs e he=>by
  rcases mem_insertAt he with rfl|he
  ·exact⟨b,ks,rfl,List.mem_cons_self,key_keeps hk hba hs⟩
  ·obtain⟨b',ks',e1,e2,e3⟩:=hel e he
   exact⟨b',ks',e1,List.mem_cons_of_mem _ e2,key_keeps e3 (key_other e3 ho hd) hs⟩
 have sz1:(SetTable.insertAt es p (h,Value.ref b)).size=es.size+1:=size_insertAt _ _ _
 have room:es.size+1<=sizeLine:=by rw[sizeLine_eq];lia
 have tail:∀t2:SetTable,Grown t2 (es.size+1)->t2.mask=t.mask->wpAny (model prog w) A (do
   storeSet a (SetTable.insertAt es p (h,Value.ref b)) t2
   if (!false&&t2.tooFull)=true then do
     setRelay a (SetTable.grown (es.size+1))
     pure true
    else pure true) Q E s:=λt2 g2 hm2=>by
  refine wpAny_bind (wpAny_storeSet_of ho hd ?_ (by rw[sz1];exact room))
  have ho1:=put_set (es':=SetTable.insertAt es p (h,Value.ref b)) (t':=t2) ho hd
  have hs1:=Heap.SameBut.update s.heap a (Obj.putSet (SetTable.insertAt es p (h,Value.ref b)) t2)
  cases ht:t2.tooFull with
  |false=>
   simp only[Bool.and_false,Bool.false_eq_true,if_false]
   refine wpAny_pure (q _ hs1 ⟨_,_,_,t2,ho1,hex,rfl,by rw[sz1];exact g2,ht,by lia,sz1,mem1 hs1⟩)
  |true=>
   simp only[Bool.not_false,Bool.and_self,if_true]
   refine wpAny_bind ?_
   unfold setRelay
   refine wpAny_bind (wpAny_setState_of ho1 rfl (by rw[sz1];exact g2.fits) ?_)
   dsimp only
   have gw:SetTable.grown (es.size+1)=(es.size+1)*4:=by
    unfold SetTable.grown
    rw[if_neg (by lia)]
   obtain⟨k,ek,_,_,hk3⟩:=sizeAbove_is (n:=SetTable.grown (es.size+1)) (by rw[gw];lia)
   rw[if_neg (by rw[ek,sizeLine_eq];rw[gw] at hk3;lia)]
   obtain⟨t3,order,er,g3,hw1,hw2,_,eo,ev⟩:=relaid_some (t:=t2) (hs:=(SetTable.insertAt es p (h,Value.ref b)).map (·.1)) (wanted:=SetTable.grown (es.size+1)) (by rw[gw];lia) (by rw[Array.size_map,sz1,gw];lia)
   rw[Array.size_map] at g3 eo ev
   rw[er]
   have es2:(order.filterMap ((SetTable.insertAt es p (h,Value.ref b))[·]?)).size=es.size+1:=by rw[size_pick ev,eo,sz1]
   refine wpAny_bind ?_
   show wpAny _ _ (if ((order.filterMap ((SetTable.insertAt es p (h,Value.ref b))[·]?)).size != (SetTable.insertAt es p (h,Value.ref b)).size)=true then _ else _) _ _ _
   rw[if_neg (by rw[es2,sz1];simp)]
   refine wpAny_pure ?_
   dsimp only
   refine wpAny_storeSet_of ho1 rfl ?_ (by rw[es2];exact room)
   have ho2:=put_set (es':=order.filterMap ((SetTable.insertAt es p (h,Value.ref b))[·]?)) (t':=t3) ho1 rfl
   have hs2:=hs1.trans (Heap.SameBut.update _ a (Obj.putSet (order.filterMap ((SetTable.insertAt es p (h,Value.ref b))[·]?)) t3))
   refine wpAny_pure (q _ hs2 ⟨_,_,_,t3,ho2,hex,rfl,by rw[es2,<- sz1];exact g3,?_,?_,es2,λe he=>mem1 hs2 e (mem_pick he)⟩)
   ·unfold SetTable.tooFull
    rw[g3.fill,sz1]
    rw[gw] at hw1
    exact decide_eq_false (by lia)
   ·rw[gw] at hw2
    lia
 cases hpl:t1.plain with
 |false=>
  simp only[Bool.false_eq_true,if_false]
  refine wpAny_bind (wpAny_pure ?_)
  simp only[if_true]
  exact tail t1 g1 hmk1
 |true=>
  simp only[if_true]
  obtain⟨ob,items,nn,hb1,hb2,hb3,_⟩:=id hk
  refine wpAny_bind (hashBy_tuple hb1 hb2 hb3 (hHb _ _ _ hb1 hb3) λc=>?_)
  cases c with
  |true=>
   simp only[if_true]
   exact tail t1 g1 hmk1
  |false=>
   simp only[Bool.false_eq_true,if_false]
   exact tail { t1 with plain:=false } ⟨g1.pl,g1.du,g1.ma,g1.le⟩ hmk1
end
end SetT
namespace SetT
open PySem PySem.Spec PyProof.Rows
section
variable {prog:Program}{w:World}{K:Type}[DecidableEq K]{knd:KeyKind prog w K}
def TupK (knd:KeyKind prog w K) (h:Heap) (ks:List K) (b:Addr):Prop:=∃o items n,h.get? b=some o/\o.cls=.type "tuple" /\ o.data=.seq items n/\ItemsAre knd ks items.toList/\∀v∈items.toList,Hb v
theorem TupK.key {h:Heap}{ks:List K}{b:Addr}(x:TupK knd h ks b):IsTupleKey knd h ks b:=let ⟨o,items,n,h1,h2,h3,h4,_⟩:=x;⟨o,items,n,h1,h2,h3,h4⟩
theorem TupK.hb {h:Heap}{ks:List K}{b:Addr}(x:TupK knd h ks b):∀o items m,h.get? b=some o->o.data=.seq items m->∀v∈items.toList,Hb v:=λo items m e1 e2=>by
 obtain⟨o',items',n',h1,_,h3,_,h5⟩:=x
 rw[e1] at h1;cases h1
 rw[e2] at h3;cases h3
 exact h5
theorem TupK.at {h h':Heap}{ks:List K}{b:Addr}(x:TupK knd h ks b) (k:∀o,h.get? b=some o->h'.get? b=some o):TupK knd h' ks b:=let ⟨o,items,n,h1,r⟩:=x;⟨o,items,n,k o h1,r⟩
theorem SetR.at {h h':Heap}{a:Addr}{Ks:List (List K)}{n:Nat}(S:SetR knd h a Ks n) (k:∀b o,h.get? b=some o->h'.get? b=some o\/b≠a/\¬∃ks,IsTupleKey knd h ks b):SetR knd h' a Ks n:=by
 obtain⟨o,es,ep,t,ho,hex,hd,g,hf,hmk,hn,hel⟩:=S.ex
 refine⟨o,es,ep,t,?_,hex,hd,g,hf,hmk,hn,λe he=>?_⟩
 ·rcases k a o ho with z|z
  ·exact z
  ·exact absurd rfl z.1
 ·obtain⟨b,ks,e1,e2,e3⟩:=hel e he
  refine⟨b,ks,e1,e2,?_⟩
  obtain⟨o',items,n',ho',r⟩:=id e3
  rcases k b o' ho' with z|z
  ·exact⟨o',items,n',z,r⟩
  ·exact absurd ⟨ks,e3⟩ z.2
variable {A:Around}{R:Result->Shared->Prop}{I:Addr}{fp wr:List Addr}{G:Array GenState->Array GenState->Prop}{n:Nat}{P:Nat->Value->Prop}{St:Nat->Shared->Prop}
def Items (knd:KeyKind prog w K) (S:Addr) (wr:List Addr) (P:Nat->Value->Prop) (val:Nat->List K) (h:Heap):Prop:=∀i v,P i v->∃b,v=.ref b/\b≠S/\b∉wr/\TupK knd h (val i) b
def NoTup (knd:KeyKind prog w K) (wr:List Addr) (h:Heap):Prop:=∀b∈wr,¬∃ks,IsTupleKey knd h ks b
theorem fill_loop (W:WalksS prog w A.in1 I fp wr G n P St) (S:Addr) (hSf:S∉fp) (val:Nat->List K) (dist:∀i j,i<j->j<n->val i≠val j) (hn:n<=1200) (hu:A.in1.units<cLine)
  (nt:∀i s,St i s->NoTup knd wr s.heap) :
  ∀(k i:Nat) (s:Shared),n-i=k->i<=n->St i s->Items knd S wr P val s.heap->(∃Ks,SetR knd s.heap S Ks i/\∀ks∈Ks,∃j,j<i/\ks=val j) ->
   (∀s',Moved (S::wr) G s s'->(∃Ks,SetR knd s'.heap S Ks n)->R (.ok (.ret .none)) s') ->
   codeAny (model prog w) A (.builtin "set.update.loop" ⟨[.ref S,.ref I],[]⟩) R s:=by
 have hSw:S∉wr:=λz=>hSf (W.sub _ z)
 have up:∀b∈wr,b∈S::wr:=λb hb=>List.mem_cons_of_mem _ hb
 have stays:∀{i:Nat}{s s':Shared}{Ks:List (List K)}{m:Nat},St i s->Moved wr G s s'->SetR knd s.heap S Ks m->SetR knd s'.heap S Ks m:=λ{i s s' Ks m} st mv S0=>S0.at λb o e=>by
  by_cases hb:b∈wr
  ·exact .inr ⟨λz=>hSw (by rw[<- z];exact hb),nt i s st b hb⟩
  ·exact .inl (mv.heap b o hb e)
 intro k
 induction k with
 |zero=>
  intro i s hk hi st its hS hR
  have hin:i=n:=by lia
  subst hin
  obtain⟨Ks,S0,_⟩:=hS
  refine codeAny_builtin PyProof.Rows.F.entry_set_update_loop ?_
  rw[Around.under_plainId PyProof.Rows.F.plain_set_update_loop _]
  show wpAny _ A.in1 (pyNext (.ref I) >>= _) _ _ s
  refine wpAny_bind (W.done s _ _ st λs' mv=>?_)
  show wpAny _ A.in1 (ret Value.none) _ _ s'
  exact wpAny_pure (hR s' (mv.mono up) ⟨Ks,stays st mv S0⟩)
 |succ k ih=>
  intro i s hk hi st its hS hR
  obtain⟨Ks,S0,hKs⟩:=hS
  have hlt:i<n:=by lia
  refine codeAny_builtin PyProof.Rows.F.entry_set_update_loop ?_
  rw[Around.under_plainId PyProof.Rows.F.plain_set_update_loop _]
  show wpAny _ A.in1 (pyNext (.ref I) >>= _) _ _ s
  refine wpAny_bind (W.item i s _ _ hlt st λv s' hP st' mv=>?_)
  obtain⟨b,rfl,hbS,hbw,hb⟩:=its i v hP
  have hb':TupK knd s'.heap (val i) b:=hb.at λo e=>mv.heap b o hbw e
  have S1:SetR knd s'.heap S Ks i:=stays st mv S0
  show wpAny _ A.in1 (holding [Value.ref b] (setAdd S (.ref b)) >>= _) _ _ s'
  refine wpAny_bind (wpAny_holding ?_)
  unfold setAdd
  refine wpAny_holding ?_
  refine wpAny_bind (wpAny_pyHash_tuple hu hb'.key ?_)
  refine add_one (s:={ s' with toks:=s'.toks+((val i).length+1) }) hu S1 hb'.key hb'.hb (λz=>?_) (by lia) λh' hsb S2=>?_
  ·obtain⟨j,hj,e⟩:=hKs _ z
   exact dist j i hj hlt e.symm
  ·have its':Items knd S wr P val h':=λj u hPj=>by
    obtain⟨c,rfl,h1,h2,h3⟩:=its j u hPj
    exact⟨c,rfl,h1,h2,(h3.at λo e=>mv.heap c o h2 e).at λo e=>(hsb.2 c h1).trans e⟩
   refine wpAny_pure ⟨plainId_quiet PyProof.Rows.F.plain_set_update_loop _,ih (i+1) _ (by lia) hlt (W.frame _ s' _ _ st' (Nat.le_add_right _ _) λc hc o e=>?_) its' ⟨val i::Ks,S2,λks hks=>?_⟩ λs'' mv'' fin=>?_⟩
   ·rw[hsb.2 c (λz:c=S=>hSf (by rw[<- z];exact hc))];exact e
   ·rcases List.mem_cons.mp hks with rfl|hks
    ·exact⟨i,Nat.lt_succ_self i,rfl⟩
    ·obtain⟨j,hj,e⟩:=hKs ks hks
     exact⟨j,by lia,e⟩
   ·refine hR s'' (Moved.trans W.gtrans ((mv.mono up).then_heap (Nat.le_add_right _ _) λc o hc e=>?_) mv'') fin
    rw[hsb.2 c (λz:c=S=>hc (by rw[z];exact List.mem_cons_self))];exact e
end
end SetT
namespace SetT
open PySem PySem.Spec
section
variable {prog:Program}{w:World}{K:Type}[DecidableEq K]{knd:KeyKind prog w K}{A:Around}{E:Value->Shared->Prop}{s:Shared}
abbrev newS (led:Bool):Obj:={ cls:=.type "set",dict:=none,data:=.set #[] 0 (.fresh 0 0 led) }
theorem fresh_setR {h:Heap}{a:Addr}{led:Bool}(e:h.get? a=some (newS led)):SetR knd h a [] 0:=
 ⟨_,#[],0,.fresh 0 0 led,e,⟨rfl,rfl,rfl⟩,rfl,⟨rfl,rfl,⟨3,rfl,by decide⟩,Nat.zero_le _⟩,by rfl,(by show 7<=8*0+8;decide),rfl,λe he=>by simp at he⟩
theorem call_set_tuple {l:Addr}{items:Array Value}{val:Nat->List K}{Q:Value->Shared->Prop}(hh:A.handled=none) (hu:A.units+8<cLine) (hl:s.heap.IsTuple l items)
  (hi:∀(i:Nat) (v:Value),items[i]?=some v->∃b,v=.ref b/\TupK knd s.heap (val i) b) (dist:∀i j,i<j->j<items.size->val i≠val j) (hb:items.size<=1200)
  (h:∀(h':Heap) (tk:Nat),(∃Ks,SetR knd h' s.heap.objs.size Ks items.size)->(∀b o,b<s.heap.objs.size->s.heap.get? b=some o->h'.get? b=some o)->Q (.ref s.heap.objs.size) { s with heap:=h',toks:=tk }) :
  wpAny (model prog w) A (call (.type "set") [.ref l]) Q E s:=by
 obtain⟨c,tl,hmro⟩:=F.called_set.mro
 have made0:=F.called_set.made
 have sub0:=F.called_set.sub
 refine wpAny_call (codeAny_of_tree ?_)
 show wpAny _ _ (callAny (.type "set") _) _ _ _
 refine wpAny_pure ⟨Code.quiet_builtin _ (by decide +kernel),codeAny_builtin F.entry_type_call ?_⟩
 rw[Around.under_plain (weight_type_call_type "set" [.ref l] []) rfl]
 have f1:=F.called_set.notType
 have f2:=F.called_set.canCreate
 have f3:=F.typeCall_set_1 (.ref l)
 repeat (any_goals first|assumption|wp_step)
 refine codeAny_mono (code_set_new_1 (.ref l) (E:=E) (Q₁:=λobj s₁=>∃led:Bool,obj=.ref s.heap.objs.size/\s₁={ s with heap:=s.heap.push (newS led) }) λled=>⟨led,rfl,rfl⟩) λr s₁ hr=>?_
 cases r with
 |error e=>exact hr
 |ok fl=>
  cases fl with
  |ret obj=>
   obtain⟨led,rfl,rfl⟩:=hr
   have hS:(s.heap.push (newS led)).get? s.heap.objs.size=some (newS led):=Heap.get?_push_size _ rfl
   have hT:Shared.TypeIs { s with heap:=s.heap.push (newS led) } (.ref s.heap.objs.size) "set":=⟨_,hS,rfl⟩
   have i1:=F.called_set.init.lookup
   have i2:=F.called_set.init.bind (.ref s.heap.objs.size)
   repeat (any_goals first|assumption|wp_step)
   refine codeAny_mono (codeAny_call_builtin (R:=wants (λr s₂=>r=.none/\∃h' tk,s₂={ s with heap:=h',toks:=tk }/\(∃Ks,SetR knd h' s.heap.objs.size Ks items.size) /\
     (∀b o,b<s.heap.objs.size->s.heap.get? b=some o->h'.get? b=some o)) E) F.called_set.init.plain F.entry_set_init (check_set_init_1 hT ?_)) λr₂ s₂ hr₂=>?_
   ·obtain⟨ol,hol,hcl,nl,hdl⟩:=id hl
    obtain⟨ocls,odict,odata,oslots⟩:=ol
    simp only at hcl hdl
    subst hcl;subst hdl
    have hol':(s.heap.push (newS led)).get? l=some { cls:=.type "tuple",dict:=odict,data:=.seq items nl,slots:=oslots }:=Heap.get?_push_of_some _ hol
    have st1:=F.sub_tuple_set
    have st2:=F.sub_tuple_frozenset
    have ned:(Value.type "tuple" == Value.type "dict")=false:=by decide
    have hl1:(s.heap.push (newS led)).IsTuple l items:=⟨_,hol',rfl,nl,rfl⟩
    unfold Builtin.«set.__init__» noKeywords Builtin.Frozenset.updateFrom
    generalize hPI:pyIter=PI
    wp_walk
    subst hPI
    refine wpAny_pyIter_tuple hl1 ?_
    refine wpAny_bind (wpAny_runValue ?_)
    have hlS:l<s.heap.objs.size:=Heap.lt_size hol
    have hsz:(s.heap.push (newS led)).objs.size=s.heap.objs.size+1:=Heap.size_push _ _
    have hneI:l≠(s.heap.push (newS led)).objs.size:=by rw[hsz];exact Nat.ne_of_lt (Nat.lt_succ_of_lt hlS)
    have hSf:s.heap.objs.size∉[(s.heap.push (newS led)).objs.size,l]:=by
     rw[hsz];simp only[List.mem_cons,List.not_mem_nil,or_false,not_or]
     exact⟨Nat.ne_of_lt (Nat.lt_succ_self _),Nat.ne_of_gt hlS⟩
    refine fill_loop (knd:=knd) ((Walks.tuple (by simp[hh]) _ l hneI items).toS) s.heap.objs.size hSf val dist hb (by show A.units+1+1+1<cLine;lia) (λi s' st b hbw=>?_) (items.size-0) 0 _ (by lia) (Nat.zero_le _)
     ⟨⟨_,Heap.get?_push_size _ rfl,rfl,rfl⟩,hl1.push _⟩ (λi v hv=>?_) ⟨[],fresh_setR (Heap.get?_push_of_some _ hS),λks hks=>nomatch hks⟩ λs' mv fin=>?_
    ·rintro⟨ks,o',its',n',e1,e2,e3,_⟩
     have:b=(s.heap.push (newS led)).objs.size:=by simpa using hbw
     subst this
     obtain⟨oi,x1,x2,x3⟩:=st.1
     rw[x1] at e1;cases e1
     rw[x2] at e2
     injection e2 with e2
     exact absurd e2 (by decide)
    ·obtain⟨b,rfl,hb'⟩:=hi i v hv
     have hlt:b<s.heap.objs.size:=by obtain⟨o',_,_,e1,_⟩:=hb';exact Heap.lt_size e1
     refine⟨b,rfl,Nat.ne_of_lt hlt,(by rw[hsz];simp only[List.mem_cons,List.not_mem_nil,or_false];exact Nat.ne_of_lt (Nat.lt_succ_of_lt hlt)),hb'.at λo e=>Heap.get?_push_of_some _ (Heap.get?_push_of_some _ e)⟩
    ·obtain⟨h',g',d',tk',os'⟩:=s'
     have eg:g'=s.gens:=mv.gens
     have ed:d'=s.drawn:=mv.drawn
     have eo:os'=s.os:=mv.os
     subst eg;subst ed;subst eo
     show wpAny _ _ _ _ _ _
     refine wpAny_pure ?_
     show wpAny _ _ (ret Value.none) _ _ _
     refine wpAny_pure ⟨rfl,h',tk',rfl,fin,λb o hlt e=>?_⟩
     exact mv.heap b o (by rw[hsz];simp only[List.mem_cons,List.not_mem_nil,or_false,not_or];exact⟨Nat.ne_of_lt hlt,Nat.ne_of_lt (Nat.lt_succ_of_lt hlt)⟩) (Heap.get?_push_of_some _ (Heap.get?_push_of_some _ e))
   ·cases r₂ with
    |error e=>exact hr₂
    |ok fl₂=>
     cases fl₂ with
     |ret r=>
      obtain⟨rfl,h',tk,rfl,fin,kp⟩:=hr₂
      repeat (any_goals first|assumption|wp_step)
      exact h _ _ fin kp
     |_=>exact hr₂.elim
  |_=>exact hr.elim
end
end SetT
namespace L2
open PySem PySem.Spec PyProof.Rows PySem.W
section
variable {M:Model}{A:Around}{E:Value->Shared->Prop}{s:Shared}{base:Heap}{env:Env}{outer:List Env}{L e:Addr}{oe:Obj}{vs:Array Value}{head:Value}{hadNext:Bool}
end
end L2
namespace L2
open PySem PySem.Spec PyProof.Rows
section
variable {P:Program}{w:World}{H H1 H':Hp}{h h1 h':Heap}{outer:List Env}{env:Env}{x L:Addr}{cls:Value}
end
section
variable {P:Program}{w:World}{K:PySem.W.Frag}{mg:Str->Option Value}{base:Heap}{N:List Str}{qual:Str}{scope:Scope}{f:Addr}{cd:Value}{A:Around}{outer:List Env}{s₀:Shared}{H₀:Hp}{E:XK}
end
end L2
namespace L2
open PySem PySem.Spec PyProof.Rows
def SetN (r:Addr) (n:Nat) (h:Heap):Prop:=∃o es ep t,h.get? r=some o/\o.ExactSet/\o.data=.set es ep t/\t.fits es.size=true/\es.size=n
section
variable {X:Cx}
theorem hb_kV {k:Key}{u:Value}(r:RelV (kV k) u):SetT.Hb u:=by
 cases k with
 |inl i=>obtain⟨t,rfl⟩:=r;exact SetT.Hb.int i t
 |inr x=>obtain⟨t,rfl⟩:=r;exact SetT.Hb.str x t
theorem hbs_kV:∀{ks:List Key}{us:List Value},Vals (ks.map kV) us->∀v∈us,SetT.Hb v
 |[],_,.nil,v,hv=>by cases hv
 |k::ks,_,.cons r t,v,hv=>by
  rcases List.mem_cons.mp hv with rfl|hv
  ·exact hb_kV r
  ·exact hbs_kV t v hv
theorem tupK_of {P:Program}{w:World}{H:Hp}{h:Heap}{b:Addr}{ks:List Key}(ok:HOk P w H h) (e:H b=some (.tup (ks.map kV))):SetT.TupK (mixKind P w) h ks b:=by
 obtain⟨_,its,r,o,ho,hc,n,hd⟩:=ok b _ e
 exact⟨o,its.toArray,n,ho,hc,hd,by simpa using items_are r,λv hv=>hbs_kV r v (by simpa using hv)⟩
theorem call_setT (hc:X.calm=true){k:Nat}(hr:Room k X.A):CallR X (.type "set") (λxs H Q=>∃(p:Addr) (bs:List Addr) (rows:List (List Key)),xs=[.ref p]/\H p=some (.tup (bs.map V.ref))/\bs.length=rows.length /\
  (∀(i:Nat) b ks,bs[i]?=some b->rows[i]?=some ks->H b=some (.tup (ks.map kV)))/\rows.Nodup/\rows.length<=1200/\∀r,H r=none->Q (.ref r) (upd H r (.ext (SetN r rows.length)))):=by
 intro pins s σ H xs us Q I rv h
 obtain⟨p,bs,rows,rfl,hp,hlen,hrow,hnd,hsz,q⟩:=h
 obtain⟨u,rfl,ru⟩:=vals1 rv
 cases ru
 obtain⟨_,its,r2,isT⟩:=I.hok p _ hp
 have hl2:its.length=bs.length:=by have:=r2.length;simpa using this.symm
 have un:=hr.units
 have item:∀(i:Nat) (v:Value),its[i]?=some v->∃b,bs[i]?=some b/\v=.ref b:=λi v hv=>by
  have hi:i<bs.length:=by rw[<- hl2];exact (List.getElem?_eq_some_iff.mp hv).1
  obtain⟨w',e1,e2⟩:=r2.get (i:=i) (x:=V.ref bs[i]) (by simp[hi])
  rw[hv] at e1;cases e1
  exact⟨bs[i],by simp[hi],e2⟩
 refine SetT.call_set_tuple (knd:=mixKind X.prog X.w) (items:=its.toArray) (val:=λi=>rows.getD i []) (I.ok.hd hc) (by lia) (show s.heap.IsTuple p its.toArray from isT) (λi v hv=>?_) (λi j hij hj z=>?_) (by rw[List.size_toArray,hl2,hlen];exact hsz) λh' tk fin kp=>?_
 ·obtain⟨b,hb,rfl⟩:=item i v (by simpa using hv)
  have hi:i<rows.length:=by rw[<- hlen];exact (List.getElem?_eq_some_iff.mp hb).1
  have e:rows.getD i []=rows[i]:=by simp[List.getD,hi]
  show ∃b',Value.ref b=.ref b'/\SetT.TupK _ s.heap (rows.getD i []) b'
  rw[e]
  exact⟨b,rfl,tupK_of I.hok (hrow i b rows[i] hb (by simp[hi]))⟩
 ·rw[List.size_toArray,hl2,hlen] at hj
  have z':rows.getD i []=rows.getD j []:=z
  have hi:i<rows.length:=by lia
  have e1:rows.getD i []=rows[i]:=by simp[List.getD,hi]
  have e2:rows.getD j []=rows[j]:=by simp[List.getD,hj]
  rw[e1,e2] at z'
  have:=(List.getElem_inj hnd).mp z'
  lia
 ·obtain⟨Ks,S⟩:=fin
  obtain⟨o,es,ep,t,ho,hex,hd,g,hf,_,hn,_⟩:=S.ex
  have hn':es.size=rows.length:=by rw[hn,List.size_toArray,hl2,hlen]
  refine⟨.ref s.heap.objs.size,_,I.laid (a:=s.heap.objs.size) (o:=.ext (SetN s.heap.objs.size rows.length)) (t':=tk) (λb o e=>kp b o (Heap.lt_size e) e) (Nat.le_refl _) ⟨⟨o,es,ep,t,ho,hex,hd,g.fits,hn'⟩,⟨o,ho⟩,λh1 h2 φ k=>?_⟩,rfl,q _ (I.hok.fresh (Nat.le_refl _))⟩
  obtain⟨o',es',ep',t',ho',r⟩:=φ
  exact⟨o',es',ep',t',k o' ho',r⟩
theorem call_lenSet:CallR X (.builtin "len") (λxs H Q=>∃(r:Addr) (n:Nat),xs=[.ref r]/\H r=some (.ext (SetN r n))/\n<=1200/\Q (.int n) H):=by
 intro pins s σ H xs us Q I rv h
 obtain⟨r,n,rfl,hr,hn,q⟩:=h
 obtain⟨u,rfl,ru⟩:=vals1 rv
 cases ru
 obtain⟨⟨o,es,ep,t,ho,hex,hd,hf,rfl⟩,_⟩:=I.hok r _ hr
 have hb:(es.size:Int)<=1200:=by lia
 exact call_len_set ho hex hd hf (Int.lt_of_le_of_lt hb (by decide)) ⟨.int es.size,H,I.tok _,⟨_,rfl⟩,q⟩
end
end L2
namespace L2
open PySem PySem.Spec PyProof.Rows
mutual
inductive DataAt (H:Hp):V->PyData->Prop
 |non:DataAt H .non .none
 |bl (b:Bool):DataAt H (.bl b) (.bool b)
 |int (i:Int):DataAt H (.int i) (.int i)
 |str (x:Str):DataAt H (.str x) (.str x)
 |lst {a:Addr}{xs:List V}{ds:List PyData}(h:H a=some (.lst xs)) (r:DatasAt H xs ds):DataAt H (.ref a) (.list ds)
 |tup {a:Addr}{xs:List V}{ds:List PyData}(h:H a=some (.tup xs)) (r:DatasAt H xs ds):DataAt H (.ref a) (.tuple ds)
inductive DatasAt (H:Hp):List V->List PyData->Prop
 |nil:DatasAt H [] []
 |cons {x:V}{xs:List V}{d:PyData}{ds:List PyData}(h:DataAt H x d) (r:DatasAt H xs ds):DatasAt H (x::xs) (d::ds)
end
section
variable {P:Program}{w:World}{H:Hp}{h:Heap}
mutual
theorem DataAt.reads (ok:HOk P w H h):∀{x:V}{d:PyData}{u:Value},DataAt H x d->RelV x u->∃as,Reads h u d as
 |_,_,u,.non,r=>⟨[],by cases (show u=Value.none from r);exact .none⟩
 |_,_,u,.bl b,r=>⟨[],by cases (show u=Value.bool b from r);exact .bool b⟩
 |_,_,u,.int i,r=>⟨[],by obtain⟨t,rfl⟩:=r;exact .int i t⟩
 |_,_,u,.str x,r=>⟨[],by obtain⟨t,rfl⟩:=r;exact .str x t⟩
 |_,_,u,.lst (a:=a) e rs,r=>by
  cases (show u=Value.ref a from r)
  obtain⟨_,its,n,rv,ho⟩:=ok a _ e
  obtain⟨as,ra⟩:=DatasAt.reads ok rs rv
  exact⟨a::as,.list ho rfl rfl (by simpa using ra)⟩
 |_,_,u,.tup (a:=a) e rs,r=>by
  cases (show u=Value.ref a from r)
  obtain⟨_,its,rv,o,ho,hc,n,hd⟩:=ok a _ e
  obtain⟨as,ra⟩:=DatasAt.reads ok rs rv
  exact⟨as,.tuple ho hc hd (by simpa using ra)⟩
theorem DatasAt.reads (ok:HOk P w H h):∀{xs:List V}{ds:List PyData}{us:List Value},DatasAt H xs ds->Vals xs us->∃as,ReadsAll h us ds as
 |_,_,_,.nil,.nil=>⟨[],.nil⟩
 |_,_,_,.cons h1 r1,.cons r rr=>by
  obtain⟨as,ra⟩:=DataAt.reads ok h1 r
  obtain⟨bs,rb⟩:=DatasAt.reads ok r1 rr
  exact⟨as++bs,.cons ra rb⟩
end
mutual
theorem DataAt.same {H':Hp}(s:∀b o,H b=some o->H' b=some o):∀{x:V}{d:PyData},DataAt H x d->DataAt H' x d
 |_,_,.non=>.non
 |_,_,.bl b=>.bl b
 |_,_,.int i=>.int i
 |_,_,.str x=>.str x
 |_,_,.lst e r=>.lst (s _ _ e) (DatasAt.same s r)
 |_,_,.tup e r=>.tup (s _ _ e) (DatasAt.same s r)
theorem DatasAt.same {H':Hp}(s:∀b o,H b=some o->H' b=some o):∀{xs:List V}{ds:List PyData},DatasAt H xs ds->DatasAt H' xs ds
 |_,_,.nil=>.nil
 |_,_,.cons h r=>.cons (DataAt.same s h) (DatasAt.same s r)
end
theorem DatasAt.ints:∀(ns:List Int),DatasAt H (ns.map V.int) (ns.map PyData.int)
 |[]=>.nil
 |n::ns=>.cons (.int n) (DatasAt.ints ns)
end
section
variable {X:Cx}
theorem op_eqD {k:Nat}(hr:Room k X.A):OpR X (compareOp .Eq) (λx y H Q=>∃d e,DataAt H x d/\DataAt H y e/\d.canLay0=true/\e.canLay0=true/\d.depth<=60/\Q (.bl (PyData.eqv d e)) H):=by
 intro pins s σ H x y v u Q I rx ry h
 obtain⟨d,e,hd,he,c1,c2,dp,q⟩:=h
 obtain⟨as,ra⟩:=hd.reads I.hok rx
 obtain⟨bs,rb⟩:=he.reads I.hok ry
 have un:=hr.units
 exact SeqAt.rcAt_reads ra rb c1 c2 (by lia) X.prog X.w X.xe _ ⟨.bl _,H,I,rfl,q⟩
theorem op_neD {k:Nat}(hr:Room k X.A):OpR X (compareOp .NotEq) (λx y H Q=>∃d e,DataAt H x d/\DataAt H y e/\d.canLay0=true/\e.canLay0=true/\d.depth<=60/\Q (.bl (!PyData.eqv d e)) H):=by
 intro pins s σ H x y v u Q I rx ry h
 obtain⟨d,e,hd,he,c1,c2,dp,q⟩:=h
 obtain⟨as,ra⟩:=hd.reads I.hok rx
 obtain⟨bs,rb⟩:=he.reads I.hok ry
 have un:=hr.units
 exact SeqAt.rcNeAt_reads ra rb c1 c2 (by lia) X.prog X.w X.xe _ ⟨.bl _,H,I,rfl,q⟩
end
theorem eqvAll_ints:∀(a b:List Int),PyData.eqvAll (a.map PyData.int) (b.map PyData.int)=decide (a=b)
 |[],[]=>by simp[PyData.eqvAll]
 |x::a,[]=>by simp[PyData.eqvAll]
 |[],y::b=>by simp[PyData.eqvAll]
 |x::a,y::b=>by
  show (PyData.eqv (.int x) (.int y)&&PyData.eqvAll (a.map PyData.int) (b.map PyData.int))=_
  rw[eqvAll_ints a b,show PyData.eqv (.int x) (.int y)=(x==y) by simp[PyData.eqv]]
  rw[Bool.eq_iff_iff]
  simp
theorem layAll_ints:∀(a:List Int),PyData.canLayAll0 (a.map PyData.int)=true
 |[]=>by simp[PyData.canLayAll0]
 |x::a=>by
  show (PyData.canLay0 (.int x)&&PyData.canLayAll0 (a.map PyData.int))=true
  rw[layAll_ints a]
  simp[PyData.canLay0]
def dT (ns:List Int):PyData:=.tuple (ns.map PyData.int)
def dL (ns:List Int):PyData:=.list (ns.map PyData.int)
theorem dT_lay (ns:List Int):(dT ns).canLay0=true:=by
 show PyData.canLayAll0 (ns.map PyData.int)=true
 exact layAll_ints ns
theorem dL_lay (ns:List Int):(dL ns).canLay0=true:=by
 show PyData.canLayAll0 (ns.map PyData.int)=true
 exact layAll_ints ns
theorem dT_eqv (a b:List Int):PyData.eqv (dT a) (dT b)=decide (a=b):=by
 show PyData.eqvAll _ _=_
 exact eqvAll_ints a b
theorem dL_eqv (a b:List Int):PyData.eqv (dL a) (dL b)=decide (a=b):=by
 show PyData.eqvAll _ _=_
 exact eqvAll_ints a b
end L2
namespace EnumT
open PySem PySem.Spec
section
variable {prog:Program}{w:World}{A:Around}{E:Value->Shared->Prop}{s:Shared}
theorem inner_item {it t:Addr}{i:Nat}{items:Array Value}{x:Value}{Q:Value->Shared->Prop}(st:s.heap.IsTupleIter it t i) (ht:s.heap.IsTuple t items) (hx:items[i]?=some x)
  (q:∀h',h'.IsTupleIter it t (i+1)->Heap.SameBut it s.heap h'->Q x { s with heap:=h' }):wpAny (model prog w) A (Builtin.SmallTypes.nextOf (.ref it)) Q E s:=by
 obtain⟨o,e1,e2,e3⟩:=id st
 obtain⟨ot,f1,_,nt,f2⟩:=ht
 unfold Builtin.SmallTypes.nextOf
 refine wpAny_bind (wpAny_callSpecial?_slot (name:=Str.ofString "__next__") st.typeIs F.slot_tuple_iterator_next (wpAny_call_entry F.slot_tuple_iterator_next st.typeIs F.entry_tuple_iterator_next ?_ (F.args_tuple_iterator_next_1 _)))
 show wpAny _ _ (field (.ref it) 0 >>= _) _ _ s
 refine wpAny_bind (wpAny_field e1 e3 (x:=.ref t) rfl ?_)
 show wpAny _ _ (if (Value.ref t==Value.none)=true then _ else _) _ _ s
 rw[if_neg (show ¬((Value.ref t==Value.none)=true) from Bool.false_ne_true)]
 show wpAny _ _ (field (.ref it) 1 >>= _) _ _ s
 refine wpAny_bind (wpAny_field e1 e3 (x:=.int i 0) rfl ?_)
 show wpAny _ _ (seqItems? (.ref t) >>= _) _ _ s
 refine wpAny_bind (wpAny_seqItems f1 f2 ?_)
 simp only[Int.toNat_natCast,hx]
 refine wpAny_bind (wpAny_setField e1 e3 (by simp) (wpAny_pure ⟨x,rfl,wpAny_pure (q _ ⟨_,Heap.get?_update_self _ e1 (Obj.isFreed_of_fields (Obj.data_mapFields e3 _)),(Obj.cls_mapFields ..).trans e2,?_⟩ (Heap.SameBut.update ..))⟩))
 rw[Obj.data_mapFields e3];simp[rawInt]
theorem inner_end {it t:Addr}{i:Nat}{items:Array Value}{Q:Value->Shared->Prop}(hh:A.handled=none) (st:s.heap.IsTupleIter it t i) (ht:s.heap.IsTuple t items) (hx:items[i]?=none)
  (q:∀h' e,Heap.ExtBut it s.heap h'->(∃o,h'.get? e=some o/\o.cls=.type "StopIteration")->E (.ref e) { s with heap:=h' }):wpAny (model prog w) A (Builtin.SmallTypes.nextOf (.ref it)) Q E s:=by
 obtain⟨o,e1,e2,e3⟩:=id st
 obtain⟨ot,f1,_,nt,f2⟩:=ht
 unfold Builtin.SmallTypes.nextOf
 refine wpAny_bind (wpAny_callSpecial?_slot (name:=Str.ofString "__next__") st.typeIs F.slot_tuple_iterator_next (wpAny_call_entry F.slot_tuple_iterator_next st.typeIs F.entry_tuple_iterator_next ?_ (F.args_tuple_iterator_next_1 _)))
 show wpAny _ _ (field (.ref it) 0 >>= _) _ _ s
 refine wpAny_bind (wpAny_field e1 e3 (x:=.ref t) rfl ?_)
 show wpAny _ _ (if (Value.ref t==Value.none)=true then _ else _) _ _ s
 rw[if_neg (show ¬((Value.ref t==Value.none)=true) from Bool.false_ne_true)]
 show wpAny _ _ (field (.ref it) 1 >>= _) _ _ s
 refine wpAny_bind (wpAny_field e1 e3 (x:=.int i 0) rfl ?_)
 show wpAny _ _ (seqItems? (.ref t) >>= _) _ _ s
 refine wpAny_bind (wpAny_seqItems f1 f2 ?_)
 simp only[Int.toNat_natCast,hx]
 refine wpAny_bind (wpAny_rule (wpAny_bind (wpAny_setField e1 e3 (by simp) ?_)))
 show wpAny _ _ (newExc (.type "StopIteration") [] >>= _) _ _ _
 refine wpAny_bind ?_
 simp only[newExc,newTuple]
 refine wpAny_bind (wpAny_newObj_type ?_ (by size_fits))
 refine wpAny_bind (m:=firstArgMember _ _) (wpAny_of_eq (a:=Value.none) (by first|rfl|(simp only[firstArgMember];rfl)) ?_)
 refine wpAny_newObj_type ?_ (by size_fits)
 simp only[raiseNew]
 refine wpAny_bind (wpAny_handled ?_)
 first|rw[show A.in1.handled=none from hh]|rw[hh]
 refine wpAny_bind (wpAny_pure (wpAny_throw ?_))
 exact q _ _ (((Heap.SameBut.update ..).extBut.push _).push _) ⟨_,Heap.get?_push_size _ rfl,rfl⟩
theorem pair_next {e it:Addr}{i:Nat}{x old:Value}{St:Heap->Prop}{Q:Value->Shared->Prop}(he:IsEnum s.heap e it i old) (hne:e≠it)
  (nx:∀Q':Value->Shared->Prop,(∀h',Heap.SameBut it s.heap h'->St h'->Q' x { s with heap:=h' })->wpAny (model prog w) A (Builtin.SmallTypes.nextOf (.ref it)) Q' E s)
  (q:∀h1 h',Heap.SameBut it s.heap h1->St h1->IsEnumOut h' e it ((i:Int)+1) x s.heap.objs.size->h'.get? s.heap.objs.size=some { cls:=.type "tuple",data:=.seq #[.int i s.toks,x] } ->
   (∀b o,b≠e->h1.get? b=some o->h'.get? b=some o)->Q (.ref s.heap.objs.size) { s with heap:=h',toks:=s.toks+1 }) :
  wpAny (model prog w) A (Builtin.«enumerate.__next__» ⟨[.ref e],[]⟩) (λfin s'=>∃v,fin=.done (.ret v)/\Q v s') E s:=by
 obtain⟨hp,g,d,tk,os⟩:=s
 show wpAny _ _ (field (.ref e) 2 >>= _) _ _ _
 refine wpAny_bind (wpAny_field he rfl (x:=.ref it) rfl ?_)
 refine wpAny_bind (nx _ λh₁ s1 st1=>?_)
 replace s1:Heap.SameBut it hp h₁:=s1
 have he₁:IsEnum h₁ e it i old:=(s1.2 e hne).trans he
 show wpAny _ _ (field (.ref e) 3 >>= _) _ _ ⟨h₁,g,d,tk,os⟩
 refine wpAny_bind (wpAny_field he₁ rfl (x:=rawInt i) rfl ?_)
 show wpAny _ _ (field (.ref e) 4 >>= _) _ _ ⟨h₁,g,d,tk,os⟩
 refine wpAny_bind (wpAny_field he₁ rfl (x:=.none) rfl ?_)
 show wpAny _ _ (mkInt i >>= _) _ _ ⟨h₁,g,d,tk,os⟩
 refine wpAny_bind (wpAny_mkInt ?_)
 show wpAny _ _ (setField (.ref e) 3 (rawInt ((i:Int)+1)) >>= _) _ _ ⟨h₁,g,d,tk+1,os⟩
 refine wpAny_bind (wpAny_setField_rec he₁ (by simp) λh₂ he₂ s2=>?_)
 replace s2:Heap.SameBut e h₁ h₂:=s2
 replace he₂:IsEnum h₂ e it ((i:Int)+1) old:=he₂
 show wpAny _ _ (setField (.ref e) 4 .none >>= _) _ _ ⟨h₂,g,d,tk+1,os⟩
 refine wpAny_bind (wpAny_setField_rec he₂ (by simp) λh₃ he₃ s3=>?_)
 replace s3:Heap.SameBut e h₂ h₃:=s3
 replace he₃:IsEnum h₃ e it ((i:Int)+1) old:=he₃
 show wpAny _ _ (newTuple [.int i tk,x] >>= _) _ _ ⟨h₃,g,d,tk+1,os⟩
 refine wpAny_bind (wpAny_newTuple ?_)
 have z3:h₃.objs.size=hp.objs.size:=by rw[s3.1,s2.1,s1.1]
 have elt:e<hp.objs.size:=Heap.lt_size he
 obtain⟨h₄,e4⟩:∃h₄,h₃.push { cls:=.type "tuple",data:=.seq #[.int i tk,x] }=h₄:=⟨_,rfl⟩
 have he₄:IsEnum h₄ e it ((i:Int)+1) old:=by rw[<- e4];exact Heap.get?_push_of_some _ he₃
 have ht₄:h₄.get? hp.objs.size=some { cls:=.type "tuple",data:=.seq #[.int i tk,x] }:=by rw[<- e4,<- z3];exact Heap.get?_push_size _ rfl
 have k4:∀b o,b≠e->h₁.get? b=some o->h₄.get? b=some o:=λb o hb eb=>by
  rw[<- e4];exact Heap.get?_push_of_some _ (s3.extBut b o hb (s2.extBut b o hb eb))
 rw[e4]
 show wpAny _ _ (Builtin.SmallTypes.ownedTupleIsFree (.ref e) >>= _) _ _ ⟨h₄,g,d,tk+1,os⟩
 rw[z3]
 refine wpAny_bind ?_
 unfold Builtin.SmallTypes.ownedTupleIsFree
 refine wpAny_bind (wpAny_field he₄ rfl (x:=.none) rfl (wpAny_pure ?_))
 simp only[if_true]
 refine wpAny_bind (wpAny_rule ?_)
 refine wpAny_bind (wpAny_field he₄ rfl (x:=old) rfl ?_)
 refine wpAny_bind (wpAny_setField_rec he₄ (by simp) λh₅ he₅ s5=>?_)
 replace s5:Heap.SameBut e h₄ h₅:=s5
 replace he₅:IsEnum h₅ e it ((i:Int)+1) x:=he₅
 show wpAny _ _ (Builtin.SmallTypes.ownedTupleHandOut (.ref e) (.ref hp.objs.size) >>= _) _ _ ⟨h₅,g,d,tk+1,os⟩
 refine wpAny_bind ?_
 unfold Builtin.SmallTypes.ownedTupleHandOut
 refine wpAny_bind (wpAny_setField_rec he₅ (by simp) λh₆ he₆ s6=>?_)
 replace s6:Heap.SameBut e h₅ h₆:=s6
 replace he₆:IsEnumOut h₆ e it ((i:Int)+1) x hp.objs.size:=he₆
 refine wpAny_setField_rec he₆ (by simp) λh₇ he₇ s7=>?_
 replace s7:Heap.SameBut e h₆ h₇:=s7
 replace he₇:IsEnumOut h₇ e it ((i:Int)+1) x hp.objs.size:=he₇
 have k7:∀b o,b≠e->h₄.get? b=some o->h₇.get? b=some o:=λb o hb eb=>s7.extBut b o hb (s6.extBut b o hb (s5.extBut b o hb eb))
 exact wpAny_bind (wpAny_letGo (wpAny_pure ⟨_,rfl,q h₁ h₇ s1 st1 he₇ (k7 _ _ (Nat.ne_of_gt elt) ht₄) λb o hb eb=>k7 b o hb (k4 b o hb eb)⟩))
theorem next_pair {e it t:Addr}{i:Nat}{items:Array Value}{x old:Value}{Q:Option Value->Shared->Prop}(he:IsEnum s.heap e it i old) (hne:e≠it) (st:s.heap.IsTupleIter it t i) (ht:s.heap.IsTuple t items) (hx:items[i]?=some x)
  (q:∀h1 h',Heap.SameBut it s.heap h1->IsEnumOut h' e it ((i:Int)+1) x s.heap.objs.size->h'.IsTupleIter it t (i+1)->h'.get? s.heap.objs.size=some { cls:=.type "tuple",data:=.seq #[.int i s.toks,x] } ->
   (∀b o,b≠e->h1.get? b=some o->h'.get? b=some o)->Q (some (.ref s.heap.objs.size)) { s with heap:=h',toks:=s.toks+1 }):wpAny (model prog w) A (pyNext (.ref e)) Q E s:=by
 have hT:s.TypeIs (.ref e) "enumerate":=⟨_,he,rfl⟩
 unfold pyNext
 refine wpAny_bind (wpAny_attempt (wpAny_callSpecial?_slot (name:=Str.ofString "__next__") hT F.slot_enumerate_next (wpAny_call_entry F.slot_enumerate_next hT F.entry_enumerate_next
  (pair_next (St:=λh=>h.IsTupleIter it t (i+1)) he hne (λQ' q'=>inner_item st ht hx λh' st' sb=>q' h' sb st') λh1 h' sb st1 ho hT' kp=>wpAny_pure (q h1 h' sb ho ?_ hT' kp)) (F.args_enumerate_next_1 _))))
 obtain⟨o,x1,x2⟩:=st1
 exact⟨o,kp it o (Ne.symm hne) x1,x2⟩
theorem next_end {e it t:Addr}{i:Nat}{items:Array Value}{old:Value}{Q:Option Value->Shared->Prop}(hh:A.handled=none) (he:IsEnum s.heap e it i old) (st:s.heap.IsTupleIter it t i) (ht:s.heap.IsTuple t items) (hx:items[i]?=none)
  (q:∀h',Heap.ExtBut it s.heap h'->Q none { s with heap:=h' }):wpAny (model prog w) A (pyNext (.ref e)) Q E s:=by
 have hT:s.TypeIs (.ref e) "enumerate":=⟨_,he,rfl⟩
 unfold pyNext
 refine wpAny_bind (wpAny_attempt (wpAny_callSpecial?_slot (name:=Str.ofString "__next__") hT F.slot_enumerate_next (wpAny_call_entry F.slot_enumerate_next hT F.entry_enumerate_next ?_ (F.args_enumerate_next_1 _))))
 show wpAny _ _ (field (.ref e) 2 >>= _) _ _ _
 refine wpAny_bind (wpAny_field he rfl (x:=.ref it) rfl ?_)
 refine wpAny_bind (inner_end hh st ht hx λh' x eb ⟨o,ho,hc⟩=>?_)
 exact wpAny_bind (wpAny_isInstance (T:= "StopIteration") (b:=true) ⟨o,ho,hc⟩ isSubtype_stop (wpAny_pure (q _ eb)))
theorem meets_new (l:Addr) (items:Array Value) (n:Nat) (dct:Option Addr) (sl:Array (Option Value)) :
  Meets (Builtin.«enumerate.__new__» ⟨[.type "enumerate",.ref l],[]⟩) (λ_ R s=>s.heap.get? l=some { cls:=.type "tuple",dict:=dct,data:=.seq items n,slots:=sl } /\
   R (.ok (.ret (.ref (s.heap.push { cls:=.type "tuple_iterator",data:=.fields #[.ref l,.int 0 0] }).objs.size)))
    { s with heap:=(s.heap.push { cls:=.type "tuple_iterator",data:=.fields #[.ref l,.int 0 0] }).push { cls:=.type "enumerate",data:=.fields #[.none,.bool false,.ref s.heap.objs.size,rawInt 0,.none,.none] } }):=
 .of_wp λprog w A R s h=>by
  obtain⟨hp,g,d,tk,os⟩:=s;obtain⟨hl,h⟩:=h
  have f0:=sub_enumerate
  have hL:Heap.IsTuple (Shared.heap ⟨hp,g,d,tk,os⟩) l items:=⟨_,hl,rfl,n,rfl⟩
  wp_walk using AutoSeq1.wpAny_loadPart' hl
  refine wpAny_stack_any λst=>wpAny_pure ?_
  split
  ·rename_i c _ _ _ _ _
   cases (c==Value.type "enumerate")
   all_goals
    wp_walk using AutoSeq1.wpAny_loadPart' hl,wpAny_pyIter_tuple hL
    exact⟨_,rfl,h⟩
  ·wp_walk using AutoSeq1.wpAny_loadPart' hl,wpAny_pyIter_tuple hL
   exact⟨_,rfl,h⟩
theorem call_new {l:Addr}{items:Array Value}{Q:Value->Shared->Prop}(hL:s.heap.IsTuple l items)
  (q:∀h',IsEnum h' (s.heap.objs.size+1) s.heap.objs.size 0 .none->h'.IsTupleIter s.heap.objs.size l 0->(∀b o,s.heap.get? b=some o->h'.get? b=some o)->Q (.ref (s.heap.objs.size+1)) { s with heap:=h' }) :
  wpAny (model prog w) A (call (.type "enumerate") [.ref l]) Q E s:=by
 obtain⟨⟨c,dct,dt,sl⟩,hl,hc,n,hd⟩:=hL
 replace hc:c=.type "tuple":=hc
 replace hd:dt=.seq items n:=hd
 subst hc hd
 refine callType_new F.called_enumerate (by decide) (F.typeCall_enumerate_1 _) (F.newCall_enumerate_1 _) (λobj=>F.args_object_init_2 obj _) F.entry_enumerate_new (meets_new l items n dct sl) ⟨hl,?_⟩
 have z1:(s.heap.push { cls:=.type "tuple_iterator",data:=.fields #[.ref l,.int 0 0] }).objs.size=s.heap.objs.size+1:=Heap.size_push ..
 show _/\_
 rw[z1]
 have he:=Heap.get?_push_size (s.heap.push { cls:=.type "tuple_iterator",data:=.fields #[.ref l,.int 0 0] }) (o:={ cls:=.type "enumerate",data:=.fields #[.none,.bool false,.ref s.heap.objs.size,rawInt 0,.none,.none] }) rfl
 rw[z1] at he
 exact⟨⟨_,he,rfl⟩,q _ he ⟨_,Heap.get?_push_of_some _ (Heap.get?_push_size _ rfl),rfl,rfl⟩ λb o x=>Heap.get?_push_of_some _ (Heap.get?_push_of_some _ x)⟩
end
end EnumT
namespace L2
open PySem PySem.Spec PyProof.Rows
def Ite (K:PySem.W.Frag) (a:Addr):It:=
 ⟨λi H=>∃xs x,SqT K H a xs/\xs[i]?=some x,λi H y H'=>∃p x,H p=none/\(∀xs,SqT K H a xs->xs[i]?=some x)/\H'=upd H p (.tup [.int i,x])/\y=.ref p,λi H=>∃xs,SqT K H a xs/\xs.length<=i⟩
theorem push_lt {h:Heap}{o o':Obj}{b:Addr}(e:(h.push o).get? b=some o') (hlt:b<h.objs.size):h.get? b=some o':=by
 unfold Heap.get? Heap.push at *
 simp only[Array.getElem?_push] at e
 rw[if_neg (Nat.ne_of_lt hlt)] at e
 exact e
theorem turn_enumT {P:Program}{w:World}{K:PySem.W.Frag}{elts:List Expr}{x1:Nat}{tpos:Pos}(a e it:Addr) (hne:e≠it) :
  Turn P w K (.Tuple elts x1 tpos) (Ite K a) [e,it] e (λi h=>(∃old,IsEnum h e it i old)/\h.IsTupleIter it a i) where
 mem:=by simp
 obj:=λi h st b hb=>by
  rcases List.mem_cons.mp hb with rfl|hb
  ·obtain⟨⟨old,z⟩,_⟩:=st
   exact⟨_,z,λv q=>by
    have q':Data.fields _=Data.cell v:=q
    cases q'⟩
  ·have:b=it:=by simpa using hb
   subst this
   obtain⟨_,o,z,_,d⟩:=st
   exact⟨o,z,λv q=>by rw[d] at q;cases q⟩
 keep:=λi h h' st k=>by
  obtain⟨⟨old,z⟩,st2⟩:=st
  exact⟨⟨old,k e (by simp) _ z⟩,st2.at λo q=>k it (by simp) o q⟩
 item:=by
  intro X hP hw hK hc i pins s σ H E I hf st hg
  subst hP hw hK
  obtain⟨⟨old,he⟩,st2⟩:=st
  obtain⟨xs,x,hq,hx⟩:=hg
  obtain⟨its,rv,p,hz⟩:=I.tuple hq
  obtain⟨u,hu,ru⟩:=rv.get hx
  obtain⟨e0,e1,e2,e3,e4,e5⟩:=hf e (by simp)
  obtain⟨f0,f1,f2,f3,f4,f5⟩:=hf it (by simp)
  refine EnumT.next_pair he hne st2 (show s.heap.IsTuple a its.toArray from p) (x:=u) (by simpa using hu) λh1 h' sb ho st3 ht kp=>?_
  refine⟨_,rfl,wpAny_letOwnedTupleGo_enum ho λh2 he2 sb2=>?_⟩
  have elt:e<s.heap.objs.size:=Heap.lt_size he
  have ilt:it<s.heap.objs.size:=by obtain⟨o,z,_⟩:=st2;exact Heap.lt_size z
  have fresh:H s.heap.objs.size=none:=I.hok.fresh (Nat.le_refl _)
  have z1:h1.objs.size=s.heap.objs.size:=sb.1
  have J0:Inv X pins σ (upd H s.heap.objs.size (.tup [.int i,x])) { s with heap:=s.heap.push { cls:=.type "tuple",data:=.seq #[.int i s.toks,u] },toks:=s.toks+1 }:=
   I.laid (λb o q=>Heap.get?_push_of_some _ q) (Nat.le_refl _) ⟨by show 2<=sizeLine;decide,[.int i s.toks,u],.cons ⟨_,rfl⟩ (.cons ru .nil),_,Heap.get?_push_size _ rfl,rfl,⟨_,rfl⟩,rfl⟩
  have ne1:(upd H s.heap.objs.size (.tup [.int i,x])) it=none:=by rw[upd_ne (Nat.ne_of_lt ilt)];exact f0
  have ne2:(upd H s.heap.objs.size (.tup [.int i,x])) e=none:=by rw[upd_ne (Nat.ne_of_lt elt)];exact e0
  have J1:=J0.turned (it:=it) (h':=h1.push { cls:=.type "tuple",data:=.seq #[.int i s.toks,u] }) (t':=s.toks+1) (λb o hb q=>by
    have q:(s.heap.push { cls:=.type "tuple",data:=.seq #[.int i s.toks,u] }).get? b=some o:=q
    by_cases hlt:b<s.heap.objs.size
    ·have q':s.heap.get? b=some o:=push_lt q hlt
     exact Heap.get?_push_of_some _ ((sb.2 b hb).trans q')
    ·have hb2:b<s.heap.objs.size+1:=by have:=Heap.lt_size q;rw[Heap.size_push] at this;exact this
     have eb:b=s.heap.objs.size:=Nat.le_antisymm (Nat.le_of_lt_succ hb2) (Nat.le_of_not_lt hlt)
     subst eb
     rw[Heap.get?_push_size _ rfl] at q
     cases q
     have:=Heap.get?_push_size h1 (o:={ cls:=.type "tuple",data:=.seq #[.int i s.toks,u] }) rfl
     rw[z1] at this
     exact this) ne1 f1 f3 f4 f5
  have J2:=J1.turned (it:=e) (h':=h') (t':=s.toks+1) (λb o hb q=>by
    have q:(h1.push { cls:=.type "tuple",data:=.seq #[.int i s.toks,u] }).get? b=some o:=q
    by_cases hlt:b<s.heap.objs.size
    ·have q':h1.get? b=some o:=push_lt q (by rw[z1];exact hlt)
     exact kp b o hb q'
    ·have hb2:b<s.heap.objs.size+1:=by have:=Heap.lt_size q;rw[Heap.size_push,z1] at this;exact this
     have eb:b=s.heap.objs.size:=Nat.le_antisymm (Nat.le_of_lt_succ hb2) (Nat.le_of_not_lt hlt)
     subst eb
     have:=Heap.get?_push_size h1 (o:={ cls:=.type "tuple",data:=.seq #[.int i s.toks,u] }) rfl
     rw[z1] at this
     rw[this] at q
     cases q
     exact ht) ne2 e1 e3 e4 e5
  have J3:=J2.turned (it:=e) (h':=h2) (t':=s.toks+1) (λb o hb q=>(sb2.2 b hb).trans q) ne2 e1 e3 e4 e5
  refine⟨.ref s.heap.objs.size,_,J3,rfl,⟨_,x,fresh,λys hy=>by rw[I.tuple_inj hy hq];exact hx,rfl,rfl⟩,⟨⟨u,by
   have:(((i+1:Nat)):Int)=(i:Int)+1:=by lia
   rw[this];exact he2⟩,st3.at λo q=>(sb2.2 it (Ne.symm hne)).trans q⟩,λb hb=>?_⟩
  rcases List.mem_cons.mp hb with rfl|hb
  ·exact ne2
  ·have:b=it:=by simpa using hb
   subst this
   exact ne1
 done:=by
  intro X hP hw hK hc i pins s σ H E I hf st hg
  subst hP hw hK
  obtain⟨⟨old,he⟩,st2⟩:=st
  obtain⟨xs,hq,hx⟩:=hg
  obtain⟨its,rv,p,hz⟩:=I.tuple hq
  obtain⟨f0,f1,f2,f3,f4,f5⟩:=hf it (by simp)
  have hl:=rv.length
  exact EnumT.next_end (I.ok.hd hc) he st2 (show s.heap.IsTuple a its.toArray from p) (by simp;lia) λh' eb=>⟨rfl,I.turned (t':=s.toks) (λb o hb e=>eb b o hb e) f0 f1 f3 f4 f5⟩
 self:=λ_ _ _ _ _ st h=>by
  obtain⟨⟨old,he⟩,_⟩:=st
  exact wpAny_pyIter_enum he h
section
variable {X:Cx}{elts:List Expr}{x1:Nat}{tpos:Pos}
def iEnumT (K:PySem.W.Frag) (ta:TA):TI:=λσ H R=>ta σ H λvs H1=>∃a,vs=[.ref a]/\(∃xs,SqT K H1 a xs)/\R (Ite K a) H1
theorem pi_enumT {e:Expr}{ta:TA}{p pos:Pos}(hg:Gl X "enumerate") (hm:X.mg "enumerate" = none) (ha:PA X [e] ta) (hs:starEach [e] X.env=[(false,eval e X.env)]:=by rfl):PI X (.Tuple elts x1 tpos) (.Call (.Name "enumerate" p) [e] [] pos) (iEnumT X.K ta):=by
 intro pins s σ H R I h
 refine Call_ (ld_blt I hg hm PyProof.Rows.boot_enumerate (PyProof.Rows.callWith_type1 (thn (ha pos pins s σ H _ I h) λus s1 ⟨vs,H1,I1,r1,q1⟩=>?_) hs rfl))
 obtain⟨a,rfl,⟨xs,hq⟩,q⟩:=q1
 obtain⟨u,rfl,ru⟩:=vals1 r1
 cases ru
 obtain⟨its,rv,pt,hz⟩:=I1.tuple hq
 refine EnumT.call_new (show s1.heap.IsTuple a its.toArray from pt) λh' he st kp=>?_
 refine wpAny_pyIter_enum he ?_
 have J:Inv X pins σ H1 { s1 with heap:=h' }:=I1.kept (t':=s1.toks) kp
 refine⟨s1.heap.objs.size+1,[s1.heap.objs.size+1,s1.heap.objs.size],_,_,H1,rfl,J,turn_enumT a _ _ (Nat.succ_ne_self _),⟨⟨.none,he⟩,st⟩,λb hb=>?_,q⟩
 rcases List.mem_cons.mp hb with rfl|hb
 ·exact I1.fpOk (Nat.le_succ _) (I1.hok.fresh (Nat.le_succ _))
 ·have:b=s1.heap.objs.size:=by simpa using hb
  subst this
  exact I1.fpOk (Nat.le_refl _) (I1.hok.fresh (Nat.le_refl _))
end
end L2
namespace L2
open PySem PySem.Spec PyProof.Rows
section
variable {X:Cx}
def compCxG (X:Cx) (scope:Scope) (cl:List (Str×Addr)) (C:Addr) (ns:List Str) (fp:List Addr) (s₀:Shared) (H₀:Hp):Cx:=
 { X with N:=ns++X.N,s₀:=s₀,H₀:=H₀,env:=compEnvC scope cl C X.env,outer:=X.stack,stack:=X.stack,ex:=fp,fn:=λ_=>false,pn:=[],xe:=λ_ _=>False }
def tCompG (n:Nat) (wi:TI) (g:TG) (tt:TT) (te:TE):TE:=λσ H Q=>wi σ H λJ H1=>∀D,H1 D=none->∃W:Nat->Nat->List V->Hp->Prop,(∃m,W 0 m [] (upd H1 D (.lst []))) /\
 ∀i m xs H2,W i m xs H2->H2 D=some (.lst xs)/\xs.length<sizeLine/\((J.stop i H2/\Q (.ref D) H2)\/(J.go i H2/\∀y H3,J.yld i H2 y H3->∀os:St,os.length=n ->
  g y (os++σ) H3 λσ4 H4=>tt σ4 H4 λb H5=>if b=true then te σ4 H5 λv H6=>H6 D=some (.lst xs)/\∃m',m'<m/\W (i+1) m' (xs++[v]) (upd H6 D (.lst (xs++[v]))) else ∃m',m'<m/\W (i+1) m' xs H5))
theorem compLoopG {prog:Program}{w:World}{A:Around}{R:Result->Shared->Prop}{s:Shared}{elt target iter:Expr}{ifs:List Expr}{scope:Scope}{pos:Pos}{it acc:Value}{env:Env}(T:Sem Bool)
  (hT:compTurn (.ListComp elt [⟨target,iter,ifs,0⟩] scope pos) 0 it acc env=(standAt iter.pos >>= λ_=>pyNext it >>= λr=>match r with
   |none=>pure (.done .next)
   |some v=>letOwnedTupleGo target it v >>= λ_=>assign target env v >>= λ_=>T >>= λok=>(if ok=true then (eval elt env >>= λx=>call (.builtin "list.append") [acc,x] >>= λ_=>pure ()) else pure ()) >>= λ_=>
     again (.compLoop (.ListComp elt [⟨target,iter,ifs,0⟩] scope pos) 0 it acc env)))
  (I:Nat->Shared->Prop)
  (turn:∀n s,I n s->wpAny (model prog w) A (pyNext it) (λr s₁=>match r with
   |none=>R (.ok .next) s₁
   |some v=>wpAny (model prog w) A (letOwnedTupleGo target it v) (λ_ s₁'=>wpAny (model prog w) A (assign target env v) (λ_ s₂=>wpAny (model prog w) A T (λok s₃=>
     if ok=true then wpAny (model prog w) A (eval elt env) (λx s₄=>wpAny (model prog w) A (call (.builtin "list.append") [acc,x]) (λ_ s₅=>∃m,m<n/\I m s₅) (λ_ _=>False) s₄) (λ_ _=>False) s₃
     else ∃m,m<n/\I m s₃) (λ_ _=>False) s₂) (λ_ _=>False) s₁') (λ_ _=>False) s₁) (λ_ _=>False) s)
  (n:Nat) (h:I n s):codeAny (model prog w) A (.compLoop (.ListComp elt [⟨target,iter,ifs,0⟩] scope pos) 0 it acc env) R s:=by
 refine codeAny_loop rfl I (λn s hI=>?_) n h
 show wpAny _ A ((compTurn (.ListComp elt [⟨target,iter,ifs,0⟩] scope pos) 0 it acc env).onRaise (λx=>do noteFrame x env;theTreesLotGoes x)) _ _ s
 refine wpAny_noted ?_
 rw[hT]
 refine wpAny_bind (wpAny_standAt (wpAny_bind (wpAny_mono (turn n s hI) (λr s₁ h₁=>?_) λ_ _ h'=>h'.elim)))
 cases r with
 |none=>exact wpAny_pure h₁
 |some v=>
  refine wpAny_bind (wpAny_mono h₁ (λ_ s₁' h₁'=>?_) λ_ _ h'=>h'.elim)
  refine wpAny_bind (wpAny_mono h₁' (λ_ s₂ h₂=>wpAny_bind (wpAny_mono h₂ (λok s₃ h₃=>?_) λ_ _ h'=>h'.elim)) λ_ _ h'=>h'.elim)
  cases ok with
  |true=>
   rw[if_pos rfl] at h₃
   simp only[if_true]
   exact wpAny_bind (wpAny_bind (wpAny_mono h₃ (λx s₄ h₄=>wpAny_bind (wpAny_mono h₄ (λ_ s₅ h₅=>wpAny_pure (wpAny_pure ⟨rfl,h₅⟩)) λ_ _ h'=>h'.elim)) λ_ _ h'=>h'.elim))
  |false=>
   rw[if_neg Bool.false_ne_true] at h₃
   simp only[Bool.false_eq_true,if_false]
   exact wpAny_bind (wpAny_pure (wpAny_pure ⟨rfl,h₃⟩))
theorem turn_no (elt target iter:Expr) (scope:Scope) (pos:Pos) (it acc:Value) (env:Env):compTurn (.ListComp elt [⟨target,iter,[],0⟩] scope pos) 0 it acc env=(standAt iter.pos >>= λ_=>pyNext it >>= λr=>match r with
   |none=>pure (.done .next)
   |some v=>letOwnedTupleGo target it v >>= λ_=>assign target env v >>= λ_=>(pure true:Sem Bool) >>= λok=>(if ok=true then (eval elt env >>= λx=>call (.builtin "list.append") [acc,x] >>= λ_=>pure ()) else pure ()) >>= λ_=>
     again (.compLoop (.ListComp elt [⟨target,iter,[],0⟩] scope pos) 0 it acc env)):=by
 rw[compTurn_list1]
 congr 1
theorem turn_one (elt target iter c:Expr) (scope:Scope) (pos:Pos) (it acc:Value) (env:Env):compTurn (.ListComp elt [⟨target,iter,[c],0⟩] scope pos) 0 it acc env=(standAt iter.pos >>= λ_=>pyNext it >>= λr=>match r with
   |none=>pure (.done .next)
   |some v=>letOwnedTupleGo target it v >>= λ_=>assign target env v >>= λ_=>isTrue c env (eval c env) >>= λok=>(if ok=true then (eval elt env >>= λx=>call (.builtin "list.append") [acc,x] >>= λ_=>pure ()) else pure ()) >>= λ_=>
     again (.compLoop (.ListComp elt [⟨target,iter,[c],0⟩] scope pos) 0 it acc env)):=by
 rw[compTurn_list]
 refine bind_congr λ_=>bind_congr λr=>?_
 cases r with
 |none=>rfl
 |some v=>
  refine bind_congr λ_=>bind_congr λ_=>?_
  simp only[List.forIn_cons,List.forIn_nil,if_true,bind_assoc,pure_bind]
  refine bind_congr λok=>?_
  cases ok<;>simp
theorem compG_start {pins:List (Addr×Obj)}{σ:St}{H:Hp}{s:Shared}{h':Heap}{tk:Nat}{scope:Scope}{cl:List (Str×Addr)}{C:Addr}{nn:List Str}{fp:List Addr}{m:Str->Option Value}
  (I:Inv X pins σ H s) (hC:C=s.heap.objs.size) (keep:∀b o,s.heap.get? b=some o->h'.get? b=some o) (ns:h'.Ns C m) (hfp:∀b∈fp,FpOk X pins H b) (hfs:∀b∈fp,b<s.heap.objs.size)
  (hkind:scope.kind=.function) (hcell:∀y∈scope.names,y.2≠.cell) (hloc:∀y∈X.N,scope.names.lookup y≠some .local)
  (hcl1:∀y c,cl.lookup y=some c->X.env.cells.lookup y=some c) (hcl2:∀p∈scope.names,p.2=.free->(cl.lookup p.1).isSome=true)
  (hfr:∀p∈scope.names,p.2=.free->Vis X.env.scope p.1/\X.env.scope.names.lookup p.1≠some .local) :
  Inv (compCxG X scope cl C nn fp s H) [] ((nn.map λ_=>none)++σ) H { s with heap:=h',toks:=tk }:=by
 have cells:∀y c,cl.lookup y=some c->∃v,s.heap.IsCell c v:=λy c e=>I.cell y c (hcl1 y c e)
 have celllt:∀y c,cl.lookup y=some c->c<s.heap.objs.size:=λy c e=>by
  obtain⟨v,q⟩:=cells y c e
  exact q.lt
 have cellk:∀c v,s.heap.IsCell c v->h'.IsCell c v:=λc v ⟨o,e,d⟩=>⟨o,keep c o e,d⟩
 have stkl:∀b∈frs X.stack,∃o,s.heap.get? b=some o:=λb hb=>by
  rcases List.mem_cons.mp (I.stkSub b hb) with e|hb
  ·obtain⟨_,⟨o,_,_,ho,_⟩,_⟩:=I.loc
   exact⟨o,by rw[e];exact ho⟩
  ·obtain⟨_,o,ho,_⟩:=I.funs.mem hb
   exact⟨o,ho⟩
 refine⟨⟨I.ok.mod,hkind,I.ok.glob,I.ok.blt,Nat.le_of_eq hC.symm,λy z c h1 h2=>I.ok.inj y z c (hcl1 y c h1) (hcl1 z c h2),λy hy=>?_,λy c h _=>Bool.noConfusion h,I.ok.hd,I.ok.frames,.inl rfl,λb hb=>⟨?_,λy c e z=>?_⟩,I.bs,
  Nat.le_trans I.ok.bsz I.sz,λb o e hb=>?_,λb hb hf=>?_,I.stack,I.stkFree⟩,rfl,I.bare,Un.kept keep,⟨m,ns,λi y v h1 h2 h3=>?_⟩,λy c e=>?_,?_,λy c e=>?_,λp hp=>absurd hp (by simp[compCxG]),I.hok.kept keep,?_⟩
 ·
  have hy:(relabel scope X.env).names.lookup y=some .cell\/(relabel scope X.env).names.lookup y=some .free:=hy
  obtain⟨p,hp,e1,e2⟩:∃p∈scope.names,p.1=y/\p.2=.free:=by
   rcases hy with hy|hy
   ·exact relabel_vis hy hcell (.inl rfl)
   ·exact relabel_vis hy hcell (.inr rfl)
  obtain⟨c,e⟩:=Option.isSome_iff_exists.mp (hcl2 p hp e2)
  exact⟨c,by rw[<- e1];exact e⟩
 ·show b≠C
  rw[hC];exact Nat.ne_of_lt (hfs b hb)
 ·exact (hfp b hb).2.2.2.2.1 y c (hcl1 y c e) z
 ·rcases (hfp b hb).2.2.2.1 with z|z
  ·exact I.ok.noex b o e z
  ·exact absurd (Nat.lt_of_lt_of_le (Heap.lt_size (I.ok.bs b o e).1) z) (Nat.lt_irrefl _)
 ·rcases List.mem_cons.mp (I.stkSub b hf) with z|z
  ·exact (hfp b hb).2.1 z
  ·exact (hfp b hb).2.2.1 z
 ·
  by_cases hin:i<nn.length
  ·rw[List.getElem?_append_left (by simpa using hin)] at h2
   simp at h2
  ·obtain⟨j,rfl⟩:∃j,i=nn.length+j:=⟨i-nn.length,by lia⟩
   have h1:X.N[j]?=some y:=by
    have h1:(nn++X.N)[nn.length+j]?=some y:=h1
    rw[List.getElem?_append_right (Nat.le_add_right _ _),Nat.add_sub_cancel_left] at h1
    exact h1
   have h2:σ[j]?=some (some v):=by
    rw[List.getElem?_append_right (by simp)] at h2
    simpa using h2
   have h3:(relabel scope X.env).names.lookup y=some .local\/(relabel scope X.env).names.lookup y=some .cell\/(relabel scope X.env).names.lookup y=some .free:=h3
   rcases h3 with h3|h3
   ·exact absurd (relabel_local h3) (hloc y (List.mem_of_getElem? h1))
   ·obtain⟨p,hp,e1,e2⟩:∃p∈scope.names,p.1=y/\p.2=.free:=by
     rcases h3 with h3|h3
     ·exact relabel_vis h3 hcell (.inl rfl)
     ·exact relabel_vis h3 hcell (.inr rfl)
    obtain⟨hv,hnl⟩:=hfr p hp e2
    rw[e1] at hv hnl
    obtain⟨m0,_,hl0⟩:=I.loc
    obtain⟨u,ru,lk⟩:=hl0 j y v h1 h2 hv
    rcases lk with ⟨lk,_⟩|⟨_,c,hc,hcv⟩
    ·exact absurd lk hnl
    ·obtain⟨c',e'⟩:=Option.isSome_iff_exists.mp (hcl2 p hp e2)
     rw[e1] at e'
     have:=hcl1 y c' e'
     rw[hc] at this
     cases this
     refine⟨u,ru,.inr ⟨h3,c,e',cellk c _ hcv⟩⟩
 ·obtain⟨v,q⟩:=cells y c e
  exact⟨v,cellk c v q⟩
 ·show H C=none
  exact I.hok.fresh (Nat.le_of_eq hC.symm)
 ·exact I.freeC y c (hcl1 y c e)
 ·show ((nn.map λ_=>none)++σ).length=(nn++X.N).length
  simp[I.len]
theorem compG_end {pins:List (Addr×Obj)}{σ σ':St}{H H':Hp}{s s':Shared}{h':Heap}{scope:Scope}{cl:List (Str×Addr)}{C:Addr}{nn:List Str}{fp:List Addr}
  (I:Inv X pins σ H s) (hC:C=s.heap.objs.size) (hfp:∀b∈fp,FpOk X pins H b) (J:Inv (compCxG X scope cl C nn fp s H) [] σ' H' s') (sb:Heap.SameBut C s'.heap h'):Inv X pins σ H' { s' with heap:=h' }:=by
 have ne:∀b o,s.heap.get? b=some o->b≠C:=λb o e=>by rw[hC];exact Nat.ne_of_lt (Heap.lt_size e)
 have B:Un (frs X.stack) fp H H' s.heap s'.heap:=J.base
 have U:Un (frs X.stack) fp H H' s.heap h':=
  ⟨λb o e n hb hx=>(sb.2 b (ne b o e)).trans (B.keep b o e n hb hx),λb o e n hb hx=>by
   obtain⟨sl,q⟩:=B.slot b o e n hb hx
   exact⟨sl,(sb.2 b (ne b o e)).trans q⟩,B.free,λb o e hx=>by
   obtain⟨o',q⟩:=B.there b o e hx
   exact⟨o',(sb.2 b (ne b o e)).trans q⟩,B.tups,B.frzs,B.tbls⟩
 have hf:H' C=none:=J.free
 have K:HOk X.prog X.w H' h':=λb o e=>(J.hok b o e).stay (λc u hc q=>(sb.2 c (by
  rintro rfl
  rcases hc with z|z
  ·rw[z,e] at hf;cases hf
  ·rw[hf] at z;cases z)).trans q) (λ_ q=>q) λ_ _ q=>q
 refine I.call' (s':={ s' with heap:=h' }) (ch:=fp) J.os U K J.bare λb hb=>?_
 obtain⟨_,h2,_,h4,h5,h6⟩:=hfp b hb
 exact⟨h4,h2,h5,h6⟩
end
end L2
namespace L2
open PySem PySem.Spec PyProof.Rows
section
variable {X:Cx}
theorem pe_compG {nn:List Str}{tg:Expr}{ifs:List Expr}{pos:Pos}{elt iter:Expr}{scope:Scope}{wi:TI}{g:TG}{tt:TT}{te:TE}(T:Env->Sem Bool) (hc:X.calm=true) (hi:PI X tg iter wi)
  (hturn:∀it acc env,compTurn (.ListComp elt [⟨tg,iter,ifs,0⟩] scope pos) 0 it acc env=(standAt iter.pos >>= λ_=>pyNext it >>= λr=>match r with
   |none=>pure (.done .next)
   |some v=>letOwnedTupleGo tg it v >>= λ_=>assign tg env v >>= λ_=>T env >>= λok=>(if ok=true then (eval elt env >>= λx=>call (.builtin "list.append") [acc,x] >>= λ_=>pure ()) else pure ()) >>= λ_=>
     again (.compLoop (.ListComp elt [⟨tg,iter,ifs,0⟩] scope pos) 0 it acc env)))
  (hgt:∀cl C fp s₀ H₀,PG (compCxG X scope cl C nn fp s₀ H₀) tg g)
  (hloc2:∀y (os σ:St) H R,os.length=nn.length->g y (os++σ) H R->g y (os++σ) H λσ' H'=>(∃os':St,os'.length=nn.length/\σ'=os'++σ)/\R σ' H')
  (htt:∀cl C fp s₀ H₀ (pins:List (Addr×Obj)) (s:Shared) (σ:St) (H:Hp) (Q:Bool->Hp->Prop),Inv (compCxG X scope cl C nn fp s₀ H₀) pins σ H s->tt σ H Q->wpAny (model X.prog X.w) X.A (T (compEnvC scope cl C X.env)) (TP (compCxG X scope cl C nn fp s₀ H₀) pins σ Q) (λ_ _=>False) s)
  (he:∀cl C fp s₀ H₀,PE (compCxG X scope cl C nn fp s₀ H₀) elt te)
  (hkind:scope.kind=.function) (hcell:∀y∈scope.names,y.2≠.cell) (hnames:∀y∈scope.names,y.2=.local->scope.names.lookup y.1=some .local)
  (hloc:∀y∈X.N,scope.names.lookup y≠some .local) (hfr:∀p∈scope.names,p.2=.free->Vis X.env.scope p.1/\X.env.scope.names.lookup p.1≠some .local)
  (hs:∀x,foldedSetIterable iter X.env x=pure x):PE X (.ListComp elt [⟨tg,iter,ifs,0⟩] scope pos) (tCompG nn.length wi g tt te):=by
 intro pins s σ H Q I h
 rw[eval_ListComp]
 obtain⟨cl,hclos,hcl1,hcl2⟩:=closureFor_some (scope:=scope) (env:=X.env) (λp hp hk=>by
  obtain⟨hv,hn⟩:=hfr p hp hk
  refine I.ok.has p.1 ?_
  rcases hv with z|z
  ·exact absurd z hn
  ·exact z)
 refine wpAny_comprehension_free (use:=none) rfl hs hclos hkind hnames (thn (hi pins s σ H _ I h) λv s1 h1=>thn h1 λitv s2 h2=>?_)
 obtain⟨it,fp,tn,J,H2,rfl,I2,T',st2,f2,q⟩:=h2
 have hD:H2 s2.heap.objs.size=none:=I2.hok.fresh (Nat.le_refl _)
 obtain⟨W,⟨m0,w0⟩,turn⟩:=q _ hD
 refine wpAny_newObj_type (wpAny_newFunctionEnv hcell (by intro y hy;simp at hy) (λh₁ hns₁ hsb₁=>?_) hkind)
 dsimp only at hns₁ hsb₁ ⊢
 have I3:Inv X pins σ (upd H2 s2.heap.objs.size (.lst [])) { s2 with heap:=s2.heap.push { cls:=.type "list",dict:=none,data:=.seq ([]:List Value).toArray } }:=
  I2.laid (t':=s2.toks) (λb u e=>Heap.get?_push_of_some _ e) (Nat.le_refl _) ⟨Nat.zero_le _,[],0,.nil,Heap.get?_push_size _ rfl⟩
 have fpn:∀b∈fp,b≠s2.heap.objs.size:=λb hb=>by
  obtain⟨o,e,_⟩:=T'.obj 0 s2.heap st2 b hb
  exact Nat.ne_of_lt (Heap.lt_size e)
 have fplt:∀b∈fp,b<(s2.heap.push { cls:=.type "list",dict:=none,data:=.seq ([]:List Value).toArray }).objs.size:=λb hb=>by
  obtain⟨o,e,_⟩:=T'.obj 0 s2.heap st2 b hb
  rw[Heap.size_push];exact Nat.lt_succ_of_lt (Heap.lt_size e)
 have f3:∀b∈fp,FpOk X pins (upd H2 s2.heap.objs.size (.lst [])) b:=λb hb=>⟨by rw[upd_ne (fpn b hb)];exact (f2 b hb).1,(f2 b hb).2⟩
 generalize hg2:s2.heap.push { cls:=.type "list",dict:=none,data:=.seq ([]:List Value).toArray }=g2 at hns₁ hsb₁ I3 fplt ⊢
 have keep:∀b o,g2.get? b=some o->h₁.get? b=some o:=λb o e=>(hsb₁.2 b (Nat.ne_of_lt (Heap.lt_size e))).trans (Heap.get?_push_of_some _ e)
 have J0:=compG_start (nn:=nn) (tk:=s2.toks+([]:List (Str×Value)).length) I3 (C:=g2.objs.size) rfl keep hns₁ f3 fplt hkind hcell hloc hcl1 hcl2 hfr
 generalize hY:compCxG X scope cl g2.objs.size nn fp { s2 with heap:=g2 } (upd H2 s2.heap.objs.size (.lst []))=Y at J0
 have eY:PE Y elt te:=by rw[<- hY];exact he _ _ _ _ _
 have eG:PG Y tg g:=by rw[<- hY];exact hgt _ _ _ _ _
 have eT:∀(pins:List (Addr×Obj)) (s:Shared) (σ:St) (H:Hp) (Q:Bool->Hp->Prop),Inv Y pins σ H s->tt σ H Q->wpAny (model Y.prog Y.w) Y.A (T Y.env) (TP Y pins σ Q) Y.xe s:=by rw[<- hY];exact htt _ _ _ _ _
 have eP:Y.prog=X.prog:=by rw[<- hY];rfl
 have eW:Y.w=X.w:=by rw[<- hY];rfl
 have eK:Y.K=X.K:=by rw[<- hY];rfl
 have eA:Y.A=X.A:=by rw[<- hY];rfl
 have eC:Y.calm=true:=by rw[<- hY];exact hc
 have eE:Y.env=compEnvC scope cl g2.objs.size X.env:=by rw[<- hY];rfl
 have eX:Y.xe=λ_ _=>False:=by rw[<- hY];rfl
 have eN:Y.N=nn++X.N:=by rw[<- hY];rfl
 have eEx:Y.ex=fp:=by rw[<- hY];rfl
 have eFs:Y.fs=frs X.stack:=by rw[<- hY];rfl
 have ePn:Y.pn=[]:=by rw[<- hY];rfl
 have fpY:∀{H':Hp},(∀b∈fp,H' b=none)->∀b∈fp,FpOk Y [] H' b:=λhn b hb=>by
  have g:=f3 b hb
  refine⟨hn b hb,?_,?_,.inl (by rw[eEx];exact hb),?_,λp hp=>absurd hp (by rw[ePn];simp)⟩
  ·rw[eE];exact Nat.ne_of_lt (fplt b hb)
  ·rw[eFs]
   intro z
   rcases List.mem_cons.mp (I3.stkSub b z) with z|z
   ·exact g.2.1 z
   ·exact g.2.2.1 z
  ·rw[eE]
   exact λy c e=>g.2.2.2.2.1 y c (hcl1 y c e)
 have loop:∀s₃:Shared,s₃={ s2 with heap:=h₁,toks:=s2.toks+([]:List (Str×Value)).length } ->
   codeAny (model X.prog X.w) X.A (.compLoop (.ListComp elt [⟨tg,iter,ifs,0⟩] scope pos) 0 (.ref it) (.ref s2.heap.objs.size) (compEnvC scope cl g2.objs.size X.env))
    (compPost (model X.prog X.w) X.A X.xe none (EP X pins σ Q) (.ref s2.heap.objs.size) g2.objs.size) s₃:=by
  rintro s₃ rfl
  refine compLoopG (T (compEnvC scope cl g2.objs.size X.env)) (hturn _ _ _) (λn s'=>∃i xs H' os,os.length=nn.length/\Inv Y [] (os++σ) H' s'/\tn i s'.heap/\(∀b∈fp,H' b=none)/\W i n xs H') ?_ m0
   ⟨0,[],_,nn.map λ_=>none,by simp,J0,T'.keep 0 _ _ st2 (λb hb o e=>keep b o (by rw[<- hg2];exact Heap.get?_push_of_some _ e)),λb hb=>(f3 b hb).1,w0⟩
  rintro n s3 ⟨i,xs,H3,os,hos,I4,st3,fr3,w3⟩
  obtain⟨hDx,hlx,alt⟩:=turn i n xs H3 w3
  rcases alt with ⟨stop,qn⟩|⟨go,step⟩
  ·have D1:=T'.done Y eP eW eK eC i [] s3 _ H3 (λ_ _=>False) I4 (fpY fr3) st3 stop
   rw[eA] at D1
   refine thn D1 λr s4 ⟨hr,I5⟩=>?_
   subst hr
   obtain⟨m4,hns4,_⟩:=id I5.loc
   rw[eE] at hns4
   refine⟨m4,hns4,λh' sb=>⟨.ref _,H3,?_,rfl,qn⟩⟩
   rw[<- hY] at I5
   exact compG_end I3 rfl f3 I5 sb
  ·have G1:=T'.item Y eP eW eK eC i [] s3 _ H3 (λ_ _=>False) I4 (fpY fr3) st3 go
   rw[eA] at G1
   refine thn G1 λr s4 ⟨u,hr,h4⟩=>?_
   subst hr
   refine thn h4 λ_ s5 ⟨y,H5,I5,r5,y5,st5,fr5⟩=>?_
   have I5':=I5.pinned (fpY fr5) (T'.obj _ _ st5)
   have S1:=eG _ s5 _ H5 y u _ I5' r5 (hloc2 y os σ H5 _ hos (step y _ y5 os hos))
   rw[eP,eW,eA,eE,eX] at S1
   refine thn S1 λ_ s6 ⟨σ6,H6,I6,⟨os6,hos6,e6⟩,q6⟩=>?_
   subst e6
   have S2:=eT _ s6 _ _ _ I6 q6
   rw[eP,eW,eA,eE,eX] at S2
   refine thn S2 λok s7 ⟨H7,I7,q7⟩=>?_
   have back:∀{s9:Shared}{H9:Hp}{m':Nat}{zs:List V},Inv Y ([]++pinsAt fp s5.heap) (os6++σ) H9 s9->m'<n->W (i+1) m' zs H9->∃m,m<n/\∃i xs H' os,os.length=nn.length/\Inv Y [] (os++σ) H' s9/\tn i s9.heap/\(∀b∈fp,H' b=none)/\W i m xs H':=λ{s9 H9 m' zs} I9 hm' w9=>by
    have pin:∀b∈fp,∀ob,s5.heap.get? b=some ob->s9.heap.get? b=some ob/\H9 b=none:=λb hb ob e=>by
     have z:=I9.pin (b,ob) (List.mem_append_right _ (List.mem_append_right _ (mem_pinsAt hb e)))
     exact⟨z.1,z.2.1⟩
    refine⟨m',hm',i+1,zs,H9,os6,hos6,I9.unpinned,T'.keep _ _ _ st5 (λb hb ob e=>(pin b hb ob e).1),λb hb=>?_,w9⟩
    obtain⟨ob,e,_⟩:=T'.obj _ _ st5 b hb
    exact (pin b hb ob e).2
   cases ok with
   |true=>
    rw[if_pos rfl] at q7
    rw[if_pos rfl]
    have S3:=eY _ s7 _ _ _ I7 q7
    rw[eP,eW,eA,eE,eX] at S3
    refine thn S3 λxv s8 ⟨v8,H8,I8,r8,hD8,m',hm',w8⟩=>?_
    have S4:=mt_append (X:=Y) _ s8 _ H8 (.ref s2.heap.objs.size) [v8] (.ref s2.heap.objs.size) [xv] (λ_ H9=>H9=upd H8 s2.heap.objs.size (.lst (xs++[v8]))) I8 rfl (.cons r8 .nil) ⟨_,xs,v8,rfl,rfl,hD8,hlx,rfl⟩
    rw[eP,eW,eA,eX] at S4
    refine thn S4 λ_ s9 ⟨v9,H9,I9,_,e9⟩=>?_
    subst e9
    exact back I9 hm' w8
   |false=>
    rw[if_neg Bool.false_ne_true] at q7
    rw[if_neg Bool.false_ne_true]
    obtain⟨m',hm',w8⟩:=q7
    exact back I7 hm' w8
 exact codeAny_compStart_list (loop _ rfl) (T'.self _ 0 _ _ _ (T'.keep 0 _ _ st2 (λb hb o e=>keep b o (by rw[<- hg2];exact Heap.get?_push_of_some _ e))) (loop _ rfl))
theorem scopes_ok {scope sc:Scope}{N:List Str}(hNe:X.N=N) (hsc:X.env.scope=sc)
  (hcell:scope.names.all (λy=>y.2 != .cell)=true) (hnames:scope.names.all (λy=>y.2 != .local||scope.names.lookup y.1==some .local)=true) (hloc:N.all (λy=>scope.names.lookup y != some .local)=true)
  (hfr:scope.names.all (λp=>p.2 != .free||(sc.names.lookup p.1==some .cell||sc.names.lookup p.1==some .free))=true) :
  (∀y∈scope.names,y.2≠.cell)/\(∀y∈scope.names,y.2=.local->scope.names.lookup y.1=some .local)/\(∀y∈X.N,scope.names.lookup y≠some .local)/\(∀p∈scope.names,p.2=.free->Vis X.env.scope p.1/\X.env.scope.names.lookup p.1≠some .local):=by
 refine⟨λy hy=>?_,λy hy hl=>?_,λy hy=>?_,λp hp hk=>?_⟩
 ·have:=List.all_eq_true.mp hcell y hy
  simpa using this
 ·have:=List.all_eq_true.mp hnames y hy
  simpa [hl] using this
 ·have:=List.all_eq_true.mp hloc y (by rw[<- hNe];exact hy)
  simpa using this
 ·have:=List.all_eq_true.mp hfr p hp
  rw[hk] at this
  have z:sc.names.lookup p.1=some .cell\/sc.names.lookup p.1=some .free:=by simpa using this
  rw[hsc]
  refine⟨.inr z,λq=>?_⟩
  rcases z with z|z<;>(rw[z] at q;cases q)
theorem loc1 {y:V}{os σ:St}{H:Hp}{R:St->Hp->Prop}(ho:os.length=1) (h:gName 0 y (os++σ) H R):gName 0 y (os++σ) H λσ' H'=>(∃os':St,os'.length=1/\σ'=os'++σ)/\R σ' H':=by
 match os,ho with
 |[o],_=>exact⟨⟨[some y],rfl,rfl⟩,h⟩
theorem loc2 {K:PySem.W.Frag}{y:V}{os σ:St}{H:Hp}{R:St->Hp->Prop}(ho:os.length=2) (h:gTup K 2 (gCons (gName 0) (gCons (gName 1) gNil)) y (os++σ) H R) :
  gTup K 2 (gCons (gName 0) (gCons (gName 1) gNil)) y (os++σ) H λσ' H'=>(∃os':St,os'.length=2/\σ'=os'++σ)/\R σ' H':=by
 match os,ho with
 |[o1,o2],_=>
  obtain⟨a,xs,e1,e2,e3,v,r,e4,v2,r2,e5,e6,q⟩:=h
  exact⟨a,xs,e1,e2,e3,v,r,e4,v2,r2,e5,e6,⟨[some v,some v2],rfl,rfl⟩,q⟩
theorem pe_compIf {x:Str}{px pos:Pos}{elt iter c:Expr}{scope:Scope}{wi:TI}{tt:TT}{te:TE}(N:List Str) (sc:Scope) (hNe:X.N=N) (hsc:X.env.scope=sc) (hc:X.calm=true) (hN:X.N.Nodup) (hi:PI X (.Name x px) iter wi)
  (ht:∀cl C fp s₀ H₀,PT (compCxG X scope cl C [x] fp s₀ H₀) c tt) (he:∀cl C fp s₀ H₀,PE (compCxG X scope cl C [x] fp s₀ H₀) elt te)
  (hkind:scope.kind=.function:=by rfl) (hcell:scope.names.all (λy=>y.2 != .cell)=true:=by decide +kernel) (hnames:scope.names.all (λy=>y.2 != .local||scope.names.lookup y.1==some .local)=true:=by decide +kernel)
  (hx:scope.names.lookup x=some .local:=by rfl) (hloc:N.all (λy=>scope.names.lookup y != some .local)=true:=by decide +kernel)
  (hfr:scope.names.all (λp=>p.2 != .free||(sc.names.lookup p.1==some .cell||sc.names.lookup p.1==some .free))=true:=by decide +kernel)
  (hs:∀x,foldedSetIterable iter X.env x=pure x:=by intro _;rfl):PE X (.ListComp elt [⟨.Name x px,iter,[c],0⟩] scope pos) (tCompG 1 wi (gName 0) tt te):=by
 obtain⟨s1,s2,s3,s4⟩:=scopes_ok hNe hsc hcell hnames hloc hfr
 refine pe_compG (nn:=[x]) (λenv=>isTrue c env (eval c env)) hc hi (λit acc env=>turn_one elt _ iter c scope pos it acc env) (λcl C fp s₀ H₀=>?_) (λy os σ H R ho h=>loc1 ho h) (λcl C fp s₀ H₀ pins s σ H Q I h=>ht cl C fp s₀ H₀ pins s σ H Q I h) he hkind s1 s2 s3 s4 hs
 have l:(compCxG X scope cl C [x] fp s₀ H₀).env.scope.names.lookup x=some .local:=lookup_relabel_local hx
 exact pg_name (i:=0) (List.nodup_cons.mpr ⟨λz=>s3 x z hx,hN⟩) rfl (.inl l) (.inr l)
theorem gpair {x y:Str}{p1 p2 tpos:Pos}{k:Nat}{scope:Scope}{cl:List (Str×Addr)}{C:Addr}{fp:List Addr}{s₀:Shared}{H₀:Hp}(hc:X.calm=true) (hN:X.N.Nodup) (hxy:x≠y) (s3:∀z∈X.N,scope.names.lookup z≠some .local) (hx:scope.names.lookup x=some .local) (hy:scope.names.lookup y=some .local) :
  PG (compCxG X scope cl C [x,y] fp s₀ H₀) (.Tuple [.Name x p1,.Name y p2] k tpos) (gTup X.K 2 (gCons (gName 0) (gCons (gName 1) gNil))):=by
 have lx:(compCxG X scope cl C [x,y] fp s₀ H₀).env.scope.names.lookup x=some .local:=lookup_relabel_local hx
 have ly:(compCxG X scope cl C [x,y] fp s₀ H₀).env.scope.names.lookup y=some .local:=lookup_relabel_local hy
 have nd:(compCxG X scope cl C [x,y] fp s₀ H₀).N.Nodup:=List.nodup_cons.mpr ⟨λz=>by
  rcases List.mem_cons.mp z with z|z
  ·exact hxy z
  ·exact s3 x z hx,List.nodup_cons.mpr ⟨λz=>s3 y z hy,hN⟩⟩
 exact pg_tup (X:=compCxG X scope cl C [x,y] fp s₀ H₀) hc (pgs_cons (pg_name (i:=0) nd rfl (.inl lx) (.inr lx)) (pgs_cons (pg_name (i:=1) nd rfl (.inl ly) (.inr ly)) pgs_nil))
def ttYes:TT:=λ_ H Q=>Q true H
theorem pe_comp2 {x y:Str}{p1 p2 tpos pos:Pos}{k:Nat}{elt iter:Expr}{scope:Scope}{wi:TI}{te:TE}(N:List Str) (sc:Scope) (hNe:X.N=N) (hsc:X.env.scope=sc) (hc:X.calm=true) (hN:X.N.Nodup) (hi:PI X (.Tuple [.Name x p1,.Name y p2] k tpos) iter wi)
  (he:∀cl C fp s₀ H₀,PE (compCxG X scope cl C [x,y] fp s₀ H₀) elt te) (hxy:x≠y:=by decide)
  (hkind:scope.kind=.function:=by rfl) (hcell:scope.names.all (λy=>y.2 != .cell)=true:=by decide +kernel) (hnames:scope.names.all (λy=>y.2 != .local||scope.names.lookup y.1==some .local)=true:=by decide +kernel)
  (hx:scope.names.lookup x=some .local:=by rfl) (hy:scope.names.lookup y=some .local:=by rfl) (hloc:N.all (λy=>scope.names.lookup y != some .local)=true:=by decide +kernel)
  (hfr:scope.names.all (λp=>p.2 != .free||(sc.names.lookup p.1==some .cell||sc.names.lookup p.1==some .free))=true:=by decide +kernel)
  (hs:∀x,foldedSetIterable iter X.env x=pure x:=by intro _;rfl):PE X (.ListComp elt [⟨.Tuple [.Name x p1,.Name y p2] k tpos,iter,[],0⟩] scope pos) (tCompG 2 wi (gTup X.K 2 (gCons (gName 0) (gCons (gName 1) gNil))) ttYes te):=by
 obtain⟨s1,s2,s3,s4⟩:=scopes_ok hNe hsc hcell hnames hloc hfr
 exact pe_compG (nn:=[x,y]) (λ_=>pure true) hc hi (λit acc env=>turn_no elt _ iter scope pos it acc env) (λcl C fp s₀ H₀=>gpair hc hN hxy s3 hx hy) (λy os σ H R ho h=>loc2 ho h) (λcl C fp s₀ H₀ pins s σ H Q I h=>wpAny_pure ⟨H,I,h⟩) he hkind s1 s2 s3 s4 hs
end
end L2
namespace L2
open PySem PySem.Spec PyProof.Rows PySem.W PySem.Builtin PySem.Builtin.ObjectAttr PySem.Builtin.Getset_descriptor
section
variable {prog:Program}{w:World}{A:Around}{E:Value->Shared->Prop}{s:Shared}{K:Frag}{x C:Addr}
def ExcAt (x C:Addr) (h:Heap):Prop:=∃ox vs,h.get? x=some ox/\ox.cls=.ref C/\ox.data=.fields vs/\vs[2]?=some .none
theorem ExcAt.type {M:Model}{h:Heap}(I:ExcAt x C h):Looks M h (typeOf (.ref x)) (.ref C):=by
 obtain⟨ox,_,h1,h2,_⟩:=I
 have z:=(Looks.ld (M:=M) (part:=none) h1).andThen (f:=λo=>pure o.cls) (Looks.now (a:=ox.cls))
 rw[h2] at z
 exact z
theorem exc_get {tp:Value}{R:Result->Shared->Prop}(X:K.In s.heap) (I:ExcAt x C s.heap) (hm:mroIn K C (.type "object")=some true) (h:R (.ok (.ret (.ref C))) s) :
  codeAny (model prog w) A (.call (.builtin "getset_descriptor.__get__") ⟨[.builtin "object.__class__",.ref x,tp],[]⟩) R s:=by
 obtain⟨h1,g1,d1,t1,o1⟩:=s
 have Lt:=I.type (M:=model prog w)
 have Lm:=looks_mroIn (M:=model prog w) X hm
 refine codeAny_call_builtin KF.slot_gs.plain KF.entry_gs ?_
 refine KF.slot_gs.check _ _ _ _ _ _ _ _ KF.type_class (KF.args_gs _ _ _) ?_
 unfold Builtin.«getset_descriptor.__get__» descrGet
 rw[dga_obj]
 refine wpAny_bind (wpAny_pure ?_)
 unfold descrGetter descrCheckInstance descrNameAndClass isInstance
 simp only[KF.owner_class]
 repeat lk
 refine⟨Code.quiet_builtin _ (by decide +kernel),codeAny_builtin KF.entry_class ?_⟩
 unfold Builtin.«object.__class__» shownTypeOf
 repeat lk
 exact h
theorem exc_entry {tk:Tok}{Q:Fin->Shared->Prop}(X:K.In s.heap) (I:ExcAt x C s.heap)
  (ha:findIn K (.ref C) "__class__" = some (some (.builtin "object.__class__"))) (hn:specialIn K (.builtin "object.__class__") "__get__" = some (some (.builtin "getset_descriptor.__get__"))) (htk:takesIn K (.builtin "object.__class__")=some true)
  (hm:mroIn K C (.type "object")=some true) (hc:(clsIn K C).isSome=true) (h:Q (.done (.ret (.ref C))) s):wpAny (model prog w) A (Builtin.«object.__getattribute__» ⟨[.ref x,.str "__class__" tk],[]⟩) Q E s:=by
 obtain⟨hh,g,d,t,os⟩:=s
 have L0:=I.type (M:=model prog w)
 have L4:Looks (model prog w) hh (Builtin.ObjectAttr.find (.ref x) (.ref C) "__class__") (Builtin.ObjectAttr.Found.bind (.builtin "getset_descriptor.__get__") (.builtin "object.__class__")):=by
  have y1:=looks_findIn (M:=model prog w) X ha
  have y2:Looks (model prog w) hh (Builtin.ObjectAttr.getOf (some (.builtin "object.__class__"))) (some (.builtin "getset_descriptor.__get__")):=looks_specialIn X hn
  have y3:=looks_takesIn (M:=model prog w) X htk
  have y4:Looks (model prog w) hh (Builtin.ObjectAttr.dataDescriptor? (some (.builtin "object.__class__")) (some (.builtin "getset_descriptor.__get__"))) (some (.builtin "getset_descriptor.__get__",.builtin "object.__class__")):=y3.andThen .now
  exact y1.andThen (y2.andThen (y4.andThen (Looks.tag .now)))
 unfold Builtin.«object.__getattribute__»
 repeat (first|with_reducible refine L0.at ?_|with_reducible refine L4.at ?_|wp_step)
 refine exc_get X I hm ?_
 repeat (any_goals (first|assumption|wp_step))
theorem exc_check {M:Model}{nameV:Value}{P:Unit->Shared->Prop}(X:K.In s.heap) (I:ExcAt x C s.heap) (hb:mroIn K C (.type "BaseException")=some true) (h:P () s) :
  wpAny M A (checkBuiltinCall "BaseException.__getattribute__" ⟨[.ref x,nameV],[]⟩) P E s:=by
 have hk:builtinKind "BaseException.__getattribute__" = some .slot:=by decide +kernel
 have hsplit:splitId "BaseException.__getattribute__" = some ("BaseException", "__getattribute__"):=by decide +kernel
 have hargs:=F.args_bexc_ga (.ref x) nameV
 obtain⟨hh,g,d,t,os⟩:=s
 have L0:=I.type (M:=M)
 have L3:=looks_mroIn (M:=M) X hb
 simp only[checkBuiltinCall,hk,hsplit]
 refine wpAny_bind ?_
 unfold isInstance
 refine wpAny_bind (L0.at (L3.at ?_))
 repeat (first|assumption|wp_step)
theorem exc_call {tk:Tok}{R:Result->Shared->Prop}(X:K.In s.heap) (I:ExcAt x C s.heap)
  (ha:findIn K (.ref C) "__class__" = some (some (.builtin "object.__class__"))) (hn:specialIn K (.builtin "object.__class__") "__get__" = some (some (.builtin "getset_descriptor.__get__"))) (htk:takesIn K (.builtin "object.__class__")=some true)
  (hm:mroIn K C (.type "object")=some true) (hb:mroIn K C (.type "BaseException")=some true) (hc:(clsIn K C).isSome=true) (h:R (.ok (.ret (.ref C))) s) :
  codeAny (model prog w) A (.call (.builtin "BaseException.__getattribute__") ⟨[.ref x,.str "__class__" tk],[]⟩) R s:=
 codeAny_call_builtin F.excAttr_ValueError.ga.plain F.entry_bexc_ga (exc_check X I hb (exc_entry X I ha hn htk hm hc h))
theorem exc_class {Q:Option Value->Shared->Prop}(X:K.In s.heap) (I:ExcAt x C s.heap) (hga:findIn K (.ref C) "__getattribute__" = some (some (.builtin "BaseException.__getattribute__"))) (hgt:findIn K (.ref C) "__getattr__" = some none)
  (ha:findIn K (.ref C) "__class__" = some (some (.builtin "object.__class__"))) (hn:specialIn K (.builtin "object.__class__") "__get__" = some (some (.builtin "getset_descriptor.__get__"))) (htk:takesIn K (.builtin "object.__class__")=some true)
  (hm:mroIn K C (.type "object")=some true) (hb:mroIn K C (.type "BaseException")=some true) (hc:(clsIn K C).isSome=true) (h:Q (some (.ref C)) { s with toks:=s.toks+1 }) :
  wpAny (model prog w) A (getAttr? (.ref x) "__class__") Q E s:=by
 have go:=λ(A':Around) (R:Result->Shared->Prop) (tk:Tok)=>exc_call (prog:=prog) (w:=w) (A:=A') (R:=R) (s:={ s with toks:=s.toks+1 }) (tk:=tk) X I ha hn htk hm hb hc
 obtain⟨hh,g,d,t,os⟩:=s
 have L0:=I.type (M:=model prog w)
 have L1:=looks_findIn (M:=model prog w) X hga
 have L2:=looks_findIn (M:=model prog w) X hgt
 have f3:=F.excAttr_ValueError.ga.bind (.ref x)
 have hx2:(Value.builtin "BaseException.__getattribute__" == Value.builtin "object.__getattribute__")=false:=by decide +kernel
 have hx1:(onTheHeap (Value.ref C)&&Value.builtin "BaseException.__getattribute__" == Value.builtin "object.__getattribute__")=false:=by rw[hx2];rfl
 unfold getAttr? getAttrBy? getAttrBy
 refine wpAny_bind (wpAny_mkText (wpAny_bind (wpAny_attempt (wpAny_holding (wpAny_bind (L0.at (wpAny_bind (L1.at ?_))))))))
 dsimp only
 rw[if_neg (by rw[hx1];exact Bool.false_ne_true)]
 unfold getAttrByItsOwn
 repeat (any_goals (first|assumption|with_reducible refine L0.at ?_|with_reducible refine L2.at ?_|wp_step))
 refine go _ _ _ ?_
 repeat (any_goals (first|assumption|wp_step))
structure ExcCls (K:Frag) (C:Addr):Prop where
 hga:findIn K (.ref C) "__getattribute__" = some (some (.builtin "BaseException.__getattribute__"))
 hgt:findIn K (.ref C) "__getattr__" = some none
 ha:findIn K (.ref C) "__class__" = some (some (.builtin "object.__class__"))
 hn:specialIn K (.builtin "object.__class__") "__get__" = some (some (.builtin "getset_descriptor.__get__"))
 htk:takesIn K (.builtin "object.__class__")=some true
 hm:mroIn K C (.type "object")=some true
 hb:mroIn K C (.type "BaseException")=some true
 hc:(clsIn K C).isSome=true
theorem kitx_exc (T:ExcCls K C):KitX K (.ref x) (.ref C) (ExcAt x C) where
 ty:=λ_ _ _ I=>I.type
 it:=λ_ _ X _=>by
  have hc:=T.hc
  unfold clsIn at hc
  split at hc
  ·rename_i c' d' cd' sl' ho
   intro A1 Q1 E1 s1 kp q1
   unfold isType loadHead
   refine wpAny_bind (wpAny_loadPart (kp _ _ (X _ _ ho)) ?_)
   exact wpAny_pure q1
  ·cases hc
 ne:=λh tp dd its n sl X htp=>by
  have hc:=T.hc
  refine Bool.eq_false_iff.mpr λq=>?_
  have e:C=tp:=Value.ref.inj (beq_iff_eq.mp q)
  subst e
  unfold clsIn at hc
  split at hc
  ·rename_i c' d' cd' sl' ho
   have z:=(X _ _ ho).symm.trans htp
   cases z
  ·cases hc
 ca:=λX I k=>exc_class X I T.hga T.hgt T.ha T.hn T.htk T.hm T.hb T.hc k
end
end L2
namespace L2
open PySem PySem.Spec PyProof.Rows PySem.W
section
variable {K:Frag}{h:Heap}{C:Addr}{bmB:List Value}{newId:String}
end
section
variable {X:Cx}{x:Str}{C:Addr}{E:XK}{e₀:Expr}{rest:List Expr}{t:TA}{np cpos pos:Pos}
end
section
variable {X:Cx}{pins:List (Addr×Obj)}{σ:St}{H:Hp}{s:Shared}
end
end L2
namespace L2
open PySem PySem.Spec PyProof.Rows PySem.W
section
variable {X:Cx}{pins:List (Addr×Obj)}{σ:St}{H:Hp}{s:Shared}
end
end L2
namespace L2
open PySem PySem.Spec PyProof.Rows PySem.W
section
variable {prog:Program}{w:World}{A:Around}{E:Value->Shared->Prop}{s:Shared}{x C e:Addr}
end
end L2
namespace L2
open PySem PySem.Spec PyProof.Rows
section
variable {X:Cx}{k:Nat}{f xe:Addr}{fd:FuncData}{ps:List Str}{sp:SpH}{x:Str}{p pos:Pos}{e:Expr}{es:List Expr}{t:TA}
end
end L2
namespace L2
open PySem PySem.Spec PyProof.Rows PySem.W
section
variable {X:Cx}
def clsV:V->Option Value
 |.ty n=>some (.type n)
 |.ref a=>some (.ref a)
 |_=>none
theorem clsV_is {c:V}{u cv:Value}(r:RelV c u) (e:clsV c=some cv):u=cv:=by
 cases c with
 |ty n=>cases e;exact r
 |ref a=>cases e;exact r
 |_=>cases e
def ExcT (K:Frag) (H:Hp) (x:V) (t:Value):Prop:=∃a C,x=.ref a/\H a=some (.ext (ExcAt a C))/\ExcCls K C/\t=.ref C
theorem call_isi:CallR X (.builtin "isinstance") (λxs H Q=>∃x c t cv b,xs=[x,c]/\clsV c=some cv/\(TyOf X.K H x t\/ExcT X.K H x t)/\kitOne X.K t cv=some b/\Q (.bl b) H):=by
 intro pins s σ H xs us Q I r h
 obtain⟨x,c,t,cv,b,rfl,hc,ht,hk,q⟩:=h
 obtain⟨u,u',rfl,rx,rc⟩:=vals2 r
 cases clsV_is rc hc
 rcases ht with ty|⟨a,C,rfl,e,T,rfl⟩
 ·exact isinst_ok I rx ty hk λtk=>⟨.bl b,H,I.tok _,rfl,q⟩
 ·cases (show u=Value.ref a from rx)
  have p:ExcAt a C s.heap:=(I.hok a _ e).1
  exact kia_one (kitx_exc T) I.kIn p hk (λz=>nomatch z) λtk=>⟨.bl b,H,I.tok _,rfl,q⟩
theorem moved_inv {pins:List (Addr×Obj)}{σ:St}{H:Hp}{s s':Shared}{o₁:Obj}{wr:List Addr}(I:Inv X pins σ H s) (mv:Moved wr (λa b=>b=a) { s with heap:=s.heap.push o₁ } s') (hn:∀b o,s.heap.get? b=some o->b∈wr->False):Inv X pins σ H s':=by
 obtain⟨h',g',d',t',os'⟩:=s'
 obtain⟨m1,m2,m3,m4,m5⟩:=mv
 cases (show g'=s.gens from m2)
 cases (show d'=s.drawn from m3)
 cases (show os'=s.os from m4)
 exact I.kept (h':=h') (t':=t') λb o e=>m1 b o (λz=>hn b o e z) (Heap.get?_push_of_some _ e)
theorem call_allL (hc:X.calm=true):CallR X (.builtin "all") (λxs H Q=>∃(p:Addr) (bs:List Bool),xs=[.ref p]/\H p=some (.lst (bs.map V.bl))/\Q (.bl (bs.all id)) H):=by
 intro pins s σ H xs us Q I r h
 obtain⟨p,bs,rfl,hp,q⟩:=h
 obtain⟨u,rfl,rx⟩:=vals1 r
 cases rx
 obtain⟨z,its,n,rv,hl⟩:=I.hok p _ hp
 have isl:s.heap.IsList p its.toArray:=⟨_,hl,rfl,_,rfl⟩
 have hlen:its.length=bs.length:=by have:=rv.length;simpa using this.symm
 have np:p≠s.heap.objs.size:=Nat.ne_of_lt (Heap.lt_size hl)
 refine call_all_walk (wpAny_pyIter_list isl ?_)
 refine⟨s.heap.objs.size,_,_,_,_,_,λi=>bs.getD i true,rfl,Walks.list (A:=X.A.in1) (I.ok.hd hc) s.heap.objs.size p np its.toArray,⟨⟨_,Heap.get?_push_size _ rfl,rfl,rfl⟩,isl.at λo e=>Heap.get?_push_of_some _ e⟩,?_,?_⟩
 ·intro i v s' Q' E' hv hq
  have hv':its[i]?=some v:=by simpa using hv
  have hi:i<bs.length:=by rw[<- hlen];exact (List.getElem?_eq_some_iff.mp hv').1
  obtain⟨w',e1,e2⟩:=rv.get (x:=V.bl (bs[i])) (i:=i) (by simp[hi])
  rw[hv'] at e1;cases e1
  cases (show v=Value.bool bs[i] from e2)
  have eg:bs.getD i true=bs[i]:=by simp[List.getD,hi]
  dsimp only at hq
  rw[eg] at hq
  exact wpAny_truthy_bool hq
 ·intro h' tk k
  refine⟨.bl (bs.all id),H,I.kept (h':=h') (t':=tk) (λb o e=>k b o (λz=>?_) (Heap.get?_push_of_some _ e)),?_,q⟩
  ·have:b=s.heap.objs.size:=by simpa using z
   exact Nat.lt_irrefl _ (by rw[this] at e;exact Heap.lt_size e)
  ·have es:its.toArray.size=bs.length:=by simpa using hlen
   rw[es]
   show Value.bool _=Value.bool _
   congr 1
   rw[Bool.eq_iff_iff,List.all_eq_true,List.all_eq_true]
   constructor
   ·intro z b hb
    obtain⟨i,hi,e⟩:=List.mem_iff_getElem.mp hb
    have:=z i (List.mem_range.mpr hi)
    simpa [List.getD,hi,e] using this
   ·intro z i hi
    have hi':=List.mem_range.mp hi
    have:=z bs[i] (List.getElem_mem hi')
    simpa [List.getD,hi'] using this
theorem strs_of:∀{ys:List Str}{us:List Value},Vals (ys.map V.str) us->StrsAre us ys
 |[],_,.nil=>.nil
 |y::ys,_,.cons r t=>by
  obtain⟨tk,rfl⟩:=r
  exact .cons y tk (strs_of t)
theorem mt_join:MtR X "str.join" (λx xs H Q=>∃(sep:Str) (p:Addr) (ys:List Str),x=.str sep/\xs=[.ref p]/\H p=some (.lst (ys.map V.str))/\(ys.map (·.length)).sum+ys.length*sep.length<=16777216/\Q (.str (Txt.join sep ys)) H):=by
 intro pins s σ H x xs v us Q I rx rv h
 obtain⟨sep,p,ys,rfl,rfl,hp,hz,q⟩:=h
 obtain⟨t,rfl⟩:=rx
 obtain⟨u,rfl,ru⟩:=rv.one
 cases ru
 obtain⟨z,its,n,r2,hl⟩:=I.hok p _ hp
 exact join_list (D:=p) (items:=its.toArray) ⟨_,hl,rfl,_,rfl⟩ (by simpa using strs_of r2) hz λt' k=>⟨.str _,H,I.tok _,⟨_,rfl⟩,q⟩
theorem call_intS:CallR X (.type "int") (λxs H Q=>∃z n,xs=[.str z]/\PySem.intText? z=some n/\z.length<=640/\Q (.int n) H):=by
 intro pins s σ H xs us Q I r h
 obtain⟨z,n,rfl,hn,hz,q⟩:=h
 obtain⟨u,rfl,t,rfl⟩:=vals1 r
 exact KIN.call_text hn hz ⟨.int n,H,I.tok _,⟨_,rfl⟩,q⟩
end
end L2
namespace L2
open PySem PySem.Spec PyProof.Rows PySem.W
section
variable {X:Cx}
theorem call_anyL (hc:X.calm=true):CallR X (.builtin "any") (λxs H Q=>∃(p:Addr) (bs:List Bool),xs=[.ref p]/\H p=some (.lst (bs.map V.bl))/\Q (.bl (bs.any id)) H):=by
 intro pins s σ H xs us Q I r h
 obtain⟨p,bs,rfl,hp,q⟩:=h
 obtain⟨u,rfl,rx⟩:=vals1 r
 cases rx
 obtain⟨z,its,n,rv,hl⟩:=I.hok p _ hp
 have isl:s.heap.IsList p its.toArray:=⟨_,hl,rfl,_,rfl⟩
 have hlen:its.length=bs.length:=by have:=rv.length;simpa using this.symm
 have np:p≠s.heap.objs.size:=Nat.ne_of_lt (Heap.lt_size hl)
 refine call_any_walk (wpAny_pyIter_list isl ?_)
 refine⟨s.heap.objs.size,_,_,_,_,_,λi=>bs.getD i true,rfl,Walks.list (A:=X.A.in1) (I.ok.hd hc) s.heap.objs.size p np its.toArray,⟨⟨_,Heap.get?_push_size _ rfl,rfl,rfl⟩,isl.at λo e=>Heap.get?_push_of_some _ e⟩,?_,?_⟩
 ·intro i v s' Q' E' hv hq
  have hv':its[i]?=some v:=by simpa using hv
  have hi:i<bs.length:=by rw[<- hlen];exact (List.getElem?_eq_some_iff.mp hv').1
  obtain⟨w',e1,e2⟩:=rv.get (x:=V.bl (bs[i])) (i:=i) (by simp[hi])
  rw[hv'] at e1;cases e1
  cases (show v=Value.bool bs[i] from e2)
  have eg:bs.getD i true=bs[i]:=by simp[List.getD,hi]
  dsimp only at hq
  rw[eg] at hq
  exact wpAny_truthy_bool hq
 ·intro h' tk k
  refine⟨.bl (bs.any id),H,I.kept (h':=h') (t':=tk) (λb o e=>k b o (λz=>?_) (Heap.get?_push_of_some _ e)),?_,q⟩
  ·have:b=s.heap.objs.size:=by simpa using z
   exact Nat.lt_irrefl _ (by rw[this] at e;exact Heap.lt_size e)
  ·have es:its.toArray.size=bs.length:=by simpa using hlen
   rw[es]
   show Value.bool _=Value.bool _
   congr 1
   rw[Bool.eq_iff_iff,List.any_eq_true,List.any_eq_true]
   constructor
   ·rintro⟨i,hi,e⟩
    have hi':=List.mem_range.mp hi
    refine⟨bs[i],List.getElem_mem hi',?_⟩
    simpa [List.getD,hi'] using e
   ·rintro⟨b,hb,e⟩
    obtain⟨i,hi,e2⟩:=List.mem_iff_getElem.mp hb
    refine⟨i,List.mem_range.mpr hi,?_⟩
    have:bs.getD i true=bs[i]:=by simp[List.getD,hi]
    rw[this,e2]
    exact e
def best (ns:List Int):Nat->Int
 |0=>ns.getD 0 0
 |k+1=>if ns.getD (k+1) 0>best ns k then ns.getD (k+1) 0 else best ns k
theorem best_arg (ns:List Int):∀k,ns.getD (argBest (λi j=>decide (ns.getD i 0>ns.getD j 0)) k) 0=best ns k/\argBest (λi j=>decide (ns.getD i 0>ns.getD j 0)) k<=k
 |0=>⟨rfl,Nat.le_refl _⟩
 |k+1=>by
  obtain⟨h1,h2⟩:=best_arg ns k
  unfold argBest best
  rw[<- h1]
  by_cases hc:ns.getD (k+1) 0>ns.getD (argBest (λi j=>decide (ns.getD i 0>ns.getD j 0)) k) 0
  ·rw[if_pos (decide_eq_true hc),if_pos hc]
   exact⟨rfl,Nat.le_refl _⟩
  ·rw[if_neg (by simpa using hc),if_neg hc]
   exact⟨rfl,Nat.le_succ_of_le h2⟩
theorem call_maxL (hc:X.calm=true):CallR X (.builtin "max") (λxs H Q=>∃(p:Addr) (ns:List Int),xs=[.ref p]/\H p=some (.lst (ns.map V.int))/\ns≠[]/\Q (.int (best ns (ns.length-1))) H):=by
 intro pins s σ H xs us Q I r h
 obtain⟨p,ns,rfl,hp,hne,q⟩:=h
 obtain⟨u,rfl,rx⟩:=vals1 r
 cases rx
 obtain⟨z,its,n,rv,hl⟩:=I.hok p _ hp
 have isl:s.heap.IsList p its.toArray:=⟨_,hl,rfl,_,rfl⟩
 have hlen:its.length=ns.length:=by have:=rv.length;simpa using this.symm
 have np:p≠s.heap.objs.size:=Nat.ne_of_lt (Heap.lt_size hl)
 have es:its.toArray.size=ns.length:=by simpa using hlen
 have pos:0<ns.length:=List.length_pos_iff.mpr hne
 have item:∀(i:Nat) (v:Value),its.toArray[i]?=some v->∃t,v=.int (ns.getD i 0) t:=λi v hv=>by
  have hv':its[i]?=some v:=by simpa using hv
  have hi:i<ns.length:=by rw[<- hlen];exact (List.getElem?_eq_some_iff.mp hv').1
  obtain⟨w',e1,t,e2⟩:=rv.get (x:=V.int (ns[i])) (i:=i) (by simp[hi])
  rw[hv'] at e1;cases e1
  exact⟨t,by rw[e2];simp[List.getD,hi]⟩
 refine call_max_walkS (wpAny_pyIter_list isl ?_)
 refine⟨s.heap.objs.size,_,_,_,_,_,_,λi j=>decide (ns.getD i 0>ns.getD j 0),rfl,(Walks.list (A:=X.A.in1) (I.ok.hd hc) s.heap.objs.size p np its.toArray).toS,⟨⟨_,Heap.get?_push_size _ rfl,rfl,rfl⟩,isl.at λo e=>Heap.get?_push_of_some _ e⟩,?_,by rw[es];exact pos,?_,?_⟩
 ·intro b hb
  rw[Heap.size_push]
  rcases List.mem_cons.mp hb with rfl|hb
  ·exact Nat.lt_succ_self _
  ·have:b=p:=by simpa using hb
   subst this
   exact Nat.lt_succ_of_lt (Heap.lt_size hl)
 ·intro i j vi vj s' Q' E' hi hj hq
  obtain⟨t,rfl⟩:=item i vi hi
  obtain⟨t',rfl⟩:=item j vj hj
  exact gt_int hq
 ·intro v s' hv mv
  rw[es] at hv
  obtain⟨t,rfl⟩:=item _ v hv
  rw[(best_arg ns (ns.length-1)).1]
  refine⟨.int _,H,moved_inv I mv (λb o e hb=>?_),⟨t,rfl⟩,q⟩
  have:b=s.heap.objs.size:=by simpa using hb
  exact Nat.lt_irrefl _ (by rw[this] at e;exact Heap.lt_size e)
end
end L2
namespace L2
open PySem PySem.Spec PyProof.Rows PySem.W
section
variable {X:Cx}
theorem kV_of {P:Program}{w:World}{k:Key}{v:Value}(h:(mixKind P w).is k v=true):RelV (kV k) v:=by
 rcases keyIs_shape (show keyIs k v=true from h) with ⟨i,t,rfl,rfl⟩|⟨x,t,rfl,rfl⟩
 ·exact⟨t,rfl⟩
 ·exact⟨t,rfl⟩
theorem vals_of:∀{xs:List V}{us:List Value},xs.length=us.length->(∀(i:Nat) x v,xs[i]?=some x->us[i]?=some v->RelV x v)->Vals xs us
 |[],[],_,_=>.nil
 |[],_::_,h,_=>by simp at h
 |_::_,[],h,_=>by simp at h
 |x::xs,u::us,h,f=>.cons (f 0 x u rfl rfl) (vals_of (by simpa using h) λi y v hy hv=>f (i+1) y v (by simpa using hy) (by simpa using hv))
theorem call_listD (hc:X.calm=true):CallR X (.type "list") (λxs H Q=>∃(d:Addr) (kvs:List (Key×V)),xs=[.ref d]/\H d=some (.dK kvs)/\∀l,H l=none->Q (.ref l) (upd H l (.lst (kvs.map λkv=>kV kv.1)))):=by
 intro pins s σ H xs us Q I r h
 obtain⟨d,kvs,rfl,hd,q⟩:=h
 obtain⟨u,rfl,ru⟩:=vals1 r
 cases ru
 obtain⟨z,lo,vs,rel,dd⟩:=dk_of I.hok hd
 obtain⟨ep,hat⟩:=dd.dictAt
 have hl:=rel.length
 refine kdl_call (kdl_dict (knd:=mixKind X.prog X.w) (kvs:=vs) (ep:=ep) lo) (I.ok.hd hc) hat (by rw[<- hl];exact z) λh' tk acc c kp ho hacc=>?_
 refine⟨.ref s.heap.objs.size,_,I.laid (a:=s.heap.objs.size) (o:=.lst (kvs.map λkv=>kV kv.1)) (t':=tk) kp (Nat.le_refl _) ⟨by simpa using z,acc.toList,c,?_,by simpa using ho⟩,rfl,q _ I.fresh⟩
 refine vals_of (by simp[hl,hacc.1]) λi x v hx hv=>?_
 rw[List.getElem?_map] at hx
 obtain⟨kv,hkv,rfl⟩:=Option.map_eq_some_iff.mp hx
 obtain⟨k,y,hk,his⟩:=hacc.2 i v (by simpa using hv)
 have e1:vs[i]?=some (k,y):=hk
 have e2:kv.1=k:=by
  have z1:(kvs.map (·.1))[i]?=some kv.1:=by rw[List.getElem?_map,hkv];rfl
  have z2:(vs.map (·.1))[i]?=some k:=by rw[List.getElem?_map,e1];rfl
  rw[rel.keys] at z1
  rw[z1] at z2
  exact Option.some.inj z2
 rw[e2]
 exact kV_of his
theorem call_range1V:CallR X (.type "range") (λxs H Q=>∃n:Int,xs=[.int n]/\∀r,H r=none->Q (.ref r) (upd H r (.rng 0 n))):=by
 intro pins s σ H xs us Q I r h
 obtain⟨n,rfl,q⟩:=h
 obtain⟨u,rfl,t,rfl⟩:=vals1 r
 exact call_range_1 ⟨.ref s.heap.objs.size,_,I.laid (a:=s.heap.objs.size) (o:=.rng 0 n) (λb o e=>Heap.get?_push_of_some _ e) (Nat.le_refl _) ⟨_,_,_,Heap.get?_push_size _ rfl⟩,rfl,q _ I.fresh⟩
theorem call_listR (hc:X.calm=true):CallR X (.type "list") (λxs H Q=>∃(r:Addr) (n:Nat),xs=[.ref r]/\H r=some (.rng 0 (n:Int))/\n<=1000000/\∀l,H l=none->Q (.ref l) (upd H l (.lst ((List.range n).map λ(i:Nat)=>V.int (i:Int))))):=by
 intro pins s σ H xs us Q I rv h
 obtain⟨r,n,rfl,hr,hn,q⟩:=h
 obtain⟨u,rfl,ru⟩:=vals1 rv
 cases ru
 obtain⟨t,u,v,ho⟩:=I.hok r _ hr
 refine call_list_range (a:=0) (b:=n) (c:=1) (n:=n) (I.ok.hd hc) ho (small_one (by lia) (by lia) (by lia) (by lia)) (by rw[rangeSize_one];split<;>lia) (by lia) λh' tk acc c kp ho' hacc=>?_
 refine⟨.ref s.heap.objs.size,_,I.laid (a:=s.heap.objs.size) (o:=.lst ((List.range n).map λ(i:Nat)=>V.int (i:Int))) (t':=tk) kp (Nat.le_refl _) ⟨?_,acc.toList,c,?_,by simpa using ho'⟩,rfl,q _ I.fresh⟩
 ·rw[List.length_map,List.length_range,sizeLine_eq]
  lia
 ·refine vals_of (by simp[hacc.1]) λi x v hx hv=>?_
  rw[List.getElem?_map] at hx
  obtain⟨j,hj,rfl⟩:=Option.map_eq_some_iff.mp hx
  have e:j=i:=by
   obtain⟨_,e⟩:=List.getElem?_eq_some_iff.mp hj
   simpa using e.symm
  subst e
  obtain⟨t',rfl⟩:=hacc.2 j v (by simpa using hv)
  exact⟨t',by simp⟩
end
namespace TupMul
theorem noFill:fillsNumberSlot (.type "tuple") "mul" = pure false:=
 PySem.fillsNumberSlot_seq (id:= "tuple.__mul__") (r:=some (.builtin "tuple.__rmul__")) F.slot_tuple_mul.lookup (by decide +kernel) F.slot_tuple_rmul.lookup (by decide +kernel)
theorem rep:seqRepeat? (.type "tuple")=pure (some (.builtin "tuple.__mul__")):=by
 unfold seqRepeat?
 rw[PySem.seqSlot_of (T:= "tuple") (name:= "__mul__") (id:= "tuple.__mul__") F.slot_tuple_mul.lookup (by decide +kernel),PySem.seqSlot_of (T:= "tuple") (name:= "__rmul__") (id:= "tuple.__rmul__") F.slot_tuple_rmul.lookup (by decide +kernel)]
 rfl
theorem declines (a:Int) (t:Tok) (l:Addr) (items:Array Value) (n:Nat) (dct:Option Addr) (sl:Array (Option Value)) :
  Meets (Builtin.«int.__rmul__» ⟨[.int a t,.ref l],[]⟩) (λ_ R s=>s.heap.get? l=some { cls:=.type "tuple",dict:=dct,data:=.seq items n,slots:=sl }/\R (.ok (.ret Value.notImplemented)) s):=
 .of_wp λprog w A R s h=>by
  obtain⟨hp,g,d,tk,os⟩:=s
  obtain⟨hl,h⟩:=h
  wp_walk
  exact⟨_,rfl,h⟩
theorem mul (k:Int) (t:Tok) (l:Addr) (items:Array Value) (n:Nat) (dct:Option Addr) (sl:Array (Option Value)) (h1:1<k) (h2:k<=1000) (hs:items.size=1) :
  Meets (Builtin.«tuple.__mul__» ⟨[.ref l,.int k t],[]⟩) (λ_ R s=>s.heap.get? l=some { cls:=.type "tuple",dict:=dct,data:=.seq items n,slots:=sl } /\
   R (.ok (.ret (.ref s.heap.objs.size))) { s with heap:=s.heap.push { cls:=.type "tuple",data:=.seq ((List.replicate k.toNat items).foldl (·++·) #[]) } }):=
 .of_wp λprog w A R s h=>by
  obtain⟨hp,g,d,tk,os⟩:=s
  obtain⟨hl,h⟩:=h
  have c1:(decide (k < -2^63)||decide (k>=2^63))=false:=by simp;lia
  have c0:items.isEmpty=false:=by
   cases he:items.isEmpty with
   |false=>rfl
   |true=>rw[Array.isEmpty_iff.mp he] at hs;cases hs
  have c2:(items.isEmpty||k==1)=false:=by rw[c0];simp;lia
  have c3:(decide (k<=0)||items.isEmpty)=false:=by rw[c0];simp;lia
  have c4:¬((items.size:Int)*k>(2^63-1)/8):=by rw[hs];lia
  have c5:Builtin.Tuple.tupleTooMany ((items.size:Int)*k)=false:=by
   rw[hs]
   show decide (((1:Nat):Int)*k>(sizeLine:Int))=false
   rw[sizeLine_eq]
   exact decide_eq_false (by lia)
  wp_walk
  refine wpAny_ite_split (λz=>by rw[c1] at z;cases z) λ_=>?_
  wp_walk
  refine wpAny_ite_split (λz=>by rw[c2] at z;cases z) λ_=>?_
  refine wpAny_ite_split (λz=>by rw[c3] at z;cases z) λ_=>?_
  refine wpAny_ite_split (λz=>absurd z c4) λ_=>?_
  refine wpAny_ite_split (λz=>by rw[c5] at z;cases z) λ_=>?_
  wp_walk
  refine wpAny_ite_split (λz=>absurd z ?_) λ_=>?_
  ·have f:∀(m:Nat) (acc:Array Value),(List.foldl (λx1 x2=>x1++x2) acc (List.replicate m items)).size=acc.size+m:=λm=>by
    induction m with
    |zero=>intro acc;rfl
    |succ m ih=>
     intro acc
     rw[List.replicate_succ,List.foldl_cons,ih,Array.size_append,hs]
     lia
   rw[f,sizeLine_eq]
   simp
   lia
  wp_walk
  exact⟨_,rfl,h⟩
end TupMul
section
variable {X:Cx}
theorem op_repT:OpR X (binaryOp .Mult) (λx y H Q=>∃(l:Addr) (k:Int) (v:V),x=.ref l/\y=.int k/\H l=some (.tup [v])/\1<k/\k<=1000/\∀p,H p=none->Q (.ref p) (upd H p (.tup (List.replicate k.toNat v)))):=by
 intro pins s σ H x y v u Q I rx ry h
 obtain⟨l,k,v1,rfl,rfl,hH,h1,h2,q⟩:=h
 cases rx
 obtain⟨t,rfl⟩:=ry
 obtain⟨_,its,r,o,ho,hc,⟨n,hdn⟩,hd⟩:=I.hok l _ hH
 obtain⟨oc,od,odt,osl⟩:=o
 replace hc:oc=.type "tuple":=hc
 replace hd:odt=.seq its.toArray n:=hd
 subst hc hd
 cases r with
 |cons r1 rr=>
  cases rr
  rename_i u1
  have hnew:List.foldl (λx1 x2=>x1++x2) #[] (List.replicate k.toNat #[u1])=(List.replicate k.toNat u1).toArray:=by
   have f:∀(m:Nat) (acc:List Value),List.foldl (λx1 x2=>x1++x2) acc.toArray (List.replicate m #[u1])=(acc++List.replicate m u1).toArray:=λm=>by
    induction m with
    |zero=>intro acc;simp
    |succ m ih=>
     intro acc
     rw[List.replicate_succ,List.foldl_cons,show acc.toArray++#[u1]=(acc++[u1]).toArray by simp,ih]
     simp[List.replicate_succ]
   have:=f k.toNat []
   simpa using this
  refine wpAny_binaryOp_repeat_ref (T:= "tuple") (U:= "int") (by decide) ⟨_,ho,rfl⟩ (λs'=>typeIs_int s' k t) TupMul.noFill F.fills_int_mul F.slot_int_rmul TupMul.rep F.slot_int_index.lookup
   (call_meets F.slot_int_rmul (typeIs_int s k t) F.entry_int_rmul (F.args_int_rmul_2 _ _) (TupMul.declines k t l _ n od osl)
    ⟨ho,rfl,⟨_,ho,rfl⟩,call_meets F.slot_tuple_mul ⟨_,ho,rfl⟩ F.entry_tuple_mul (F.args_tuple_mul_2 _ _) (TupMul.mul k t l _ n od osl h1 h2 rfl) ⟨ho,?_⟩⟩)
  rw[hnew]
  refine⟨.ref _,_,I.laid (a:=s.heap.objs.size) (o:=.tup (List.replicate k.toNat v1)) (t':=s.toks) (λb o e=>Heap.get?_push_of_some _ e) (Nat.le_refl _) ⟨?_,List.replicate k.toNat u1,?_,_,Heap.get?_push_size _ rfl,rfl,⟨_,rfl⟩,rfl⟩,rfl,q _ I.fresh⟩
  ·rw[List.length_replicate,sizeLine_eq];lia
  ·generalize k.toNat=m
   induction m with
   |zero=>exact .nil
   |succ m ih=>exact .cons r1 ih
end
end L2
namespace Qf
abbrev Row:=List Nat
def mx:List Nat->Nat
 |[]=>0
 |a::l=>max a (mx l)
theorem le_mx {x:Nat}:∀{l:List Nat},x∈l->x<=mx l
 |a::l,h=>by
  rcases List.mem_cons.mp h with rfl|h
  ·exact Nat.le_max_left _ _
  ·exact Nat.le_trans (le_mx h) (Nat.le_max_right _ _)
theorem mx_le {b:Nat}:∀{l:List Nat},(∀x∈l,x<=b)->mx l<=b
 |[],_=>Nat.zero_le _
 |a::l,h=>Nat.max_le.mpr ⟨h a List.mem_cons_self,mx_le λx hx=>h x (List.mem_cons_of_mem _ hx)⟩
theorem mx_congr {f g:Nat->Nat}{l:List Nat}(h:∀x∈l,f x=g x):mx (l.map f)=mx (l.map g):=by
 rw[List.map_congr_left h]
def RowOk (p:Nat) (r:Row):Prop:=r.length=4/\∀x∈r,x<p+2
def RowsOk (rows:List Row):Prop:=∀p r,rows[p]?=some r->RowOk p r
def depStep (ds:List Nat) (r:Row):List Nat:=ds++[1+mx (r.map (ds.getD · 0))]
def deps (rows:List Row):List Nat:=rows.foldl depStep [0,0]
def dp (rows:List Row) (x:Nat):Nat:=(deps rows).getD x 0
theorem deps_snoc (rows:List Row) (r:Row):deps (rows++[r])=deps rows++[1+mx (r.map (dp rows))]:=by
 unfold deps dp deps
 rw[List.foldl_append]
 rfl
theorem snoc_ind {P:List Row->Prop}(h0:P []) (h1:∀l a,P l->P (l++[a])) (l:List Row):P l:=by
 have:∀m:List Row,P m.reverse:=λm=>by
  induction m with
  |nil=>exact h0
  |cons a m ih=>rw[List.reverse_cons];exact h1 _ _ ih
 have h:=this l.reverse
 rwa [List.reverse_reverse] at h
theorem deps_len (rows:List Row):(deps rows).length=rows.length+2:=by
 induction rows using snoc_ind with
 |h0=>rfl
 |h1 l a ih=>rw[deps_snoc,List.length_append,ih,List.length_append];simp
theorem dp_snoc_lt {rows:List Row}{r:Row}{x:Nat}(h:x<rows.length+2):dp (rows++[r]) x=dp rows x:=by
 unfold dp
 rw[deps_snoc,List.getD_eq_getElem?_getD,List.getD_eq_getElem?_getD,List.getElem?_append_left (by rw[deps_len];exact h)]
theorem dp_snoc_at {rows:List Row}{r:Row}:dp (rows++[r]) (rows.length+2)=1+mx (r.map (dp rows)):=by
 unfold dp
 rw[deps_snoc,List.getD_eq_getElem?_getD,List.getElem?_append_right (by rw[deps_len];exact Nat.le_refl _),deps_len]
 simp only[Nat.sub_self,List.getElem?_cons_zero,Option.getD_some]
 rfl
theorem dp_append_lt {rows more:List Row}{x:Nat}(h:x<rows.length+2):dp (rows++more) x=dp rows x:=by
 induction more using snoc_ind with
 |h0=>simp
 |h1 l a ih=>
  rw[<- List.append_assoc,dp_snoc_lt (by simp;lia),ih]
theorem dp_low {rows:List Row}{x:Nat}(h:x<2):dp rows x=0:=by
 have:=dp_append_lt (rows:=[]) (more:=rows) (x:=x) (by simpa using h)
 rw[List.nil_append] at this
 rw[this]
 match x,h with
 |0,_=>rfl
 |1,_=>rfl
theorem take_next {rows:List Row}{p:Nat}{r:Row}(hp:rows[p]?=some r):rows=rows.take p++[r]++rows.drop (p+1):=by
 have hlt:=(List.getElem?_eq_some_iff.mp hp).1
 have he:=(List.getElem?_eq_some_iff.mp hp).2
 rw[<- he,List.take_append_getElem hlt,List.take_append_drop]
theorem dp_at {rows:List Row}(ok:RowsOk rows){p:Nat}{r:Row}(hp:rows[p]?=some r):dp rows (p+2)=1+mx (r.map (dp rows)):=by
 have hlt:=(List.getElem?_eq_some_iff.mp hp).1
 have hl:(rows.take p).length=p:=by simp;lia
 have e:=take_next hp
 have h1:dp rows (p+2)=dp (rows.take p++[r]) (p+2):=by
  have:=dp_append_lt (rows:=rows.take p++[r]) (more:=rows.drop (p+1)) (x:=p+2) (by simp;lia)
  rw[<- e] at this
  exact this
 have h2:=dp_snoc_at (rows:=rows.take p) (r:=r)
 rw[hl] at h2
 rw[h1,h2]
 congr 1
 refine mx_congr λx hx=>?_
 have hx2:=(ok p r hp).2 x hx
 have:=dp_append_lt (rows:=rows.take p) (more:=[r]++rows.drop (p+1)) (x:=x) (by rw[hl];exact hx2)
 rw[<- List.append_assoc,<- e] at this
 exact this.symm
def dfs (rows:List Row):Nat->List Nat->Nat->List Nat
 |0,e,_=>e
 |d+1,e,x=>if x<2\/x-2∈e then e else (rows.getD (x-2) []).foldl (dfs rows d) e++[x-2]
theorem foldl_ext {f:List Nat->Nat->List Nat}(h:∀e x,∃s,f e x=e++s):∀(l:List Nat) (e:List Nat),∃s,l.foldl f e=e++s
 |[],e=>⟨[],by simp⟩
 |a::l,e=>by
  obtain⟨s,hs⟩:=h e a
  obtain⟨s',hs'⟩:=foldl_ext h l (f e a)
  exact⟨s++s',by rw[List.foldl_cons,hs',hs,List.append_assoc]⟩
theorem dfs_ext (rows:List Row):∀(d:Nat) (e:List Nat) (x:Nat),∃s,dfs rows d e x=e++s
 |0,e,x=>⟨[],by simp[dfs]⟩
 |d+1,e,x=>by
  unfold dfs
  split
  ·exact⟨[],by simp⟩
  ·obtain⟨s,hs⟩:=foldl_ext (dfs_ext rows d) (rows.getD (x-2) []) e
   exact⟨s++[x-2],by rw[hs,List.append_assoc]⟩
structure Post (rows:List Row) (e:List Nat):Prop where
 nd:e.Nodup
 lt:∀p∈e,p<rows.length
 ch:∀(i p:Nat),e[i]?=some p->∀q∈rows.getD p [],q<2\/∃j:Nat,j<i/\e[j]?=some (q-2)
theorem post_nil (rows:List Row):Post rows []:=⟨List.nodup_nil,λp hp=>(nomatch hp),λi p h=>by simp at h⟩
theorem mem_pre {e s:List Nat}{j a:Nat}(h:e[j]?=some a):(e++s)[j]?=some a:=by
 have:=(List.getElem?_eq_some_iff.mp h).1
 rw[List.getElem?_append_left this];exact h
theorem dfs_post {rows:List Row}(ok:RowsOk rows):∀(d:Nat) (e:List Nat) (x:Nat),Post rows e->x<rows.length+2->dp rows x<=d->Post rows (dfs rows d e x)/\(x<2\/x-2∈dfs rows d e x)
 |0,e,x,pe,hx,hd=>by
  refine⟨pe,?_⟩
  by_cases h:x<2
  ·exact .inl h
  ·exfalso
   obtain⟨p,rfl⟩:∃p,x=p+2:=⟨x-2,by lia⟩
   have hp:rows[p]?=some (rows[p]'(by lia)):=by simp[show p<rows.length by lia]
   rw[dp_at ok hp] at hd
   lia
 |d+1,e,x,pe,hx,hd=>by
  unfold dfs
  split
  ·rename_i h
   exact⟨pe,h⟩
  ·rename_i h
   obtain⟨h1,h2⟩:=not_or.mp h
   obtain⟨p,rfl⟩:∃p,x=p+2:=⟨x-2,by lia⟩
   rw[Nat.add_sub_cancel] at h2 ⊢
   have hlt:p<rows.length:=by lia
   have hp:rows[p]?=some rows[p]:=by simp[hlt]
   have eg:rows.getD p []=rows[p]:=by simp[List.getD,hlt]
   rw[eg]
   have hdp:=dp_at ok hp
   have rk:=ok p _ hp
   have key:∀(l:List Nat) (e0:List Nat),(∀q∈l,q<p+2/\dp rows q<=d)->Post rows e0->Post rows (l.foldl (dfs rows d) e0)/\(∀q∈l,q<2\/q-2∈l.foldl (dfs rows d) e0)/\(∀a∈l.foldl (dfs rows d) e0,a∈e0\/a<p):=λl=>by
    induction l with
    |nil=>exact λe0 _ pe0=>⟨pe0,λq hq=>(nomatch hq),λa ha=>.inl ha⟩
    |cons q l ih=>
     intro e0 hl pe0
     obtain⟨hq1,hq2⟩:=hl q List.mem_cons_self
     obtain⟨p1,m1⟩:=dfs_post ok d e0 q pe0 (by lia) hq2
     obtain⟨p2,m2,n2⟩:=ih (dfs rows d e0 q) (λq' hq'=>hl q' (List.mem_cons_of_mem _ hq')) p1
     obtain⟨s,hs⟩:=foldl_ext (dfs_ext rows d) l (dfs rows d e0 q)
     refine⟨p2,λq' hq'=>?_,λa ha=>?_⟩
     ·rcases List.mem_cons.mp hq' with rfl|hq'
      ·rcases m1 with z|z
       ·exact .inl z
       ·rw[List.foldl_cons,hs];exact .inr (List.mem_append_left _ z)
      ·exact m2 q' hq'
     ·rcases n2 a ha with z|z
      ·
       have below:∀(d0:Nat) (e1:List Nat) (y:Nat),y<rows.length+2->∀a∈dfs rows d0 e1 y,a∈e1\/a+2<=y:=λd0=>by
        induction d0 with
        |zero=>exact λe1 y _ a ha=>.inl ha
        |succ d0 ihd=>
         intro e1 y hy a ha
         unfold dfs at ha
         split at ha
         ·exact .inl ha
         ·rename_i hh
          obtain⟨hh1,hh2⟩:=not_or.mp hh
          rcases List.mem_append.mp ha with ha|ha
          ·have hy2:y-2<rows.length:=by lia
           have eg2:rows.getD (y-2) []=rows[y-2]:=by simp[List.getD,hy2]
           rw[eg2] at ha
           have rk2:=ok (y-2) rows[y-2] (by simp[hy2])
           have kk:∀(l2:List Nat) (e2:List Nat),(∀q∈l2,q<y-2+2)->∀a∈l2.foldl (dfs rows d0) e2,a∈e2\/a+2<=y:=λl2=>by
            induction l2 with
            |nil=>exact λe2 _ a ha=>.inl ha
            |cons q2 l2 ih2=>
             intro e2 hl2 a ha
             rcases ih2 _ (λq' hq'=>hl2 q' (List.mem_cons_of_mem _ hq')) a ha with z|z
             ·have hq2:=hl2 q2 List.mem_cons_self
              rcases ihd e2 q2 (by lia) a z with z|z
              ·exact .inl z
              ·exact .inr (by lia)
             ·exact .inr z
           exact kk _ _ rk2.2 a ha
          ·have:a=y-2:=by simpa using ha
           exact .inr (by lia)
       rcases below d e0 q (by lia) a z with z|z
       ·exact .inl z
       ·exact .inr (by lia)
      ·exact .inr z
   obtain⟨k1,k2,k3⟩:=key rows[p] e (λq hq=>⟨rk.2 q hq,by
    have:dp rows q<=mx (rows[p].map (dp rows)):=le_mx (List.mem_map.mpr ⟨q,hq,rfl⟩)
    lia⟩) pe
   refine⟨⟨?_,?_,?_⟩,.inr (List.mem_append_right _ (by simp))⟩
   ·rw[List.nodup_append]
    refine⟨k1.nd,by simp,λa ha b hb=>?_⟩
    have:b=p:=by simpa using hb
    subst this
    intro z
    subst z
    rcases k3 a ha with z|z
    ·exact h2 z
    ·exact Nat.lt_irrefl _ z
   ·intro a ha
    rcases List.mem_append.mp ha with ha|ha
    ·exact k1.lt a ha
    ·have:a=p:=by simpa using ha
     lia
   ·intro i a hi q hq
    by_cases hlen:i<(rows[p].foldl (dfs rows d) e).length
    ·rw[List.getElem?_append_left hlen] at hi
     rcases k1.ch i a hi q hq with z|⟨j,hj,ej⟩
     ·exact .inl z
     ·exact .inr ⟨j,hj,mem_pre ej⟩
    ·rw[List.getElem?_append_right (by lia)] at hi
     have hi0:i-(rows[p].foldl (dfs rows d) e).length=0:=by
      have:=(List.getElem?_eq_some_iff.mp hi).1
      simp at this
      lia
     rw[hi0] at hi
     have:a=p:=by simpa using hi.symm
     subst this
     rw[eg] at hq
     rcases k2 q hq with z|z
     ·exact .inl z
     ·obtain⟨j,hj,ej⟩:=List.mem_iff_getElem.mp z
      exact .inr ⟨j,by lia,mem_pre (by simp[hj,ej])⟩
theorem nd_iff {α:Type}{l:List α}:l.Nodup<->∀i j:Nat,i<j->j<l.length->l[i]?≠l[j]?:=by
 unfold List.Nodup
 rw[List.pairwise_iff_getElem]
 constructor
 ·intro h i j hij hj z
  rw[List.getElem?_eq_getElem (by lia),List.getElem?_eq_getElem hj] at z
  exact h i j (by lia) hj hij (Option.some.inj z)
 ·intro h i j hi hj hij z
  refine h i j hij hj ?_
  rw[List.getElem?_eq_getElem hi,List.getElem?_eq_getElem hj,z]
theorem getD_at {rows:List Row}{p:Nat}(h:p<rows.length):rows[p]?=some (rows.getD p []):=by
 simp[List.getD,h]
def Plain (r:Row):Prop:=r=[0,0,0,0]\/r=[1,1,1,1]
instance (r:Row):Decidable (Plain r):=by unfold Plain;infer_instance
structure Canon (n top:Nat) (rows:List Row):Prop where
 size:n<=12
 rok:RowsOk rows
 inn:top<rows.length+2
 deep:dp rows top<=n
 unplain:∀r∈rows,¬Plain r
 unlike:rows.Nodup
 ends:dfs rows n [] top=List.range rows.length
end Qf
namespace L2
open PySem PySem.Spec PyProof.Rows PySem.W
section
variable {X:Cx}
def Its (z:Str):It:=⟨λi _=>i<z.cps.size,λi H x H'=>H'=H/\∃c,z.cps[i]?=some c/\x=.str ⟨#[c]⟩,λi _=>z.cps.size<=i⟩
theorem turn_str {P:Program}{w:World}{K:PySem.W.Frag}{x:Str}{px:Pos}(it:Addr) (z:Str) (t:Tok) (kind:String) (hkd:kind = "str_ascii_iterator" \/ kind = "str_iterator")
  (W:∀A:Around,A.handled=none->Walks P w A it [it] [it] z.cps.size (SignAt z) (λi h=>h.IsStrIter it kind z t i)):Turn P w K (.Name x px) (Its z) [it] it (λi h=>i<=z.cps.size/\h.IsStrIter it kind z t i) where
 mem:=by simp
 obj:=λi h st b hb=>by
  have e:b=it:=by simpa using hb
  subst e
  obtain⟨_,o,e,c,d⟩:=st
  exact⟨o,e,λv q=>by rw[d] at q;cases q⟩
 keep:=λi h h' st k=>⟨st.1,by
  obtain⟨_,o,e,r⟩:=st
  exact⟨o,k it (by simp) o e,r⟩⟩
 item:=by
  intro X hP hw hK hc i pins s σ H E I hf st hg
  subst hP hw hK
  obtain⟨f0,f1,f2,f3,f4,f5⟩:=hf it (by simp)
  have hg':i<z.cps.size:=hg
  refine (W X.A (I.ok.hd hc)).item i s _ _ hg' st.2 λv h' tk hv st' kk=>?_
  obtain⟨c,u,e1,rfl⟩:=hv
  have I1:Inv X pins σ H { s with heap:=h',toks:=tk }:=I.turned (λb o hb e=>kk b o (by simpa using hb) e) f0 f1 f3 f4 f5
  exact⟨_,rfl,wpAny_pure ⟨.str ⟨#[c]⟩,H,I1,⟨_,rfl⟩,⟨rfl,c,e1,rfl⟩,⟨hg',st'⟩,λb hb=>(hf b hb).1⟩⟩
 done:=by
  intro X hP hw hK hc i pins s σ H E I hf st hg
  subst hP hw hK
  obtain⟨f0,f1,f2,f3,f4,f5⟩:=hf it (by simp)
  have hi:i=z.cps.size:=Nat.le_antisymm st.1 hg
  subst hi
  exact (W X.A (I.ok.hd hc)).done s _ _ st.2 λh' tk kk=>⟨rfl,I.turned (λb o hb e=>kk b o (by simpa using hb) e) f0 f1 f3 f4 f5⟩
 self:=λA i s Q E st h=>by
  rcases hkd with ha|ha
  ·subst ha;exact wpAny_pyIter_striter_ascii st.2 h
  ·subst ha;exact wpAny_pyIter_striter_wide st.2 h
def iStr (te:TE):TI:=λσ H R=>te σ H λx H1=>∃z,x=.str z/\R (Its z) H1
theorem pi_str {e:Expr}{te:TE}{x:Str}{px:Pos}(he:PE X e te):PI X (.Name x px) e (iStr te):=by
 intro pins s σ H R I h
 refine thn (he pins s σ H _ I h) λv s1 ⟨y,H1,I1,r1,z,ez,q⟩=>?_
 subst ez
 obtain⟨t,rfl⟩:=r1
 have fp:∀b∈[s1.heap.objs.size],FpOk X pins H1 b:=λb hb=>by
  have e:b=s1.heap.objs.size:=by simpa using hb
  subst e
  exact I1.fpOk (Nat.le_refl _) (I1.hok.fresh (Nat.le_refl _))
 cases ha:z.cps.all (·<128) with
 |true=>
  refine wpAny_pyIter_ascii ha ?_
  exact⟨s1.heap.objs.size,[s1.heap.objs.size],_,_,H1,rfl,I1.kept (t':=s1.toks) (λb o e=>Heap.get?_push_of_some _ e),turn_str _ z t "str_ascii_iterator" (.inl rfl) (λA hA=>Walks.strAscii hA _ z t),⟨Nat.zero_le _,_,Heap.get?_push_size _ rfl,rfl,rfl⟩,fp,q⟩
 |false=>
  refine wpAny_pyIter_wide ha ?_
  exact⟨s1.heap.objs.size,[s1.heap.objs.size],_,_,H1,rfl,I1.kept (t':=s1.toks) (λb o e=>Heap.get?_push_of_some _ e),turn_str _ z t "str_iterator" (.inr rfl) (λA hA=>Walks.strWide hA _ z t),⟨Nat.zero_le _,_,Heap.get?_push_size _ rfl,rfl,rfl⟩,fp,q⟩
def Itd (lo:Int) (n:Nat):It:=⟨λi _=>i<n,λi H x H'=>H'=H/\x=.int (lo-i),λi _=>n<=i⟩
theorem turn_down {P:Program}{w:World}{K:PySem.W.Frag}{x:Str}{px:Pos}(it:Addr) (lo:Int) (n:Nat):Turn P w K (.Name x px) (Itd lo n) [it] it (λi h=>IsRangeIter h it (lo+(i:Nat)*(-1)) ((n:Int)-(i:Nat)) (-1)) where
 mem:=by simp
 obj:=λi h st b hb=>by
  have e:b=it:=by simpa using hb
  subst e
  exact⟨_,st,λv z=>by
   have z':Data.fields _=Data.cell v:=z
   cases z'⟩
 keep:=λi h h' st k=>k it (by simp) _ st
 item:=by
  intro X hP hw hK hc i pins s σ H E I hf st hg
  subst hP hw hK
  obtain⟨f0,f1,f2,f3,f4,f5⟩:=hf it (by simp)
  refine (Walks.range (prog:=X.prog) (w:=X.w) (I.ok.hd hc) it lo (-1) n).item i s _ _ hg st λv h' tk hv st' kk=>?_
  obtain⟨t,rfl⟩:=hv
  have I1:Inv X pins σ H { s with heap:=h',toks:=tk }:=I.turned (λb o hb e=>kk b o (by simpa using hb) e) f0 f1 f3 f4 f5
  refine⟨_,rfl,wpAny_pure ⟨.int (lo-i),H,I1,⟨t,?_⟩,⟨rfl,rfl⟩,st',λb hb=>(hf b hb).1⟩⟩
  rw[show lo+(i:Int)*(-1)=lo-i by lia]
 done:=by
  intro X hP hw hK hc i pins s σ H E I hf st hg
  subst hP hw hK
  obtain⟨f0,f1,f2,f3,f4,f5⟩:=hf it (by simp)
  exact wpAny_pyNext_range_end (I.ok.hd hc) st (by have:n<=i:=hg;lia) λh' eb=>⟨rfl,I.turned (t':=s.toks) (λb o hb e=>eb b o hb e) f0 f1 f3 f4 f5⟩
 self:=λ_ _ _ _ _ st h=>wpAny_pyIter_rangeiter st h
def iDown (ta:TA):TI:=λσ H R=>ta σ H λvs H1=>∃i j:Int,vs=[.int i,.int j,.int (-1)]/\(-1000000<=i/\i<=1000000/\-1000000<=j/\j<=1000000)/\R (Itd i (i-j).toNat) H1
theorem rangeSize_down (a b:Int):Builtin.Range.rangeSize a b (-1)=(((a-b).toNat:Nat):Int):=by
 unfold Builtin.Range.rangeSize
 rw[if_neg (by decide)]
 by_cases h:a>b
 ·rw[if_pos h,show (-(-1:Int))=1 by decide,Int.ediv_one]
  lia
 ·rw[if_neg h]
  lia
theorem small_down {a b:Int}(h1:-1000000<=a) (h2:a<=1000000) (h3:-1000000<=b) (h4:b<=1000000):Builtin.Range.small a b (-1)=true:=by
 unfold Builtin.Range.small
 rw[rangeSize_down]
 simp only[Builtin.Range.rangeFitsLong,Bool.and_eq_true,Bool.or_eq_true,decide_eq_true_eq,beq_iff_eq,show ¬((-1:Int)>0) by decide,if_false]
 lia
theorem pi_down {a b c:Expr}{ta:TA}{p pos px:Pos}{x:Str}(hg:Gl X "range") (hm:X.mg "range" = none) (ha:PA X [a,b,c] ta)
  (hs:starEach [a,b,c] X.env=[(false,eval a X.env),(false,eval b X.env),(false,eval c X.env)]:=by rfl) (hs2:starEach [b,c] X.env=[(false,eval b X.env),(false,eval c X.env)]:=by rfl) :
  PI X (.Name x px) (.Call (.Name "range" p) [a,b,c] [] pos) (iDown ta):=by
 intro pins s σ H R I h
 refine Call_ (ld_blt I hg hm boot_range (PyProof.Rows.callWith_type1 (thn (ha pos pins s σ H _ I h) λus s1 ⟨vs,H1,I1,r1,q1⟩=>?_) (by rw[hs,hs2]) (by rw[hs2];rfl)))
 obtain⟨i,j,e,⟨b1,b2,b3,b4⟩,q⟩:=q1
 subst e
 cases r1 with
 |cons r rr=>
  cases rr with
  |cons r' rr=>
   cases rr with
   |cons r'' rr=>
    cases rr
    obtain⟨t,rfl⟩:=r
    obtain⟨t',rfl⟩:=r'
    obtain⟨t'',rfl⟩:=r''
    refine call_range_3 (by decide) ?_ (Or.inl (PyProof.noPylong_small (by lia)))
    refine wpAny_pyIter_range (IsRange.new ..) ?_ ?_
    ·exact small_down b1 b2 b3 b4
    ·have I2:Inv X pins σ H1 { s1 with heap:=s1.heap.push { cls:=.type "range",data:=.fields #[.int i t,.int j t',.int (-1) t''] } }:=I1.kept (t':=s1.toks) λb o e=>Heap.get?_push_of_some _ e
     refine⟨(s1.heap.push { cls:=.type "range",data:=.fields #[.int i t,.int j t',.int (-1) t''] }).objs.size,[(s1.heap.push { cls:=.type "range",data:=.fields #[.int i t,.int j t',.int (-1) t''] }).objs.size],_,_,H1,rfl,
      I2.kept (t':=s1.toks) λb o e=>Heap.get?_push_of_some _ e,turn_down _ i (i-j).toNat,?_,λb hb=>?_,q⟩
     ·have e1:i+((0:Nat):Int)*(-1)=i:=by simp
      have e2:(((i-j).toNat:Nat):Int)-((0:Nat):Int)=Builtin.Range.rangeSize i j (-1):=by rw[rangeSize_down];simp
      show IsRangeIter _ _ (i+((0:Nat):Int)*(-1)) ((((i-j).toNat:Nat):Int)-((0:Nat):Int)) (-1)
      rw[e1,e2]
      exact Heap.get?_push_size _ rfl
     ·have e:b=(s1.heap.push { cls:=.type "range",data:=.fields #[.int i t,.int j t',.int (-1) t''] }).objs.size:=by simpa using hb
      subst e
      exact I2.fpOk (Nat.le_refl _) (I2.hok.fresh (Nat.le_refl _))
def tAsg2 (te:TE) (g1 g2:TG):TS:=λD σ H=>te σ H λx H1=>g1 x σ H1 λσ2 H2=>g2 x σ2 H2 D.nx
theorem ps_asg2 {t1 t2 e:Expr}{te:TE}{g1 g2:TG}{pos:Pos}(he:PE X e te) (h1:PG X t1 g1) (h2:PG X t2 g2) (hw:swappedStores [t1,t2] e X.env=pure none:=by rfl)
  (h3:(assignEach [t1,t2] X.env).map (·.2)=[assign t1 X.env,assign t2 X.env]:=by rfl):PS X (.Assign [t1,t2] e pos) (tAsg2 te g1 g2):=by
 intro pins s σ H D I h
 refine wpAny_Assign_two (thn (he pins s σ H _ I h) λv s1 ⟨x,H1,I1,r1,q1⟩=>?_) h3 hw
 refine thn (h1 pins s1 σ H1 x v _ I1 r1 q1) λ_ s2 ⟨σ2,H2,I2,q2⟩=>?_
 exact thn (h2 pins s2 σ2 H2 x v _ I2 r1 q2) λ_ s3 q=>q
def tDict0:TE:=λ_ H Q=>∀p,H p=none->Q (.ref p) (upd H p (.dK []))
theorem pe_dict0 {pos:Pos}:PE X (.Dict [] [] pos) tDict0:=λpins s σ H Q I h=>by
 have hb:sysModules<s.heap.objs.size:=Nat.lt_trans (by decide) (I.mod.glob.keeps I.bk).lt
 exact wpAny_Dict_empty ⟨.ref s.heap.objs.size,_,I.laid (a:=s.heap.objs.size) (o:=.dK []) (t':=s.toks) (λ_ _ q=>Heap.get?_push_of_some _ q) (Nat.le_refl _) ⟨Nat.zero_le _,beq_eq_false_iff_ne.mpr (Ne.symm (Nat.ne_of_lt hb)),[],.nil,Heap.DictOf.new _⟩,rfl,h _ (I.hok.fresh (Nat.le_refl _))⟩
end
end L2
namespace L2
open PySem PySem.Spec PyProof.Rows PySem.W
section
variable {X:Cx}
theorem pe_compB {x:Str}{px pos:Pos}{elt iter:Expr}{scope:Scope}{wi:TI}{te:TE}(N:List Str) (sc:Scope) (hNe:X.N=N) (hsc:X.env.scope=sc) (hc:X.calm=true) (hN:X.N.Nodup) (hi:PI X (.Name x px) iter wi) (he:∀cl C fp s₀ H₀,PE (compCx X scope cl C x fp s₀ H₀) elt te)
  (hkind:scope.kind=.function:=by rfl) (hcell:scope.names.all (λy=>y.2 != .cell)=true:=by decide +kernel) (hnames:scope.names.all (λy=>y.2 != .local||scope.names.lookup y.1==some .local)=true:=by decide +kernel)
  (hx:scope.names.lookup x=some .local:=by rfl) (hloc:N.all (λy=>scope.names.lookup y != some .local)=true:=by decide +kernel)
  (hfr:scope.names.all (λp=>p.2 != .free||(sc.names.lookup p.1==some .cell||sc.names.lookup p.1==some .free))=true:=by decide +kernel)
  (hs:∀x,foldedSetIterable iter X.env x=pure x:=by intro _;rfl):PE X (.ListComp elt [⟨.Name x px,iter,[],0⟩] scope pos) (tComp wi te):=by
 refine pe_comp hc hN hi he hkind (λy hy=>?_) (λy hy hl=>?_) hx (λy hy=>?_) (λp hp hk=>?_) hs
 ·have:=List.all_eq_true.mp hcell y hy
  simpa using this
 ·have:=List.all_eq_true.mp hnames y hy
  simpa [hl] using this
 ·have:=List.all_eq_true.mp hloc y (by rw[<- hNe];exact hy)
  simpa using this
 ·have:=List.all_eq_true.mp hfr p hp
  rw[hk] at this
  have z:sc.names.lookup p.1=some .cell\/sc.names.lookup p.1=some .free:=by simpa using this
  rw[hsc]
  refine⟨.inr z,λq=>?_⟩
  rcases z with z|z<;>(rw[z] at q;cases q)
end
end L2
namespace L2
open PySem
theorem keepU {H:Hp}{a b:Addr}{o u:HO}(e:H a=some o) (hn:H b=none):upd H b u a=some o:=by rw[upd_ne (ne_of_none e hn)];exact e
theorem sameU {H:Hp}{a:Addr}{o:HO}(h:H a=none):Same H (upd H a o):=λb u e=>keepU e h
def Tups (H H':Hp):Prop:=∀b u,H b=some (.tup u)->H' b=some (.tup u)
theorem Same.tups {H H':Hp}(s:Same H H'):Tups H H':=λb u e=>s b _ e
structure Goes (J:It) (H:Hp) (n:Nat) (item:Nat->V->Hp->Prop):Prop where
 go:∀i H2,i<n->Same H H2->J.go i H2
 yl:∀i H2 y H3,i<n->Same H H2->J.yld i H2 y H3->Same H2 H3/\item i y H3
 st:∀H2,Same H H2->J.stop n H2
theorem goes_tup {K:PySem.W.Frag}{H:Hp}{a:Addr}{xs:List V}(ha:H a=some (.tup xs)):Goes (Itt K a) H xs.length (λi y _=>xs[i]?=some y) where
 go:=λi H2 hi s=>⟨xs,xs[i],SqT.of (s _ _ ha),by simp[hi]⟩
 yl:=λi H2 y H3 hi s h=>by
  obtain⟨e,h⟩:=h
  subst e
  exact⟨Same.refl _,h xs (SqT.of (s _ _ ha))⟩
 st:=λH2 s=>⟨xs,SqT.of (s _ _ ha),Nat.le_refl _⟩
theorem goes_lst {K:PySem.W.Frag}{H:Hp}{a:Addr}{xs:List V}(ha:H a=some (.lst xs)):Goes (Itl K a) H xs.length (λi y _=>xs[i]?=some y) where
 go:=λi H2 hi s=>⟨xs,xs[i],SqL.of (s _ _ ha),by simp[hi]⟩
 yl:=λi H2 y H3 hi s h=>by
  obtain⟨e,h⟩:=h
  subst e
  exact⟨Same.refl _,h xs (SqL.of (s _ _ ha))⟩
 st:=λH2 s=>⟨xs,SqL.of (s _ _ ha),Nat.le_refl _⟩
theorem goes_enum {K:PySem.W.Frag}{H:Hp}{a:Addr}{xs:List V}(ha:H a=some (.tup xs)):Goes (Ite K a) H xs.length (λi y H3=>∃p x,y=.ref p/\xs[i]?=some x/\H3 p=some (.tup [.int i,x])) where
 go:=λi H2 hi s=>⟨xs,xs[i],SqT.of (s _ _ ha),by simp[hi]⟩
 yl:=λi H2 y H3 hi s h=>by
  obtain⟨p,x,hp,hx,rfl,rfl⟩:=h
  exact⟨sameU hp,p,x,rfl,hx xs (SqT.of (s _ _ ha)),upd_same⟩
 st:=λH2 s=>⟨xs,SqT.of (s _ _ ha),Nat.le_refl _⟩
theorem comp_walk {J:It}{H:Hp}{n:Nat}{item:Nat->V->Hp->Prop}{te:TE}{σ:St}{Fin:Hp->Prop}{D:Addr}(hD:H D=none) (Rel:Nat->V->Hp->Prop) (G:Goes J H n item) (hsz:n<sizeLine)
  (mono:∀i y H1 H2,i<n->Tups H1 H2->Rel i y H1->Rel i y H2)
  (step:∀i x H2,i<n->item i x H2->Same H H2->∀Q':VK,(∀y H3,Same H2 H3->Rel i y H3->Q' y H3)->te (some x::σ) H2 Q')
  (fin:∀ys H2,Same H H2->H2 D=some (.lst ys)->ys.length=n->(∀i y,ys[i]?=some y->Rel i y H2)->Fin H2) :
  ∃W:Nat->Nat->List V->Hp->Prop,(∃m,W 0 m [] (upd H D (.lst []))) /\
   ∀i m xs H2,W i m xs H2->H2 D=some (.lst xs)/\xs.length<sizeLine/\((J.stop i H2/\Fin H2)\/(J.go i H2/\∀y H3,J.yld i H2 y H3 ->
    te (some y::σ) H3 λv H4=>H4 D=some (.lst xs)/\∃m',m'<m/\W (i+1) m' (xs++[v]) (upd H4 D (.lst (xs++[v]))))):=by
 refine⟨λi m ys H2=>i<=n/\m=n-i/\ys.length=i/\H2 D=some (.lst ys)/\Same H H2/\∀j y,ys[j]?=some y->Rel j y H2,⟨n,Nat.zero_le _,rfl,rfl,upd_same,sameU hD,λj y h=>by simp at h⟩,?_⟩
 rintro i m ys H2 ⟨hi,rfl,hl,hd,s2,rel⟩
 refine⟨hd,by lia,?_⟩
 by_cases he:i=n
 ·subst he
  exact .inl ⟨G.st H2 s2,fin ys H2 s2 hd hl rel⟩
 ·refine .inr ⟨G.go i H2 (by lia) s2,λy H3 hy=>?_⟩
  obtain⟨s3,it⟩:=G.yl i H2 y H3 (by lia) s2 hy
  refine step i y H3 (by lia) it (s2.trans s3) _ λv H4 s4 r4=>?_
  have hd4:=s4 _ _ (s3 _ _ hd)
  refine⟨hd4,n-(i+1),by lia,by lia,rfl,by rw[List.length_append,hl];rfl,upd_same,?_,?_⟩
  ·intro b o e
   rw[upd_ne (ne_of_none e hD)]
   exact s4 _ _ (s3 _ _ (s2 _ _ e))
  ·have tk:Tups H4 (upd H4 D (.lst (ys++[v]))):=λb u e=>by
    have:b≠D:=λz=>by subst z;rw[hd4] at e;cases e
    rw[upd_ne this];exact e
   intro j z hz
   by_cases hj:j<i
   ·rw[List.getElem?_append_left (by lia)] at hz
    exact mono j z H4 _ (by lia) tk (mono j z H2 H4 (by lia) (s3.trans s4).tups (rel j z hz))
   ·rw[List.getElem?_append_right (by lia)] at hz
    have:j-ys.length=0:=by
     have:=(List.getElem?_eq_some_iff.mp hz).1
     simp at this
     lia
    rw[this] at hz
    have:z=v:=by simpa using hz.symm
    subst this
    have:j=i:=by lia
    subst this
    exact mono _ _ H4 _ (by lia) tk r4
theorem compG_walk {J:It}{H:Hp}{n k:Nat}{item:Nat->V->Hp->Prop}{g:TG}{tt:TT}{te:TE}{σ:St}{Fin:Hp->Prop}{D:Addr}(hD:H D=none) (yes:Nat->Bool) (val:Nat->V) (G:Goes J H n item) (hsz:n<sizeLine)
  (step:∀i x H2,i<n->item i x H2->Same H H2->∀os:St,os.length=k->∀(Q1:Hp->Prop) (Q2:VK),(yes i=false->∀H3,Same H2 H3->Q1 H3)->(yes i=true->∀H3,Same H2 H3->Q2 (val i) H3) ->
   g x (os++σ) H2 λσ4 H4=>tt σ4 H4 λb H5=>if b=true then te σ4 H5 Q2 else Q1 H5)
  (fin:∀H2,Same H H2->H2 D=some (.lst (((List.range n).filter yes).map val))->Fin H2) :
  ∃W:Nat->Nat->List V->Hp->Prop,(∃m,W 0 m [] (upd H D (.lst []))) /\
   ∀i m xs H2,W i m xs H2->H2 D=some (.lst xs)/\xs.length<sizeLine/\((J.stop i H2/\Fin H2)\/(J.go i H2/\∀y H3,J.yld i H2 y H3->∀os:St,os.length=k ->
    g y (os++σ) H3 λσ4 H4=>tt σ4 H4 λb H5=>if b=true then te σ4 H5 λv H6=>H6 D=some (.lst xs)/\∃m',m'<m/\W (i+1) m' (xs++[v]) (upd H6 D (.lst (xs++[v]))) else ∃m',m'<m/\W (i+1) m' xs H5)):=by
 refine⟨λi m ys H2=>i<=n/\m=n-i/\ys=((List.range i).filter yes).map val/\H2 D=some (.lst ys)/\Same H H2,⟨n,Nat.zero_le _,rfl,rfl,upd_same,sameU hD⟩,?_⟩
 rintro i m ys H2 ⟨hi,rfl,hl,hd,s2⟩
 have hlen:ys.length<=i:=by
  rw[hl,List.length_map]
  exact Nat.le_trans (List.length_filter_le _ _) (by simp)
 refine⟨hd,by lia,?_⟩
 by_cases he:i=n
 ·subst he
  exact .inl ⟨G.st H2 s2,fin H2 s2 (hl▸hd)⟩
 ·refine .inr ⟨G.go i H2 (by lia) s2,λy H3 hy os ho=>?_⟩
  obtain⟨s3,it⟩:=G.yl i H2 y H3 (by lia) s2 hy
  refine step i y H3 (by lia) it (s2.trans s3) os ho _ _ (λhno H4 s4=>?_) (λhyes H4 s4=>?_)
  ·refine⟨n-(i+1),by lia,by lia,rfl,?_,s4 _ _ (s3 _ _ hd),(s2.trans s3).trans s4⟩
   rw[hl,List.range_succ,List.filter_append]
   simp[hno]
  ·have hd4:=s4 _ _ (s3 _ _ hd)
   refine⟨hd4,n-(i+1),by lia,by lia,rfl,?_,upd_same,λb o e=>?_⟩
   ·rw[hl,List.range_succ,List.filter_append]
    simp[hyes]
   ·rw[upd_ne (ne_of_none e hD)]
    exact s4 _ _ (s3 _ _ (s2 _ _ e))
theorem ixL {X:Cx}(K:PySem.W.Frag) (h:X.K=K):IxR X (rIxL K):=h▸ix_list
theorem ixT {X:Cx}(K:PySem.W.Frag) (h:X.K=K):IxR X (rIxT K):=h▸ix_tup
theorem tupO {X:Cx}(K:PySem.W.Frag) (h:X.K=K):CallR X (.type "tuple") (λxs H Q=>∃p ys,xs=[.ref p]/\((SqL K H p ys/\∀l,H l=none->Q (.ref l) (upd H l (.tup ys)))\/(SqT K H p ys/\Q (.ref p) H))):=h▸call_tuple_of
theorem piT {X:Cx}{tg l:Expr}{tl:TE}(K:PySem.W.Frag) (h:X.K=K) (hl:PE X l tl):PI X tg l (iTup K tl):=h▸pi_tup hl
end L2
namespace Pr
open PySem L2
abbrev sWhole:Stmt:=top 8
abbrev sPlain:Stmt:=top 9
abbrev sDeps:Stmt:=top 10
abbrev sEnd:Stmt:=top 11
abbrev sPlaces:Stmt:=top 12
abbrev sSize:Stmt:=top 15
abbrev sAddr:Stmt:=top 16
abbrev sCell:Stmt:=top 17
abbrev sWantA:Stmt:=top 18
abbrev sSide:Stmt:=top 19
abbrev sQuart:Stmt:=top 20
abbrev sBoxAt:Stmt:=top 21
abbrev sAddrAt:Stmt:=top 22
abbrev sNumber:Stmt:=top 24
abbrev sRow:Stmt:=top 25
abbrev sRows:Stmt:=top 26
abbrev sTelling:Stmt:=top 27
abbrev sShape:Stmt:=top 28
abbrev sWantS:Stmt:=top 29
abbrev sCountL:Stmt:=top 32
abbrev sWantL:Stmt:=top 33
abbrev sCoarse:Stmt:=top 34
abbrev sWantSd:Stmt:=top 37
abbrev sWayD:Stmt:=top 38
abbrev sAlong:Stmt:=top 39
abbrev sLvsB:Stmt:=top 40
abbrev sBesideP:Stmt:=top 41
abbrev lPot:Stmt:=top 43
abbrev lDigit:Stmt:=top 44
abbrev lCells:Stmt:=top 45
abbrev lBox:Stmt:=top 46
abbrev lBoxes:Stmt:=top 47
abbrev lMeets:Stmt:=top 48
abbrev lHas:Stmt:=top 49
abbrev lNumber:Stmt:=top 50
abbrev lShape:Stmt:=top 51
abbrev lLeaf:Stmt:=top 52
abbrev lSquare:Stmt:=top 53
abbrev lNear:Stmt:=top 54
abbrev lAddress:Stmt:=top 55
abbrev lDue:Stmt:=top 56
abbrev lLaw:Stmt:=top 57
end Pr
namespace Pr
open PySem L2 Qf
structure Blt (mg:Str->Option Value):Prop where
 isi:mg "isinstance" = none
 int:mg "int" = none
 bool:mg "bool" = none
 tuple:mg "tuple" = none
 list:mg "list" = none
 set:mg "set" = none
 len:mg "len" = none
 all:mg "all" = none
 any:mg "any" = none
 enum:mg "enumerate" = none
 range:mg "range" = none
 max:mg "max" = none
 min:mg "min" = none
structure Cst (mg:Str->Option Value):Prop where
 first:∃t,mg "FIRST" = some (.int 2 t)
 great:∃t,mg "GREATEST_SIZE" = some (.int 12 t)
def vN (r:List Nat):List V:=r.map λn:Nat=>V.int (n:Int)
theorem vN_len (r:List Nat):(vN r).length=r.length:=List.length_map ..
theorem vN_get {r:List Nat}{i:Nat}{x:V}(h:(vN r)[i]?=some x):∃n:Nat,r[i]?=some n/\x=.int (n:Int):=by
 unfold vN at h
 rw[List.getElem?_map] at h
 obtain⟨n,h1,h2⟩:=Option.map_eq_some_iff.mp h
 exact⟨n,h1,h2.symm⟩
theorem vN_at {r:List Nat}{i n:Nat}(h:r[i]?=some n):(vN r)[i]?=some (.int (n:Int)):=by
 unfold vN
 rw[List.getElem?_map,h];rfl
theorem vN_atI {r:List Nat}{i n:Nat}(h:r[i]?=some n):atI (vN r) (i:Int)=some (.int (n:Int)):=atI_nat (vN_at h)
theorem vN_int (r:List Nat):vN r=(r.map λn:Nat=>(n:Int)).map V.int:=by unfold vN;rw[List.map_map];rfl
def RowsAt (H:Hp) (p:Addr) (rows:List Row):Prop:=∃bs:List Addr,H p=some (.tup (bs.map V.ref))/\bs.length=rows.length/\∀(i:Nat) b r,bs[i]?=some b->rows[i]?=some r->H b=some (.tup (vN r))
theorem RowsAt.mono {H H':Hp}{p:Addr}{rows:List Row}(h:RowsAt H p rows) (t:Tups H H'):RowsAt H' p rows:=by
 obtain⟨bs,h1,h2,h3⟩:=h
 exact⟨bs,t _ _ h1,h2,λi b r e1 e2=>t _ _ (h3 i b r e1 e2)⟩
theorem RowsAt.same {H H':Hp}{p:Addr}{rows:List Row}(h:RowsAt H p rows) (t:Same H H'):RowsAt H' p rows:=h.mono t.tups
def RowsS (H:Hp) (p:Addr) (rows:List Row):Prop:=∃bs:List Addr,(H p=some (.tup (bs.map V.ref))\/H p=some (.lst (bs.map V.ref)))/\bs.length=rows.length/\∀(i:Nat) b r,bs[i]?=some b->rows[i]?=some r->H b=some (.tup (vN r))
theorem RowsAt.s {H:Hp}{p:Addr}{rows:List Row}(h:RowsAt H p rows):RowsS H p rows:=let ⟨bs,a,b,c⟩:=h;⟨bs,.inl a,b,c⟩
theorem RowsS.same {H H':Hp}{p:Addr}{rows:List Row}(h:RowsS H p rows) (s:Same H H'):RowsS H' p rows:=by
 obtain⟨bs,h1,h2,h3⟩:=h
 exact⟨bs,h1.imp (s _ _) (s _ _),h2,λi b r e1 e2=>s _ _ (h3 i b r e1 e2)⟩
def rIxS (K:PySem.W.Frag):R2:=λx y H Q=>rIxL K x y H Q\/rIxT K x y H Q
theorem ixS {X:Cx}(K:PySem.W.Frag) (h:X.K=K):IxR X (rIxS K):=(ixL K h).or (ixT K h)
section
variable {P:Program}{w:World}{K:PySem.W.Frag}{mg:Str->Option Value}{base:Heap}
theorem scWhole:FnScope ["thing"] ["thing"] (defScope sWhole):=⟨rfl,rfl,rfl,by decide +kernel,rfl,by decide +kernel,by decide +kernel⟩
def spWhole:Sp:=λvs H Q _=>∃i:Int,vs=[.int i]/\Q (.bl true) H
theorem ok_whole {f:Addr}{fd:FuncData}(F:Fun K "is_whole" "is_whole" sWhole f fd) (B:Blt mg):FnOk P w K mg base CX0 1 f fd ["thing"] spWhole:=by
 refine F.ok scWhole (λvs H Q E h=>?_) (λcdv A outer s H vs Q E hr h=>?_)
 ·obtain⟨i,rfl,_⟩:=h
  rfl
 ·obtain⟨i,rfl,q⟩:=h
  refine⟨_,pss_one (ps_ret (pe_and (pe_callB call_isi (by rfl) B.isi PyProof.Rows.boot_isinstance (pa_cons (pv 0) (pa_cons (pe_bltn (v:=.ty "int") (by rfl) B.int PyProof.Rows.boot_int rfl) pa_nil)))
   (pe_one (pe_not (pe_callB call_isi (by rfl) B.isi PyProof.Rows.boot_isinstance (pa_cons (pv 0) (pa_cons (pe_bltn (v:=.ty "bool") (by rfl) B.bool PyProof.Rows.boot_bool rfl) pa_nil))))))),?_⟩
  exact⟨_,rfl,_,_,_,_,true,rfl,rfl,.inl (.int i),rfl,_,rfl,iteT ⟨_,rfl,_,_,_,_,false,rfl,rfl,.inl (.int i),rfl,_,rfl,q⟩⟩
theorem scSize:FnScope ["thing"] ["thing"] (defScope sSize):=⟨rfl,rfl,rfl,by decide +kernel,rfl,by decide +kernel,by decide +kernel⟩
def spSize:Sp:=λvs H Q _=>∃n:Nat,vs=[.int n]/\n<=12/\Q (.bl true) H
theorem ok_size {f fW:Addr}{fd fdW:FuncData}(F:Fun K "is_size" "is_size" sSize f fd) (B:Blt mg) (T:Cst mg) (hW:mg "is_whole" = some (.ref fW)) (FW:Fun K "is_whole" "is_whole" sWhole fW fdW) (bW:Binds K fdW ["thing"] []):FnOk P w K mg base CX0 2 f fd ["thing"] spSize:=by
 have GW:FnOk P w K mg base CX0 1 fW fdW ["thing"] spWhole:=ok_whole FW B
 obtain⟨tg,hgr⟩:=T.great
 refine F.ok scSize (λvs H Q E h=>?_) (λcdv A outer s H vs Q E hr h=>?_)
 ·obtain⟨x,rfl,_⟩:=h
  rfl
 ·obtain⟨n,rfl,hn,q⟩:=h
  refine⟨_,pss_one (ps_ret (pe_and (pe_call GW hr (by rfl) hW FW.kp bW .nil pass0 (pa_cons (pv 0) pa_nil)) (pe_one (pe_chain op_le op_le pe_int (pv 0) (pe_glob (v:=.int 12) (by rfl) hgr ⟨_,rfl⟩))))),?_⟩
  refine⟨_,rfl,n,rfl,_,rfl,iteT ⟨_,rfl,_,_,rfl,rfl,_,rfl,?_⟩⟩
  have e:decide ((n:Int)<=12)=true:=decide_eq_true (by lia)
  refine ite2 (λ_=>⟨_,_,rfl,rfl,?_⟩) (λh1=>absurd (decide_eq_true (Int.natCast_nonneg n)) h1)
  show Q (V.bl (decide ((n:Int)<=12))) H
  rw[e];exact q
theorem scNumber:FnScope ["thing", "many"] ["thing", "many"] (defScope sNumber):=⟨rfl,rfl,rfl,by decide +kernel,rfl,by decide +kernel,by decide +kernel⟩
def spNumber:Sp:=λvs H Q _=>∃n m:Nat,vs=[.int n,.int m]/\n<m+2/\Q (.bl true) H
theorem ok_number {f fW:Addr}{fd fdW:FuncData}(F:Fun K "is_number" "is_number" sNumber f fd) (B:Blt mg) (T:Cst mg) (hW:mg "is_whole" = some (.ref fW)) (FW:Fun K "is_whole" "is_whole" sWhole fW fdW) (bW:Binds K fdW ["thing"] []):FnOk P w K mg base CX0 2 f fd ["thing", "many"] spNumber:=by
 have GW:FnOk P w K mg base CX0 1 fW fdW ["thing"] spWhole:=ok_whole FW B
 obtain⟨tf,hf⟩:=T.first
 refine F.ok scNumber (λvs H Q E h=>?_) (λcdv A outer s H vs Q E hr h=>?_)
 ·obtain⟨n,m,rfl,_⟩:=h
  rfl
 ·obtain⟨n,m,rfl,hn,q⟩:=h
  refine⟨_,pss_one (ps_ret (pe_and (pe_call GW hr (by rfl) hW FW.kp bW .nil pass0 (pa_cons (pv 0) pa_nil)) (pe_one (pe_chain op_le op_lt pe_int (pv 0) (pe_op op_add (pv 1) (pe_glob (v:=.int 2) (by rfl) hf ⟨_,rfl⟩)))))),?_⟩
  refine⟨_,rfl,n,rfl,_,rfl,iteT ⟨_,rfl,_,_,rfl,rfl,_,rfl,?_⟩⟩
  have e:decide ((n:Int)<(m:Int)+2)=true:=decide_eq_true (by lia)
  refine ite2 (λ_=>⟨_,rfl,_,_,rfl,rfl,_,_,rfl,rfl,?_⟩) (λh1=>absurd (decide_eq_true (Int.natCast_nonneg n)) h1)
  show Q (V.bl (decide ((n:Int)<(m:Int)+2))) H
  rw[e];exact q
theorem scPlain:FnScope ["row"] ["row"] (defScope sPlain):=⟨rfl,rfl,rfl,by decide +kernel,rfl,by decide +kernel,by decide +kernel⟩
def spPlain:Sp:=λvs H Q _=>∃(b:Addr) (r:Row),vs=[.ref b]/\H b=some (.tup (vN r))/\r.length=4/\∀H',Same H H'->Q (.bl (decide (Plain r))) H'
theorem int_inj {l m:List Nat}(h:(l.map λn:Nat=>(n:Int))=m.map λn:Nat=>(n:Int)):l=m:=by
 induction l generalizing m with
 |nil=>cases m with
  |nil=>rfl
  |cons b m=>simp at h
 |cons a l ih=>cases m with
  |nil=>simp at h
  |cons b m=>
   rw[List.map_cons,List.map_cons] at h
   injection h with h1 h2
   rw[ih h2,Int.ofNat.inj h1]
theorem ok_plain {f:Addr}{fd:FuncData}(F:Fun K "is_plain" "is_plain" sPlain f fd) (T:Cst mg):FnOk P w K mg base CX0 2 f fd ["row"] spPlain:=by
 obtain⟨tf,hf⟩:=T.first
 refine F.ok scPlain (λvs H Q E h=>?_) (λcdv A outer s H vs Q E hr h=>?_)
 ·obtain⟨b,r,rfl,_⟩:=h
  rfl
 ·obtain⟨b,r,rfl,hb,hl,q⟩:=h
  refine⟨_,pss_one (ps_ret (pe_and (pe_cmpR op_lt (pe_ix ix_tup (pv 0) pe_int (λ_ _=>rfl)) (pe_glob (v:=.int 2) (by rfl) hf ⟨_,rfl⟩) (nomark _))
   (pe_one (pe_cmpR (op_eqD hr) (pv 0) (pe_op op_repT (pe_tup (pa_cons (pe_ix ix_tup (pv 0) pe_int (λ_ _=>rfl)) pa_nil)) pe_int) (nomark _))))),?_⟩
  match r,hl with
  |[x0,x1,x2,x3],_=>
   refine⟨_,rfl,b,_,0,.int x0,rfl,rfl,SqT.of hb,rfl,_,_,rfl,rfl,_,rfl,?_⟩
   refine ite2 (λhc=>?_) (λhc=>?_)
   ·have h2:x0<2:=by have:=of_decide_eq_true hc;lia
    refine⟨_,rfl,_,rfl,b,_,0,.int x0,rfl,rfl,SqT.of hb,rfl,(by show 1<=sizeLine;decide),λp hp=>⟨p,4,.int x0,rfl,rfl,upd_same,by decide,by decide,λp2 hp2=>?_⟩⟩
    have hb2:=keepU (u:=.tup (List.replicate 4 (V.int x0))) (keepU (u:=.tup [V.int x0]) hb hp) hp2
    refine⟨dT [(x0:Int),(x1:Int),(x2:Int),(x3:Int)],dT [(x0:Int),(x0:Int),(x0:Int),(x0:Int)],.tup hb2 (DatasAt.ints [(x0:Int),(x1:Int),(x2:Int),(x3:Int)]),.tup upd_same (DatasAt.ints [(x0:Int),(x0:Int),(x0:Int),(x0:Int)]),dT_lay _,dT_lay _,(by show 1<=60;decide),?_⟩
    rw[dT_eqv]
    have e:decide (([(x0:Int),(x1:Int),(x2:Int),(x3:Int)]:List Int)=([(x0:Int),(x0:Int),(x0:Int),(x0:Int)]:List Int))=decide (Plain [x0,x1,x2,x3]):=by
     congr 1
     apply propext
     unfold Plain
     constructor
     ·intro z
      have:[x0,x1,x2,x3]=[x0,x0,x0,x0]:=int_inj (l:=[x0,x1,x2,x3]) (m:=[x0,x0,x0,x0]) z
      have:x0=0\/x0=1:=by lia
      rcases this with rfl|rfl
      ·exact .inl ‹_›
      ·exact .inr ‹_›
     ·rintro (z|z)<;>(cases z;rfl)
    rw[e]
    exact q _ ((sameU hp).trans (sameU hp2))
   ·have h2:¬x0<2:=λz=>hc (decide_eq_true (by lia))
    have e:decide (Plain [x0,x1,x2,x3])=false:=decide_eq_false (by
     rintro (z|z)<;>(cases z;lia))
    have:=q H (Same.refl H)
    rw[e] at this
    exact this
end
end Pr
namespace Qf
theorem mx_snoc (l:List Nat) (a:Nat):mx (l++[a])=max (mx l) a:=by
 induction l with
 |nil=>show max a 0=max 0 a;lia
 |cons b l ih=>show max b (mx (l++[a]))=max (max b (mx l)) a;rw[ih];lia
theorem best_mx (l:List Nat):∀k,k<l.length->L2.best (l.map λn:Nat=>(n:Int)) k=(mx (l.take (k+1)):Nat)
 |0,h=>by
  cases l with
  |nil=>simp at h
  |cons a l=>show ((a:Nat):Int)=((max a 0:Nat):Int);simp
 |k+1,h=>by
  have ih:=best_mx l k (by lia)
  have e:(l.map λn:Nat=>(n:Int)).getD (k+1) 0=((l[k+1]:Nat):Int):=by simp[List.getD,h]
  have t:l.take (k+1+1)=l.take (k+1)++[l[k+1]]:=by rw[List.take_append_getElem h]
  unfold L2.best
  rw[e,ih,t,mx_snoc]
  split<;>lia
theorem best_all {l:List Nat}(h:l≠[]):L2.best (l.map λn:Nat=>(n:Int)) ((l.map λn:Nat=>(n:Int)).length-1)=(mx l:Nat):=by
 have hl:0<l.length:=List.length_pos_iff.mpr h
 rw[List.length_map,best_mx l (l.length-1) (by lia),show l.length-1+1=l.length by lia,List.take_length]
theorem deps_take {rows:List Row}{i:Nat}{r:Row}(h:rows[i]?=some r):deps (rows.take (i+1))=deps (rows.take i)++[1+mx (r.map (dp (rows.take i)))]:=by
 have hl:=(List.getElem?_eq_some_iff.mp h).1
 have he:=(List.getElem?_eq_some_iff.mp h).2
 rw[<- deps_snoc,<- he,List.take_append_getElem hl]
theorem dp_get {rows:List Row}{x:Nat}(h:x<rows.length+2):(deps rows)[x]?=some (dp rows x):=by
 unfold dp
 rw[List.getD_eq_getElem?_getD]
 have:x<(deps rows).length:=by rw[deps_len];exact h
 rw[List.getElem?_eq_getElem this];rfl
end Qf
namespace Pr
open PySem L2 Qf
theorem list_ext {xs ys:List V}(hl:xs.length=ys.length) (h:∀(i:Nat) x,xs[i]?=some x->ys[i]?=some x):xs=ys:=by
 refine List.ext_getElem? λi=>?_
 cases e:xs[i]? with
 |some x=>exact (h i x e).symm
 |none=>
  have:xs.length<=i:=List.getElem?_eq_none_iff.mp e
  exact (List.getElem?_eq_none (by lia)).symm
section
variable {P:Program}{w:World}{K:PySem.W.Frag}{mg:Str->Option Value}{base:Heap}
theorem scDeps:FnScope ["rows", "depths", "row"] ["rows"] (defScope sDeps):=⟨rfl,rfl,rfl,by decide +kernel,rfl,by decide +kernel,by decide +kernel⟩
def spDeps:Sp:=λvs H Q _=>∃(p:Addr) (rows:List Row),vs=[.ref p]/\RowsAt H p rows/\RowsOk rows/\rows.length<=900/\∀H' D,Same H H'->H' D=some (.lst (vN (deps rows)))->Q (.ref D) H'
theorem ok_deps {f:Addr}{fd:FuncData}(F:Fun K "depths_of" "depths_of" sDeps f fd) (B:Blt mg):FnOk P w K mg base CX0 1 f fd ["rows"] spDeps:=by
 refine F.ok scDeps (λvs H Q E h=>?_) (λcdv A outer s H vs Q E hr h=>?_)
 ·obtain⟨p,rows,rfl,_⟩:=h
  rfl
 ·obtain⟨p,rows,rfl,hR,ok,hn,q⟩:=h
  refine⟨_,pss_cons (ps_set (i:=1) scDeps.nd rfl (by first|exact Or.inl rfl|exact Or.inr rfl) (pe_lst (pa_cons pe_int (pa_cons pe_int pa_nil))))
   (pss_cons (ps_for PassesOwn.never rfl (pi_tup (pv 0)) (pg_name (i:=2) scDeps.nd rfl (by first|exact Or.inl rfl|exact Or.inr rfl))
    (pss_one (ps_expr (pe_bm PySem.F.plainAttrs_list PySem.F.slot_list_append PySem.F.type_list_append mt_append (pv 1) (pa_cons (pe_op op_add pe_int (pe_callB (call_maxL rfl) (by rfl) B.max PyProof.Rows.boot_max
     (pa_cons (pe_compB ["rows", "depths", "row"] (defScope sDeps) rfl rfl rfl scDeps.nd (pi_tup (pv 2)) (λcl C fp s₀ H₀=>pe_ix (ixL K rfl) (pv 2) (pv 0) (λ_ _=>rfl))) pa_nil))) pa_nil)))))
   (pss_one (ps_ret (pv 1)))),?_⟩
  refine⟨(by show 2<=sizeLine;decide),λD hD=>?_⟩
  obtain⟨bs,hp,hlen,hrow⟩:=id hR
  have hp1:=keepU (u:=.lst [.int 0,.int 0]) hp hD
  have hlb:(bs.map V.ref).length=rows.length:=by rw[List.length_map];exact hlen
  refine⟨_,rfl,p,rfl,⟨_,SqT.of hp1⟩,for_tup (K:=K) (a:=p) (xs:=bs.map V.ref) (λi σ H2=>Same H H2/\H2 D=some (.lst (vN (deps (rows.take i))))/\∃v2,σ=[some (.ref p),some (.ref D),v2])
   ⟨sameU hD,upd_same,none,rfl⟩ (λi σ H2 _ ⟨s2,_⟩=>SqT.of (s2 _ _ hp)) ?_ ?_⟩
  ·rintro i y σ H2 hy ⟨s2,hd2,v2,rfl⟩
   have hi:i<rows.length:=by rw[<- hlb];exact (List.getElem?_eq_some_iff.mp hy).1
   rw[List.getElem?_map] at hy
   obtain⟨b,hb,rfl⟩:=Option.map_eq_some_iff.mp hy
   have hr1:rows[i]?=some rows[i]:=by simp[hi]
   have hbt:=s2 _ _ (hrow i b rows[i] hb hr1)
   have rk:=ok i _ hr1
   have tl:(rows.take i).length=i:=by rw[List.length_take];lia
   have hds:∀x,x<i+2->(deps (rows.take i))[x]?=some (dp (rows.take i) x):=λx hx=>dp_get (by rw[tl];exact hx)
   generalize rows[i]=r at hr1 hbt rk
   refine⟨_,rfl,.inl ⟨rfl,_,SqL.of hd2⟩,_,rfl,b,rfl,⟨_,SqT.of hbt⟩,λD2 hD2=>comp_walk hD2 (λj z _=>∃x,r[j]?=some x/\z=.int (dp (rows.take i) x:Nat)) (goes_tup (K:=K) hbt) (by rw[vN_len,rk.1];decide) (λ_ _ _ _ _ _ h=>h) ?_ ?_⟩
   ·intro j x H3 hj hx s3 Q' hq
    obtain⟨m,hm,rfl⟩:=vN_get hx
    have hlt:=rk.2 m (List.mem_of_getElem? hm)
    exact⟨_,rfl,_,rfl,D,_,(m:Int),.int (dp (rows.take i) m:Nat),rfl,rfl,SqL.of (s3 _ _ hd2),vN_atI (hds m hlt),hq _ _ (Same.refl _) ⟨m,hm,rfl⟩⟩
   ·intro ys H3 s3 hd3 hly hys
    have ey:ys=(r.map (dp (rows.take i))).map (λn:Nat=>V.int (n:Int)):=by
     refine list_ext (by rw[hly,vN_len,List.length_map,List.length_map]) λj x hx=>?_
     obtain⟨m,hm,rfl⟩:=hys j x hx
     rw[List.getElem?_map,List.getElem?_map,hm];rfl
    have e2:ys=((r.map (dp (rows.take i))).map (λn:Nat=>(n:Int))).map V.int:=ey.trans (vN_int _)
    have hne:r.map (dp (rows.take i))≠[]:=λz=>by
     have:=congrArg List.length z
     rw[List.length_map,rk.1] at this
     cases this
    refine⟨D2,(r.map (dp (rows.take i))).map (λn:Nat=>(n:Int)),rfl,e2▸hd3,λz=>hne (List.map_eq_nil_iff.mp z),_,_,rfl,rfl,?_⟩
    rw[best_all hne]
    have hd4:=s3 _ _ hd2
    refine⟨D,_,_,rfl,rfl,hd4,?_,?_⟩
    ·rw[vN_len,deps_len,tl];exact small1000 (by lia)
    ·have nD:∀b o,H b=some o->b≠D:=λb o e=>ne_of_none e hD
     refine⟨λb o e=>by rw[upd_ne (nD b o e)];exact s3 _ _ (s2 _ _ e),?_,_,rfl⟩
     rw[upd_same,deps_take hr1]
     unfold vN
     rw[List.map_append]
     rfl
  ·rintro σ H2 ⟨s2,hd2,v2,rfl⟩
   refine⟨_,rfl,q H2 D s2 ?_⟩
   rw[hlb,List.take_length] at hd2
   exact hd2
end
end Pr
namespace Qf
theorem post_len {rows:List Row}{e:List Nat}(h:Post rows e):e.length<=rows.length:=by
 have:=h.nd.length_le_of_subset (l₂:=List.range rows.length) λp hp=>List.mem_range.mpr (h.lt p hp)
 simpa using this
theorem fold_post {rows:List Row}(ok:RowsOk rows){d p:Nat}{r:Row}(hp:rows[p]?=some r) (hd:dp rows (p+2)<=d+1):∀(l e:List Nat),(∀q∈l,q∈r)->Post rows e->Post rows (l.foldl (dfs rows d) e)
 |[],_,_,pe=>pe
 |q::l,e,hl,pe=>by
  have hq:=hl q List.mem_cons_self
  have hlt:=(ok p r hp).2 q hq
  have hpl:=(List.getElem?_eq_some_iff.mp hp).1
  have hdq:dp rows q<=d:=by
   have:=le_mx (List.mem_map.mpr ⟨q,hq,rfl⟩:dp rows q∈r.map (dp rows))
   have e:=dp_at ok hp
   lia
  exact fold_post ok hp hd l _ (λz hz=>hl z (List.mem_cons_of_mem _ hz)) (dfs_post ok d e q pe (by lia) hdq).1
theorem dp_quarter {rows:List Row}(ok:RowsOk rows){d p:Nat}{r:Row}(hp:rows[p]?=some r) (hd:dp rows (p+2)<=d+1){q:Nat}(hq:q∈r):q<rows.length+2/\dp rows q<=d:=by
 have hlt:=(ok p r hp).2 q hq
 have hpl:=(List.getElem?_eq_some_iff.mp hp).1
 have:=le_mx (List.mem_map.mpr ⟨q,hq,rfl⟩:dp rows q∈r.map (dp rows))
 have e:=dp_at ok hp
 exact⟨by lia,by lia⟩
theorem dp_pos {rows:List Row}(ok:RowsOk rows){x:Nat}(hx:x<rows.length+2) (h:dp rows x<=0):x<2:=by
 by_cases z:x<2
 ·exact z
 ·exfalso
  have hp:x-2<rows.length:=by lia
  have:=dp_at ok (getD_at hp)
  rw[show x-2+2=x by lia] at this
  lia
end Qf
namespace Pr
open PySem L2 Qf
theorem smallM {n:Nat}(h:n<=1191000):n<sizeLine:=Nat.lt_of_le_of_lt h (by decide)
def But (e:Addr) (H H':Hp):Prop:=∀b o,H b=some o->b≠e->H' b=some o
theorem But.refl (e:Addr) (H:Hp):But e H H:=λ_ _ h _=>h
theorem But.trans {e:Addr}{H H1 H2:Hp}(a:But e H H1) (b:But e H1 H2):But e H H2:=λc o h n=>b c o (a c o h n) n
theorem But.upd {e:Addr}{H:Hp}{o:HO}:But e H (upd H e o):=λb u h n=>by rw[upd_ne n];exact h
theorem But.of {e:Addr}{H H':Hp}(h:Same H H'):But e H H':=λb o q _=>h b o q
theorem But.tups {e:Addr}{H H':Hp}(h:But e H H'){o:HO}(he:H e=some o) (no:∀u,o≠.tup u):Tups H H':=λb u q=>h b _ q λz=>by
 subst z
 rw[q] at he
 exact no u (Option.some.inj he).symm
def eK (es:List Nat):List (Key×V):=es.map λp:Nat=>(Sum.inl (p:Int),V.bl true)
theorem eK_has (es:List Nat) (p:Nat):(valV (eK es) (Sum.inl (p:Int))).isSome=decide (p∈es):=by
 rw[<- valV_any]
 unfold eK
 rw[List.any_map]
 by_cases h:p∈es
 ·rw[decide_eq_true h,List.any_eq_true]
  exact⟨p,h,by simp⟩
 ·rw[decide_eq_false h,List.any_eq_false]
  intro q hq
  simp only[Function.comp,decide_eq_true_eq]
  intro z
  have:(q:Int)=p:=Sum.inl.inj z
  exact h (by rw[<- Int.ofNat.inj this];exact hq)
theorem eK_put {es:List Nat}{p:Nat}(h:p∉es):putK (eK es) (Sum.inl (p:Int)) (.bl true)=eK (es++[p]):=by
 unfold putK
 have:=eK_has es p
 rw[<- valV_any,decide_eq_false h] at this
 rw[if_neg (by rw[this];decide)]
 unfold eK
 rw[List.map_append];rfl
section
variable {P:Program}{w:World}{K:PySem.W.Frag}{mg:Str->Option Value}{base:Heap}
theorem scEnd:FnScope ["rows", "number", "ended", "quarter"] ["rows", "number", "ended"] (defScope sEnd):=⟨rfl,rfl,rfl,by decide +kernel,rfl,by decide +kernel,by decide +kernel⟩
def spEnd (d:Nat):Sp:=λvs H Q _=>∃(p e:Addr) (x:Nat) (rows:List Row) (es:List Nat),vs=[.ref p,.int (x:Nat),.ref e]/\RowsS H p rows/\RowsOk rows/\rows.length<=1190900/\x<rows.length+2/\dp rows x<=d/\Post rows es /\
 H e=some (.dK (eK es))/\∀H',But e H H'->H' e=some (.dK (eK (dfs rows d es x)))->Q .non H'
theorem ok_end {f:Addr}{fd:FuncData}(F:Fun K "end_rows" "end_rows" sEnd f fd) (T:Cst mg) (hE:mg "end_rows" = some (.ref f)) (bE:Binds K fd ["rows", "number", "ended"] []):∀d,FnOk P w K mg base CX0 (d+1) f fd ["rows", "number", "ended"] (spEnd d):=by
 obtain⟨tf,hf⟩:=T.first
 intro d
 induction d with
 |zero=>
  refine F.ok scEnd (λvs H Q E h=>?_) (λcdv A outer s H vs Q E hr h=>?_)
  ·obtain⟨p,e,x,rows,es,rfl,_⟩:=h
   rfl
  ·obtain⟨p,e,x,rows,es,rfl,hR,ok,hn,hx,hd,pe,he,q⟩:=h
   have hu:A.units+3+1<cLine:=by have:=hr.un;exact Nat.lt_of_le_of_lt (Nat.le_add_right _ _) (show A.units+3+1+199<cLine from by simpa using this)
   have x2:=dp_pos ok hx hd
   refine⟨_,pss_cons (ps_if (pw_or (pt_cmpR op_lt (pv 1) (pe_glob (v:=.int 2) (by rfl) hf ⟨_,rfl⟩) (nomark _)) (pw_or1 (pt_cmp (pc_din hu (pe_op op_sub (pv 1) (pe_glob (v:=.int 2) (by rfl) hf ⟨_,rfl⟩)) (pv 2))))).pt (pss_one ps_retN) pss_nil) pss_never,?_⟩
   refine⟨_,rfl,_,_,rfl,rfl,_,rfl,?_⟩
   rw[decide_eq_true (show (x:Int)<2 by lia)]
   exact iteT (iteT (q H (But.refl e H) he))
 |succ d ih=>
  refine F.ok scEnd (λvs H Q E h=>?_) (λcdv A outer s H vs Q E hr h=>?_)
  ·obtain⟨p,e,x,rows,es,rfl,_⟩:=h
   rfl
  ·obtain⟨p,e,x,rows,es,rfl,hR,ok,hn,hx,hd,pe,he,q⟩:=h
   have hu:A.units+3+1<cLine:=by have:=hr.un;exact Nat.lt_of_le_of_lt (Nat.le_add_right _ (16*(d+1)+199)) (show A.units+3+1+(16*(d+1)+199)<cLine from by
    have h2:A.units+3+16*(d+1)+200<cLine:=this
    lia)
   refine⟨_,pss_cons (ps_if (pw_or (pt_cmpR op_lt (pv 1) (pe_glob (v:=.int 2) (by rfl) hf ⟨_,rfl⟩) (nomark _)) (pw_or1 (pt_cmp (pc_din hu (pe_op op_sub (pv 1) (pe_glob (v:=.int 2) (by rfl) hf ⟨_,rfl⟩)) (pv 2))))).pt (pss_one ps_retN) pss_nil)
    (pss_cons (ps_for PassesOwn.never rfl (pi_tup (pe_ix (ixS K rfl) (pv 0) (pe_op op_sub (pv 1) (pe_glob (v:=.int 2) (by rfl) hf ⟨_,rfl⟩)) (λ_ _=>rfl))) (pg_name (i:=3) scEnd.nd rfl (Or.inl rfl))
     (pss_one (ps_expr (pe_call ih hr (by rfl) hE F.kp bE .nil pass0 (pa_cons (pv 0) (pa_cons (pv 3) (pa_cons (pv 2) pa_nil)))))))
    (pss_one (ps_dput hu (pv 2) (pe_op op_sub (pv 1) (pe_glob (v:=.int 2) (by rfl) hf ⟨_,rfl⟩)) pe_bl (by rfl)))),?_⟩
   refine⟨_,rfl,_,_,rfl,rfl,_,rfl,?_⟩
   unfold dfs at q
   refine ite2 (λhc=>?_) (λhc=>?_)
   ·have x2:x<2:=by have:=of_decide_eq_true hc;lia
    rw[if_pos (.inl x2)] at q
    exact iteT (q H (But.refl e H) he)
   ·have x2:¬x<2:=λz=>hc (decide_eq_true (by lia))
    have ex:(x:Int)-2=((x-2:Nat):Int):=by lia
    have dg:DGet H e (.int ((x:Int)-2)) (valV (eK es) (Sum.inl ((x-2:Nat):Int))):=by rw[ex];exact DGet.k (k:=Sum.inl ((x-2:Nat):Int)) he
    refine⟨_,rfl,_,_,rfl,rfl,_,rfl,e,_,rfl,dg,_,rfl,?_⟩
    rw[eK_has]
    refine ite2 (λhm=>?_) (λhm=>?_)
    ·rw[if_pos (.inr (of_decide_eq_true hm))] at q
     exact q H (But.refl e H) he
    ·have hnm:x-2∉es:=λz=>hm (decide_eq_true z)
     rw[if_neg (by rintro (z|z);exact x2 z;exact hnm z)] at q
     have hlt:x-2<rows.length:=by lia
     have hg:=getD_at hlt
     generalize rows.getD (x-2) []=r at q hg
     obtain⟨bs,hp,hlen,hrow⟩:=id hR
     have hdx:dp rows (x-2+2)<=d+1:=by rw[show x-2+2=x by lia];exact hd
     have hbx:bs[x-2]?=some (bs[x-2]'(by lia)):=by simp[show x-2<bs.length by lia]
     have hbt:=hrow (x-2) _ r hbx hg
     have nbe:∀b∈bs,b≠e:=λb hb z=>by
      obtain⟨j,hj,ej⟩:=List.mem_iff_getElem.mp hb
      have:=hrow j b (rows[j]'(by lia)) (by rw[List.getElem?_eq_getElem hj,ej]) (List.getElem?_eq_getElem (by lia))
      rw[z,he] at this
      cases this
     have npe:p≠e:=λz=>by
      rw[z,he] at hp
      rcases hp with hp|hp<;>cases hp
     have hRm:∀H2,But e H H2->RowsS H2 p rows:=λH2 s2=>⟨bs,hp.imp (λh=>s2 _ _ h npe) (λh=>s2 _ _ h npe),hlen,λi b r e1 e2=>s2 _ _ (hrow i b r e1 e2) (nbe b (List.mem_of_getElem? e1))⟩
     have ixx:∀Q':VK,Q' (.ref (bs[x-2]'(by lia))) H->rIxS K (.ref p) (.int ((x:Int)-2)) H Q':=λQ' hQ=>by
      rcases hp with h|h
      ·exact .inr ⟨p,_,((x-2:Nat):Int),.ref (bs[x-2]'(by lia)),rfl,congrArg V.int ex,SqT.of h,atI_nat (by rw[List.getElem?_map,hbx];rfl),hQ⟩
      ·exact .inl ⟨p,_,((x-2:Nat):Int),.ref (bs[x-2]'(by lia)),rfl,congrArg V.int ex,SqL.of h,atI_nat (by rw[List.getElem?_map,hbx];rfl),hQ⟩
     refine⟨_,rfl,_,rfl,_,_,rfl,rfl,ixx _ ⟨_,rfl,⟨_,SqT.of hbt⟩,
      for_tup (K:=K) (xs:=vN r) (λi σ H2=>But e H H2/\H2 e=some (.dK (eK ((r.take i).foldl (dfs rows d) es)))/\∃v3,σ=[some (.ref p),some (.int (x:Nat)),some (.ref e),v3])
      ⟨But.refl e H,he,none,rfl⟩ (λi σ H2 _ ⟨s2,_⟩=>SqT.of (s2.tups he (λu z=>by cases z) _ _ hbt)) ?_ ?_⟩⟩
     ·rintro i y σ H2 hy ⟨s2,he2,v3,rfl⟩
      obtain⟨m,hm,rfl⟩:=vN_get hy
      have hq:=List.mem_of_getElem? hm
      obtain⟨b1,b2⟩:=dp_quarter ok hg hdx hq
      refine⟨_,rfl,_,rfl,_,rfl,p,e,m,rows,(r.take i).foldl (dfs rows d) es,rfl,hRm H2 s2,ok,hn,b1,b2,fold_post ok hg hdx _ es (λz hz=>List.mem_of_mem_take hz) pe,he2,λH3 s3 he3=>⟨s2.trans s3,?_,_,rfl⟩⟩
      have hml:=(List.getElem?_eq_some_iff.mp hm).1
      have hme:=(List.getElem?_eq_some_iff.mp hm).2
      rw[<- List.take_append_getElem hml,List.foldl_append,hme]
      exact he3
     ·rintro σ H2 ⟨s2,he2,v3,rfl⟩
      rw[vN_len,List.take_length] at he2
      have pf:=fold_post ok hg hdx r es (λz hz=>hz) pe
      have fin:=(dfs_post ok (d+1) es x pe hx hd).1
      unfold dfs at fin
      rw[if_neg (by rintro (z|z);exact x2 z;exact hnm z)] at fin
      have eg:rows.getD (x-2) []=r:=by
       rw[List.getD_eq_getElem?_getD,hg];rfl
      rw[eg] at fin
      have hni:x-2∉r.foldl (dfs rows d) es:=λz=>by
       have:=(List.nodup_append.mp fin.nd).2.2 (x-2) z (x-2) (by simp)
       exact this rfl
      have dq:DPut H2 e (.int ((x:Int)-2)) (.bl true) (upd H2 e (.dK (eK (r.foldl (dfs rows d) es++[x-2])))):=by
       rw[ex,<- eK_put hni]
       refine DPut.k (k:=Sum.inl ((x-2:Nat):Int)) he2 ?_
       unfold eK
       rw[List.length_map]
       exact smallM (by have:=post_len pf;lia)
      exact⟨_,rfl,_,rfl,_,_,rfl,rfl,e,_,rfl,dq,q _ (s2.trans But.upd) upd_same⟩
theorem scPlaces:FnScope ["rows", "top", "ended"] ["rows", "top"] (defScope sPlaces):=⟨rfl,rfl,rfl,by decide +kernel,rfl,by decide +kernel,by decide +kernel⟩
def spPlaces (d:Nat):Sp:=λvs H Q _=>∃(p:Addr) (x:Nat) (rows:List Row),vs=[.ref p,.int (x:Nat)]/\RowsS H p rows/\RowsOk rows/\rows.length<=1190900/\x<rows.length+2/\dp rows x<=d /\
 ∀H' D,Same H H'->H' D=some (.lst (vN (dfs rows d [] x)))->Q (.ref D) H'
theorem ok_places {f fE:Addr}{fd fdE:FuncData}(F:Fun K "places_as_ended" "places_as_ended" sPlaces f fd) (B:Blt mg) (T:Cst mg) (hE:mg "end_rows" = some (.ref fE)) (FE:Fun K "end_rows" "end_rows" sEnd fE fdE) (bE:Binds K fdE ["rows", "number", "ended"] []) (d:Nat):FnOk P w K mg base CX0 (d+2) f fd ["rows", "top"] (spPlaces d):=by
 have GE:FnOk P w K mg base CX0 (d+1) fE fdE ["rows", "number", "ended"] (spEnd d):=ok_end FE T hE bE d
 refine F.ok scPlaces (λvs H Q E h=>?_) (λcdv A outer s H vs Q E hr h=>?_)
 ·obtain⟨p,x,rows,rfl,_⟩:=h
  rfl
 ·obtain⟨p,x,rows,rfl,hR,ok,hn,hx,hd,q⟩:=h
  refine⟨_,pss_cons (ps_set (i:=2) scPlaces.nd rfl (Or.inl rfl) pe_dict0)
   (pss_cons (ps_expr (pe_call GE hr (by rfl) hE FE.kp bE .nil pass0 (pa_cons (pv 0) (pa_cons (pv 1) (pa_cons (pv 2) pa_nil)))))
   (pss_one (ps_ret (pe_callTy (call_listD rfl) (by rfl) B.list PyProof.Rows.boot_list (pa_cons (pv 2) pa_nil))))),?_⟩
  refine λe he=>⟨_,rfl,_,rfl,_,rfl,p,e,x,rows,[],rfl,hR.same (sameU he),ok,hn,hx,hd,post_nil rows,upd_same,λH2 s2 he2=>?_⟩
  refine⟨_,rfl,e,_,rfl,he2,λl hl=>q _ l ?_ ?_⟩
  ·intro b o z
   have nb:b≠e:=ne_of_none z he
   exact keepU (s2 b o (keepU z he) nb) hl
  ·rw[upd_same]
   unfold eK vN
   rw[List.map_map]
   rfl
end
end Pr
namespace Pr
open PySem L2 Qf
def TellAt (H:Hp) (t:Addr) (n top:Nat) (rows:List Row):Prop:=∃p:Addr,H t=some (.tup [.int (n:Nat),.int (top:Nat),.ref p])/\RowsAt H p rows
theorem TellAt.mono {H H':Hp}{t:Addr}{n top:Nat}{rows:List Row}(h:TellAt H t n top rows) (s:Tups H H'):TellAt H' t n top rows:=by
 obtain⟨p,h1,h2⟩:=h
 exact⟨p,s _ _ h1,h2.mono s⟩
theorem all_yes {ys:List V}(h:∀(i:Nat) y,ys[i]?=some y->y=.bl true):ys=(List.replicate ys.length true).map V.bl:=by
 refine list_ext (by simp) λi x hx=>?_
 have hi:=(List.getElem?_eq_some_iff.mp hx).1
 rw[h i x hx]
 simp[hi]
theorem rep_all (k:Nat):(List.replicate k true).all id=true:=by
 rw[List.all_eq_true]
 intro x hx
 exact (List.mem_replicate.mp hx).2
section
variable {P:Program}{w:World}{K:PySem.W.Frag}{mg:Str->Option Value}{base:Heap}
theorem scRow:FnScope ["thing", "before"] ["thing", "before"] (defScope sRow):=⟨rfl,rfl,rfl,by decide +kernel,rfl,by decide +kernel,by decide +kernel⟩
def spRow:Sp:=λvs H Q _=>∃(b:Addr) (i:Nat) (r:Row),vs=[.ref b,.int (i:Nat)]/\H b=some (.tup (vN r))/\RowOk i r/\∀H',Same H H'->Q (.bl true) H'
theorem ok_row {f fN:Addr}{fd fdN:FuncData}(F:Fun K "is_row" "is_row" sRow f fd) (B:Blt mg) (hN:mg "is_number" = some (.ref fN)) (FN:Fun K "is_number" "is_number" sNumber fN fdN) (bN:Binds K fdN ["thing", "many"] []) (GN:FnOk P w K mg base CX0 2 fN fdN ["thing", "many"] spNumber):FnOk P w K mg base CX0 3 f fd ["thing", "before"] spRow:=by
 refine F.ok scRow (λvs H Q E h=>?_) (λcdv A outer s H vs Q E hr h=>?_)
 ·obtain⟨b,i,r,rfl,_⟩:=h
  rfl
 ·obtain⟨b,i,r,rfl,hb,rk,q⟩:=h
  refine⟨_,pss_cons (ps_if (pw_or (pt_not (pt_val (pe_callB call_isi (by rfl) B.isi PyProof.Rows.boot_isinstance (pa_cons (pv 0) (pa_cons (pe_bltn (v:=.ty "tuple") (by rfl) B.tuple PyProof.Rows.boot_tuple rfl) pa_nil)))))
    (pw_or1 (pt_cmpR op_ne (pe_callB call_len_seq (by rfl) B.len PySem.boot_len (pa_cons (pv 0) pa_nil)) pe_int (nomark _)))).pt (pss_one (ps_ret pe_bl)) pss_nil)
   (pss_one (ps_ret (pe_callB (call_allL rfl) (by rfl) B.all PyProof.Rows.boot_all (pa_cons (pe_compB ["thing", "before"] (defScope sRow) rfl rfl rfl scRow.nd (piT K rfl (pv 0)) (λcl C fp s₀ H₀=>pe_call GN hr (by rfl) hN FN.kp bN .nil pass0 (pa_cons (pv 0) (pa_cons (pv 2) pa_nil)))) pa_nil)))),?_⟩
  refine⟨_,rfl,_,_,_,_,true,rfl,rfl,.inl (.tup hb),rfl,_,rfl,iteF ⟨_,rfl,b,_,rfl,.inr (SqT.of hb),rfl,_,rfl,iteNS (by rw[vN_len,rk.1];rfl) ?_⟩⟩
  refine⟨_,rfl,b,rfl,⟨_,SqT.of hb⟩,λD hD=>comp_walk hD (λ_ z _=>z=.bl true) (goes_tup (K:=K) hb) (by rw[vN_len,rk.1];decide) (λ_ _ _ _ _ _ h=>h) ?_ ?_⟩
  ·intro j x H3 hj hx s3 Q' hq
   obtain⟨m,hm,rfl⟩:=vN_get hx
   exact⟨_,rfl,_,rfl,m,i,rfl,rk.2 m (List.mem_of_getElem? hm),hq _ _ (Same.refl _) rfl⟩
  ·intro ys H3 s3 hd3 hly hys
   have e:=all_yes hys
   refine⟨D,List.replicate ys.length true,rfl,by rw[<- e];exact hd3,?_⟩
   rw[rep_all]
   exact q H3 s3
theorem scRows:FnScope ["thing"] ["thing"] (defScope sRows):=⟨rfl,rfl,rfl,by decide +kernel,rfl,by decide +kernel,by decide +kernel⟩
def spRows:Sp:=λvs H Q _=>∃(p:Addr) (rows:List Row),vs=[.ref p]/\RowsAt H p rows/\RowsOk rows/\rows.length<=900/\∀H',Same H H'->Q (.bl true) H'
theorem ok_rows {f fR:Addr}{fd fdR:FuncData}(F:Fun K "are_rows" "are_rows" sRows f fd) (B:Blt mg) (hR:mg "is_row" = some (.ref fR)) (FR:Fun K "is_row" "is_row" sRow fR fdR) (bR:Binds K fdR ["thing", "before"] []) (GR:FnOk P w K mg base CX0 3 fR fdR ["thing", "before"] spRow):FnOk P w K mg base CX0 4 f fd ["thing"] spRows:=by
 refine F.ok scRows (λvs H Q E h=>?_) (λcdv A outer s H vs Q E hr h=>?_)
 ·obtain⟨p,rows,rfl,_⟩:=h
  rfl
 ·obtain⟨p,rows,rfl,hRows,ok,hn,q⟩:=h
  obtain⟨bs,hp,hlen,hrow⟩:=id hRows
  refine⟨_,pss_one (ps_ret (pe_and (pe_callB call_isi (by rfl) B.isi PyProof.Rows.boot_isinstance (pa_cons (pv 0) (pa_cons (pe_bltn (v:=.ty "tuple") (by rfl) B.tuple PyProof.Rows.boot_tuple rfl) pa_nil)))
   (pe_one (pe_callB (call_allL rfl) (by rfl) B.all PyProof.Rows.boot_all (pa_cons (pe_comp2 ["thing"] (defScope sRows) rfl rfl rfl scRows.nd (pi_enumT (by rfl) B.enum (pa_cons (pv 0) pa_nil)) (λcl C fp s₀ H₀=>pe_call GR hr (by rfl) hR FR.kp bR .nil pass0 (pa_cons (pv 1) (pa_cons (pv 0) pa_nil)))) pa_nil))))),?_⟩
  refine⟨_,rfl,_,_,_,_,true,rfl,rfl,.inl (.tup hp),rfl,_,rfl,iteT ?_⟩
  have hlb:(bs.map V.ref).length=rows.length:=by rw[List.length_map];exact hlen
  refine⟨_,rfl,p,rfl,⟨_,SqT.of hp⟩,λD hD=>compG_walk hD (λ_=>true) (λ_=>.bl true) (goes_enum (K:=K) hp) (by rw[hlb];exact small1000 (by lia)) ?_ ?_⟩
  ·rintro i x H2 hi ⟨t,y,rfl,hy,ht⟩ s2 os ho Q1 Q2 q1 q2
   match os,ho with
   |[o1,o2],_=>
    have hi2:i<rows.length:=by rw[<- hlb];exact hi
    rw[List.getElem?_map] at hy
    obtain⟨b,hb,rfl⟩:=Option.map_eq_some_iff.mp hy
    have hr1:rows[i]?=some rows[i]:=by simp[hi2]
    refine⟨t,_,rfl,SqT.of ht,rfl,_,_,rfl,_,_,rfl,rfl,?_⟩
    refine iteT (B:=Q1 H2) ?_
    exact⟨_,rfl,_,rfl,b,i,rows[i],rfl,s2 _ _ (hrow i b _ hb hr1),ok i _ hr1,λH3 s3=>q2 rfl H3 s3⟩
  ·intro H2 s2 hd2
   refine⟨D,List.replicate (bs.map V.ref).length true,rfl,?_,?_⟩
   ·rw[hd2]
    congr 2
    rw[List.map_replicate,List.filter_eq_self.mpr (λ_ _=>rfl)]
    refine list_ext (by simp) λi x hx=>?_
    have hi:=(List.getElem?_eq_some_iff.mp hx).1
    rw[List.getElem?_map] at hx
    obtain⟨_,_,rfl⟩:=Option.map_eq_some_iff.mp hx
    simp at hi
    rw[List.length_map,List.getElem?_replicate,if_pos hi]
   ·rw[rep_all]
    exact q H2 s2
theorem scTelling:FnScope ["thing", "n", "top", "rows"] ["thing"] (defScope sTelling):=⟨rfl,rfl,rfl,by decide +kernel,rfl,by decide +kernel,by decide +kernel⟩
def spTelling:Sp:=λvs H Q _=>∃(t:Addr) (n tp:Nat) (rows:List Row),vs=[.ref t]/\TellAt H t n tp rows/\n<=12/\RowsOk rows/\rows.length<=900/\tp<rows.length+2/\dp rows tp<=n/\∀H',Same H H'->Q (.bl true) H'
theorem ok_telling {f fS fR fN fD:Addr}{fd fdS fdR fdN fdD:FuncData}(F:Fun K "is_telling" "is_telling" sTelling f fd) (B:Blt mg)
  (hS:mg "is_size" = some (.ref fS)) (FS:Fun K "is_size" "is_size" sSize fS fdS) (bS:Binds K fdS ["thing"] []) (GS:FnOk P w K mg base CX0 2 fS fdS ["thing"] spSize)
  (hR:mg "are_rows" = some (.ref fR)) (FR:Fun K "are_rows" "are_rows" sRows fR fdR) (bR:Binds K fdR ["thing"] []) (GR:FnOk P w K mg base CX0 4 fR fdR ["thing"] spRows)
  (hN:mg "is_number" = some (.ref fN)) (FN:Fun K "is_number" "is_number" sNumber fN fdN) (bN:Binds K fdN ["thing", "many"] []) (GN:FnOk P w K mg base CX0 2 fN fdN ["thing", "many"] spNumber)
  (hD:mg "depths_of" = some (.ref fD)) (FD:Fun K "depths_of" "depths_of" sDeps fD fdD) (bD:Binds K fdD ["rows"] []):FnOk P w K mg base CX0 5 f fd ["thing"] spTelling:=by
 have GD:FnOk P w K mg base CX0 1 fD fdD ["rows"] spDeps:=ok_deps FD B
 refine F.ok scTelling (λvs H Q E h=>?_) (λcdv A outer s H vs Q E hr h=>?_)
 ·obtain⟨t,n,tp,rows,rfl,_⟩:=h
  rfl
 ·obtain⟨t,n,tp,rows,rfl,⟨p,ht,hRows⟩,hn,ok,hl,htp,hd,q⟩:=h
  have hr1:Room 1 _:=hr.mono (by decide)
  have hr2:Room 2 _:=hr.mono (by decide)
  refine⟨_,pss_cons (ps_if (pw_or (pt_not (pt_val (pe_callB call_isi (by rfl) B.isi PyProof.Rows.boot_isinstance (pa_cons (pv 0) (pa_cons (pe_bltn (v:=.ty "tuple") (by rfl) B.tuple PyProof.Rows.boot_tuple rfl) pa_nil)))))
    (pw_or1 (pt_cmpR op_ne (pe_callB call_len_seq (by rfl) B.len PySem.boot_len (pa_cons (pv 0) pa_nil)) pe_int (nomark _)))).pt (pss_one (ps_ret pe_bl)) pss_nil)
   (pss_cons (ps_asg (pv 0) (pg_tup rfl (pgs_cons (pg_name (i:=1) scTelling.nd rfl (Or.inl rfl)) (pgs_cons (pg_name (i:=2) scTelling.nd rfl (Or.inl rfl)) (pgs_cons (pg_name (i:=3) scTelling.nd rfl (Or.inl rfl)) pgs_nil)))))
   (pss_cons (ps_if (pw_or (pt_not (pt_val (pe_call GS hr2 (by rfl) hS FS.kp bS .nil pass0 (pa_cons (pv 1) pa_nil))))
    (pw_or (pt_not (pt_val (pe_call GR hr (by rfl) hR FR.kp bR .nil pass0 (pa_cons (pv 3) pa_nil))))
    (pw_or1 (pt_not (pt_val (pe_call GN hr2 (by rfl) hN FN.kp bN .nil pass0 (pa_cons (pv 2) (pa_cons (pe_callB call_len_seq (by rfl) B.len PySem.boot_len (pa_cons (pv 3) pa_nil)) pa_nil)))))))).pt (pss_one (ps_ret pe_bl)) pss_nil)
   (pss_one (ps_ret (pe_cmpR op_le (pe_ix ix_list (pe_call GD hr1 (by rfl) hD FD.kp bD .nil pass0 (pa_cons (pv 3) pa_nil)) (pv 2) (λ_ _=>rfl)) (pv 1) (nomark _)))))),?_⟩
  refine⟨_,rfl,_,_,_,_,true,rfl,rfl,.inl (.tup ht),rfl,_,rfl,iteF ⟨_,rfl,t,_,rfl,.inr (SqT.of ht),rfl,_,rfl,iteF ?_⟩⟩
  refine⟨_,rfl,t,_,rfl,SqT.of ht,rfl,_,_,rfl,_,_,rfl,_,_,rfl,rfl,?_⟩
  refine⟨_,rfl,n,rfl,hn,_,rfl,iteF ⟨_,rfl,p,rows,rfl,hRows,ok,hl,λH2 s2=>⟨_,rfl,iteF ?_⟩⟩⟩
  obtain⟨bs,hp,hlen,hrow⟩:=id hRows
  refine⟨_,rfl,_,rfl,p,_,rfl,.inr (SqT.of (s2 _ _ hp)),tp,rows.length,by rw[List.length_map,hlen];rfl,htp,_,rfl,iteF ?_⟩
  refine⟨_,rfl,p,rows,rfl,hRows.same s2,ok,hl,λH3 D s3 hd3=>?_⟩
  refine⟨_,rfl,D,_,(tp:Int),.int (dp rows tp:Nat),rfl,rfl,SqL.of hd3,vN_atI (dp_get htp),_,rfl,_,_,rfl,rfl,?_⟩
  show Q (V.bl (decide ((dp rows tp:Int)<=(n:Int)))) H3
  rw[decide_eq_true (by lia)]
  exact q H3 (s2.trans s3)
end
end Pr
namespace Pr
open PySem L2 Qf
def ShapeAt (H:Hp) (t:Addr) (n top:Nat) (rows:List Row):Prop:=TellAt H t n top rows/\Canon n top rows/\rows.length<=900
def keyN (r:List Nat):List Key:=r.map λn:Nat=>Sum.inl (n:Int)
theorem keyN_V (r:List Nat):(keyN r).map kV=vN r:=by unfold keyN vN;rw[List.map_map];rfl
theorem keyN_inj {l m:List Nat}(h:keyN l=keyN m):l=m:=by
 have:vN l=vN m:=by rw[<- keyN_V,<- keyN_V,h]
 rw[vN_int,vN_int] at this
 exact int_inj ((List.map_inj_right (λ_ _ z=>V.int.inj z)).mp this)
theorem keys_nodup {rows:List Row}(h:rows.Nodup):(rows.map keyN).Nodup:=by
 rw[nd_iff] at h ⊢
 intro i j hij hj z
 rw[List.length_map] at hj
 refine h i j hij hj ?_
 rw[List.getElem?_map,List.getElem?_map,List.getElem?_eq_getElem (by lia),List.getElem?_eq_getElem hj] at z
 rw[List.getElem?_eq_getElem (by lia),List.getElem?_eq_getElem hj]
 congr 1
 exact keyN_inj (Option.some.inj z)
theorem depth_ints (ns:List Int):PyData.depthAll (ns.map PyData.int)<=1:=by
 induction ns with
 |nil=>simp[PyData.depthAll]
 |cons a ns ih=>
  rw[List.map_cons]
  simp only[PyData.depthAll,PyData.depth]
  lia
theorem dL_depth (ns:List Int):(dL ns).depth<=2:=by
 have:=depth_ints ns
 unfold dL
 simp only[PyData.depth]
 lia
section
variable {P:Program}{w:World}{K:PySem.W.Frag}{mg:Str->Option Value}{base:Heap}
theorem scShape:FnScope ["thing", "top", "rows"] ["thing"] (defScope sShape):=⟨rfl,rfl,rfl,by decide +kernel,rfl,by decide +kernel,by decide +kernel⟩
def spShape:Sp:=λvs H Q _=>∃(t:Addr) (n tp:Nat) (rows:List Row),vs=[.ref t]/\ShapeAt H t n tp rows/\∀H',Same H H'->Q (.bl true) H'
theorem ok_shape {f fT fP fA:Addr}{fd fdT fdP fdA:FuncData}(F:Fun K "is_shape" "is_shape" sShape f fd) (B:Blt mg) (T:Cst mg)
  (hT:mg "is_telling" = some (.ref fT)) (FT:Fun K "is_telling" "is_telling" sTelling fT fdT) (bT:Binds K fdT ["thing"] []) (GT:FnOk P w K mg base CX0 5 fT fdT ["thing"] spTelling)
  (hP:mg "is_plain" = some (.ref fP)) (FP:Fun K "is_plain" "is_plain" sPlain fP fdP) (bP:Binds K fdP ["row"] [])
  (hA:mg "places_as_ended" = some (.ref fA)) (FA:Fun K "places_as_ended" "places_as_ended" sPlaces fA fdA) (bA:Binds K fdA ["rows", "top"] []) (GA:∀d,FnOk P w K mg base CX0 (d+2) fA fdA ["rows", "top"] (spPlaces d)):FnOk P w K mg base CX0 15 f fd ["thing"] spShape:=by
 have GP:FnOk P w K mg base CX0 2 fP fdP ["row"] spPlain:=ok_plain FP T
 refine F.ok scShape (λvs H Q E h=>?_) (λcdv A outer s H vs Q E hr h=>?_)
 ·obtain⟨t,n,tp,rows,rfl,_⟩:=h
  rfl
 ·obtain⟨t,n,tp,rows,rfl,⟨hTell,cn,hl⟩,q⟩:=h
  obtain⟨p,ht,hRows⟩:=id hTell
  obtain⟨bs,hp,hlen,hrow⟩:=id hRows
  have hr2:Room 2 _:=hr.mono (by decide)
  have hr5:Room 5 _:=hr.mono (by decide)
  have hrA:Room (n+2) _:=hr.mono (by have:=cn.size;lia)
  refine⟨_,pss_cons (ps_if (pt_not (pt_val (pe_call GT hr5 (by rfl) hT FT.kp bT .nil pass0 (pa_cons (pv 0) pa_nil)))) (pss_one (ps_ret pe_bl)) pss_nil)
   (pss_cons (ps_asg (pe_slice sl_tup (pv 0) (po_some pe_int) po_none) (pg_tup rfl (pgs_cons (pg_name (i:=1) scShape.nd rfl (Or.inl rfl)) (pgs_cons (pg_name (i:=2) scShape.nd rfl (Or.inl rfl)) pgs_nil))))
   (pss_cons (ps_if (PW.pt (pw_or (pt_val (pe_callB (call_anyL rfl) (by rfl) B.any PyProof.Rows.boot_any (pa_cons (pe_compB ["thing", "top", "rows"] (defScope sShape) rfl rfl rfl scShape.nd (piT K rfl (pv 2)) (λcl C fp s₀ H₀=>pe_call GP hr2 (by rfl) hP FP.kp bP .nil pass0 (pa_cons (pv 0) pa_nil))) pa_nil)))
    (pw_or1 (pt_cmpR op_lt (pe_callB call_lenSet (by rfl) B.len PySem.boot_len (pa_cons (pe_callTy (call_setT rfl hr) (by rfl) B.set PyProof.Rows.boot_set (pa_cons (pv 2) pa_nil)) pa_nil)) (pe_callB call_len_seq (by rfl) B.len PySem.boot_len (pa_cons (pv 2) pa_nil)) (nomark _))))) (pss_one (ps_ret pe_bl)) pss_nil)
   (pss_one (ps_ret (pe_cmpR (op_eqD hr) (pe_call (GA n) hrA (by rfl) hA FA.kp bA .nil pass0 (pa_cons (pv 2) (pa_cons (pv 1) pa_nil)))
    (pe_callTy (call_listR rfl) (by rfl) B.list PyProof.Rows.boot_list (pa_cons (pe_callTy call_range1V (by rfl) B.range PyProof.Rows.boot_range (pa_cons (pe_callB call_len_seq (by rfl) B.len PySem.boot_len (pa_cons (pv 2) pa_nil)) pa_nil)) pa_nil)) (nomark _)))))),?_⟩
  refine⟨_,rfl,t,n,tp,rows,rfl,hTell,cn.size,cn.rok,hl,cn.inn,cn.deep,λH1 s1=>⟨_,rfl,iteF ?_⟩⟩
  have ht1:=s1 _ _ ht
  refine⟨_,rfl,_,rfl,t,_,rfl,SqT.of ht1,(λz=>absurd (show HT.sIx 3 0 (some 1)=0 from z.1) (by decide)),λu hu=>?_⟩
  refine⟨u,_,rfl,SqT.of upd_same,rfl,_,_,rfl,_,_,rfl,rfl,?_⟩
  have sA:Same H (upd H1 u (.tup [.int (tp:Nat),.ref p])):=s1.trans (sameU hu)
  refine (λ(go:∀H2,Same H H2->_)=>go _ sA) ?_
  intro H2 s2
  have hp2:=s2 _ _ hp
  have hlb:(bs.map V.ref).length=rows.length:=by rw[List.length_map];exact hlen
  refine⟨_,rfl,p,rfl,⟨_,SqT.of hp2⟩,λD hD=>comp_walk hD (λ_ z _=>z=.bl false) (goes_tup (K:=K) hp2) (by rw[hlb];exact small1000 (by lia)) (λ_ _ _ _ _ _ h=>h) ?_ ?_⟩
  ·intro j x H3 hj hx s3 Q' hq
   have hj2:j<rows.length:=by rw[<- hlb];exact hj
   rw[List.getElem?_map] at hx
   obtain⟨b,hb,rfl⟩:=Option.map_eq_some_iff.mp hx
   have hr1:rows[j]?=some rows[j]:=by simp[hj2]
   refine⟨_,rfl,b,rows[j],rfl,s3 _ _ (s2 _ _ (hrow j b _ hb hr1)),(cn.rok j _ hr1).1,λH4 s4=>hq _ _ s4 ?_⟩
   rw[decide_eq_false (cn.unplain _ (List.getElem_mem hj2))]
  ·intro ys H3 s3 hd3 hly hys
   have e:ys=(List.replicate ys.length false).map V.bl:=by
    refine list_ext (by simp) λi x hx=>?_
    have hi:=(List.getElem?_eq_some_iff.mp hx).1
    rw[hys i x hx]
    simp[hi]
   have s23:Same H H3:=s2.trans s3
   refine⟨D,List.replicate ys.length false,rfl,by rw[<- e];exact hd3,_,rfl,?_⟩
   have na:(List.replicate ys.length false).any id=false:=by
    rw[List.any_eq_false]
    intro x hx
    rw[(List.mem_replicate.mp hx).2]
    decide
   rw[na]
   refine iteF ?_
   have hp3:=s23 _ _ hp
   refine⟨_,rfl,p,bs,rows.map keyN,rfl,hp3,by rw[List.length_map];exact hlen,λi b ks e1 e2=>?_,keys_nodup cn.unlike,by rw[List.length_map];lia,λr hr'=>?_⟩
   ·rw[List.getElem?_map] at e2
    obtain⟨r0,hr0,rfl⟩:=Option.map_eq_some_iff.mp e2
    rw[keyN_V]
    exact s23 _ _ (hrow i b r0 e1 hr0)
   ·have s4:Same H (upd H3 r (.ext (SetN r (rows.map keyN).length))):=s23.trans (sameU hr')
    have hp4:=s4 _ _ hp
    refine⟨r,_,rfl,upd_same,by rw[List.length_map];lia,_,rfl,p,_,rfl,.inr (SqT.of hp4),_,_,rfl,rfl,_,rfl,?_⟩
    have nl:decide (((rows.map keyN).length:Int)<((bs.map V.ref).length:Int))=false:=decide_eq_false (by rw[hlb,List.length_map];lia)
    rw[nl]
    refine iteF ?_
    refine (λ(go:∀H5,Same H H5->_)=>go _ s4) ?_
    intro H5 s5
    refine⟨_,rfl,_,rfl,p,tp,rows,rfl,(hRows.same s5).s,cn.rok,(Nat.le_trans hl (by decide)),cn.inn,cn.deep,λH6 D6 s6 hd6=>?_⟩
    have hp6:=s6 _ _ (s5 _ _ hp)
    refine⟨_,rfl,p,_,rfl,.inr (SqT.of hp6),_,rfl,λg hg=>⟨g,rows.length,rfl,by rw[upd_same,hlb],by lia,λl hl'=>?_⟩⟩
    have hd7:=keepU (u:=.lst ((List.range rows.length).map λ(i:Nat)=>V.int (i:Int))) (keepU (u:=.rng 0 ((bs.map V.ref).length:Int)) hd6 hg) hl'
    rw[cn.ends,vN_int] at hd7
    have e9:((List.range rows.length).map λ(i:Nat)=>V.int (i:Int))=((List.range rows.length).map λn:Nat=>(n:Int)).map V.int:=vN_int _
    refine⟨dL ((List.range rows.length).map λn:Nat=>(n:Int)),dL ((List.range rows.length).map λn:Nat=>(n:Int)),.lst hd7 (DatasAt.ints _),.lst upd_same (e9▸DatasAt.ints _),dL_lay _,dL_lay _,?_,?_⟩
    ·exact Nat.le_trans (dL_depth _) (by decide)
    ·rw[dL_eqv,decide_eq_true rfl]
     exact q _ (s5.trans (s6.trans ((sameU hg).trans (sameU hl'))))
end
end Pr
namespace Pr
open PySem L2 Qf
section
variable {P:Program}{w:World}{K:PySem.W.Frag}{mg:Str->Option Value}{base:Heap}
theorem scWantS:FnScope ["shape"] ["shape"] (defScope sWantS):=⟨rfl,rfl,rfl,by decide +kernel,rfl,by decide +kernel,by decide +kernel⟩
def spWantS:Sp:=λvs H Q _=>∃(t:Addr) (n tp:Nat) (rows:List Row),vs=[.ref t]/\ShapeAt H t n tp rows/\∀H',Same H H'->Q .non H'
theorem ok_wantS {f fS:Addr}{fd fdS:FuncData}(F:Fun K "want_shape" "want_shape" sWantS f fd)
  (hS:mg "is_shape" = some (.ref fS)) (FS:Fun K "is_shape" "is_shape" sShape fS fdS) (bS:Binds K fdS ["thing"] []) (GS:FnOk P w K mg base CX0 15 fS fdS ["thing"] spShape):FnOk P w K mg base CX0 16 f fd ["shape"] spWantS:=by
 refine F.ok scWantS (λvs H Q E h=>?_) (λcdv A outer s H vs Q E hr h=>?_)
 ·obtain⟨t,n,tp,rows,rfl,_⟩:=h
  rfl
 ·obtain⟨t,n,tp,rows,rfl,hSh,q⟩:=h
  refine⟨_,pss_one (ps_if (pt_not (pt_val (pe_call GS hr (by rfl) hS FS.kp bS .nil pass0 (pa_cons (pv 0) pa_nil)))) pss_never pss_nil),?_⟩
  exact⟨_,rfl,t,n,tp,rows,rfl,hSh,λH1 s1=>⟨_,rfl,iteF (q H1 s1)⟩⟩
end
end Pr
namespace L2
open PySem PySem.Spec PyProof.Rows
section
variable {prog:Program}{w:World}{κ:Type}[DecidableEq κ]{hk:HeapKind prog w κ}{A:Around}{E:Value->Shared->Prop}{s:Shared}{d a:Addr}{k:κ}{xs:List (κ×Addr×Value)}
end
section
variable {X:Cx}
end
end L2
namespace L2
open PySem PySem.Spec PyProof.Rows
section
variable {X:Cx}
end
end L2
namespace L2
open PySem PySem.Spec PyProof.Rows PySem.W
def Bare (h:Heap) (d:Addr) (tab:Array DictEntry) (ep:Nat):Prop:=∃o,h.get? d=some o/\o.ExactDict/\o.data=.dict tab ep
theorem Bare.stay {h h':Heap}{d:Addr}{tab:Array DictEntry}{ep:Nat}(x:Bare h d tab ep) (k:∀o,h.get? d=some o->h'.get? d=some o):Bare h' d tab ep:=let ⟨o,ho,r⟩:=x;⟨o,k o ho,r⟩
theorem Bare.ty {s:Shared}{d:Addr}{tab:Array DictEntry}{ep:Nat}(x:Bare s.heap d tab ep):s.TypeIs (.ref d) "dict":=let ⟨o,ho,hc,_⟩:=x;⟨o,ho,hc.1⟩
theorem Bare.lt {h:Heap}{d:Addr}{tab:Array DictEntry}{ep:Nat}(x:Bare h d tab ep):d<h.objs.size:=let ⟨_,ho,_⟩:=x;Heap.lt_size ho
section
variable {prog:Program}{w:World}{A:Around}{E:Value->Shared->Prop}{s:Shared}{d it:Addr}{tab:Array DictEntry}{ep i:Nat}
theorem bare_iter {Q:Value->Shared->Prop}(lo:(d==sysModules)=false) (x:Bare s.heap d tab ep)
  (q:Q (.ref s.heap.objs.size) { s with heap:=s.heap.push { cls:=.type "dict_keyiterator",data:=.fields #[.ref d,.int 0 0,.int tab.size 0,.int ep 0] } }):wpAny (model prog w) A (pyIter (.ref d)) Q E s:=by
 obtain⟨o,ho,hc,hdat⟩:=id x
 refine wpAny_pyIter_slot x.ty F.slot_dict_iter (wpAny_call_entry F.slot_dict_iter x.ty F.entry_dict_iter ?_ (F.args_dict_iter_1 _))
 show wpAny _ _ (Builtin.Dict.dictSlotNone _ _ >>= _) _ _ _
 unfold Builtin.Dict.dictSlotNone;refine wpAny_bind (wpAny_bind (wpAny_notOrdered_dict x.ty (wpAny_pure ?_)))
 show wpAny _ _ (Builtin.Dict.showsAll d >>= _) _ _ s;unfold Builtin.Dict.showsAll
 rw[if_neg (by rw[lo];decide)];refine wpAny_bind (wpAny_pure (wpAny_bind (wpAny_dictEntries ho hdat (wpAny_bind (wpAny_dictEpoch ho hdat ?_)))))
 refine wpAny_bind (wpAny_newObj_type (wpAny_pure ⟨_,rfl, "dict_keyiterator",_,⟨_,Heap.get?_push_size _ rfl,rfl⟩,F.slot_dict_keyiterator_next.lookup,?_⟩));simpa [rawInt] using q
theorem bare_next {Q:Option Value->Shared->Prop}(st:s.heap.IsKeyIter it d i tab.size ep) (x:Bare s.heap d tab ep) (hi:i<tab.size)
  (q:∀h',h'.IsKeyIter it d (i+1) tab.size ep->Heap.SameBut it s.heap h'->Q (some tab[i].key) { s with heap:=h' }):wpAny (model prog w) A (pyNext (.ref it)) Q E s:=by
 obtain⟨o,ho,hc,hd⟩:=id st;obtain⟨od,hod,hcd,hdd⟩:=id x
 unfold pyNext;refine wpAny_bind (wpAny_attempt (wpAny_callSpecial?_slot (name:=Str.ofString "__next__") st.typeIs F.slot_dict_keyiterator_next (wpAny_call_entry F.slot_dict_keyiterator_next st.typeIs F.entry_dict_keyiterator_next ?_ (F.args_dict_keyiterator_next_1 _))))
 refine wpAny_bind (wpAny_pure (wpAny_bind (wpAny_bind ?_)))
 first|(refine wpAny_bind (wpAny_typeNameOfWhole_keyiter st.typeIs (wpAny_pure (wpAny_bind (wpAny_fieldsOf ho hd ?_)))))|(refine wpAny_bind (wpAny_typeNameOf_keyiter st.typeIs (wpAny_pure (wpAny_bind (wpAny_fieldsOf ho hd ?_)))))
 simp only[show Builtin.Dict_items.ownsTuple "dict_keyiterator" = false by decide,Bool.false_eq_true,if_false]
 show wpAny _ _ (if (Value.ref d==Value.none)=true then _ else _) _ _ s;rw[if_neg (show ¬((Value.ref d==Value.none)=true) by exact Bool.false_ne_true)]
 refine wpAny_bind (wpAny_pure (wpAny_bind (wpAny_dictEntries hod hdd ?_)));rw[if_neg (by simp)]
 refine wpAny_bind (wpAny_pure (wpAny_bind (wpAny_dictEpoch hod hdd ?_)));rw[if_neg (by simp)];refine wpAny_pure ?_
 simp only[show ¬((i:Int)<0) by lia,if_false,Int.toNat_natCast,Array.getElem?_eq_getElem hi];refine wpAny_bind ?_
 first|(refine wpAny_bind (wpAny_typeNameOfWhole_keyiter st.typeIs (wpAny_pure (wpAny_bind (wpAny_isOneOf_keyiter st.typeIs ?_)))))|(refine wpAny_bind (wpAny_typeNameOf_keyiter st.typeIs (wpAny_pure (wpAny_bind (wpAny_isOneOf_keyiter st.typeIs ?_)))))
 show wpAny _ _ (setField (.ref it) 1 (rawInt ((i:Int)+1)) >>= _) _ _ s;refine wpAny_bind (wpAny_setField ho hd (by simp) ?_)
 have st':(s.heap.update it (Obj.mapFields (·.setIfInBounds 1 (rawInt ((i:Int)+1))))).IsKeyIter it d (i+1) tab.size ep:=⟨_,Heap.get?_update_self _ ho (Obj.isFreed_of_fields (Obj.data_mapFields hd _)),(Obj.cls_mapFields ..).trans hc,by rw[Obj.data_mapFields hd];simp[rawInt]⟩
 refine wpAny_bind (wpAny_holding (wpAny_bind (wpAny_isOneOf_keyiter (s:={ s with heap:=s.heap.update it (Obj.mapFields (·.setIfInBounds 1 (rawInt ((i:Int)+1)))) }) st'.typeIs ?_)))
 show wpAny _ _ (pure tab[i].key) _ _ _
 exact wpAny_pure (wpAny_pure ⟨_,rfl,wpAny_pure (q _ st' (Heap.SameBut.update ..))⟩)
theorem bare_end {Q:Option Value->Shared->Prop}(hh:A.handled=none) (st:s.heap.IsKeyIter it d tab.size tab.size ep) (x:Bare s.heap d tab ep)
  (q:∀h',Heap.ExtBut it s.heap h'->Q none { s with heap:=h' }):wpAny (model prog w) A (pyNext (.ref it)) Q E s:=by
 obtain⟨o,ho,hc,hd⟩:=id st;obtain⟨od,hod,hcd,hdd⟩:=id x
 unfold pyNext;refine wpAny_bind (wpAny_attempt (wpAny_callSpecial?_slot (name:=Str.ofString "__next__") st.typeIs F.slot_dict_keyiterator_next (wpAny_call_entry F.slot_dict_keyiterator_next st.typeIs F.entry_dict_keyiterator_next ?_ (F.args_dict_keyiterator_next_1 _))))
 refine wpAny_bind (wpAny_pure (wpAny_bind (wpAny_bind ?_)))
 first|(refine wpAny_bind (wpAny_typeNameOfWhole_keyiter st.typeIs (wpAny_pure (wpAny_bind (wpAny_fieldsOf ho hd ?_)))))|(refine wpAny_bind (wpAny_typeNameOf_keyiter st.typeIs (wpAny_pure (wpAny_bind (wpAny_fieldsOf ho hd ?_)))))
 simp only[show Builtin.Dict_items.ownsTuple "dict_keyiterator" = false by decide,Bool.false_eq_true,if_false]
 show wpAny _ _ (if (Value.ref d==Value.none)=true then _ else _) _ _ s;rw[if_neg (show ¬((Value.ref d==Value.none)=true) by exact Bool.false_ne_true)]
 refine wpAny_bind (wpAny_pure (wpAny_bind (wpAny_dictEntries hod hdd ?_)));rw[if_neg (by simp)]
 refine wpAny_bind (wpAny_pure (wpAny_bind (wpAny_dictEpoch hod hdd ?_)));rw[if_neg (by simp)];refine wpAny_pure ?_
 simp only[show ¬((tab.size:Int)<0) by lia,if_false,Int.toNat_natCast,Array.getElem?_eq_none (Nat.le_refl tab.size)];refine wpAny_bind ?_
 first|(refine wpAny_bind (wpAny_typeNameOfWhole_keyiter st.typeIs (wpAny_pure ?_)))|(refine wpAny_bind (wpAny_typeNameOf_keyiter st.typeIs (wpAny_pure ?_)))
 show wpAny _ _ (setField (.ref it) 0 .none >>= _) _ _ s;refine wpAny_bind (wpAny_setField ho hd (by simp) ?_)
 show wpAny _ _ (newExc (.type "StopIteration") [] >>= _) _ _ _;refine wpAny_bind ?_
 simp only[newExc,newTuple];refine wpAny_bind (wpAny_newObj_type ?_ (by size_fits))
 refine wpAny_bind (m:=firstArgMember _ _) (wpAny_of_eq (a:=Value.none) (by first|rfl|(simp only[firstArgMember];rfl)) (wpAny_newObj_type ?_ (by size_fits)))
 simp only[raiseNew];refine wpAny_bind (wpAny_handled ?_);rw[show A.in1.handled=none by exact hh]
 refine wpAny_bind (wpAny_pure (wpAny_throw ?_));refine wpAny_bind (wpAny_isInstance (T:= "StopIteration") (b:=true) ⟨_,Heap.get?_push_size _ rfl,rfl⟩ isSubtype_stop ?_)
 exact wpAny_pure (q _ (((Heap.SameBut.update ..).extBut.push _).push _))
theorem bare_walks (hh:A.handled=none) (hne:d≠it):Walks prog w A it [it,d] [it] tab.size (λi v=>∃e,tab[i]?=some e/\v=e.key) (λi h=>h.IsKeyIter it d i tab.size ep/\Bare h d tab ep) where
 sub:=λb hb=>by simp at hb;simp[hb]
 frame:=λ_ _ _ st k=>⟨st.1.at λo e=>k it (by simp) o e,st.2.stay λo e=>k d (by simp) o e⟩
 item:=λi s Q E hi st q=>bare_next st.1 st.2 hi λh' st' sb=>q _ h' s.toks ⟨tab[i],by simp[hi],rfl⟩ ⟨st',st.2.stay λo e=>sb.extBut d o hne e⟩ λb o hb e=>sb.extBut b o (λh=>hb (by simp[h])) e
 done:=λs Q E st q=>bare_end hh st.1 st.2 λh' eb=>q h' s.toks λb o hb e=>eb b o (λh=>hb (by simp[h])) e
 self:=λ_ _ _ _ st q=>wpAny_pyIter_keyiter st.1 q
theorem bare_src (lo:(d==sysModules)=false):KdlSrc prog w "dict" d d tab.size (λi v=>∃e,tab[i]?=some e/\v=e.key) (λh=>Bare h d tab ep) where
 type:=λ_ x=>x.ty
 there:=λ_ x=>⟨x.lt,x.lt⟩
 keep:=λ_ _ x k=>x.stay λo e=>k d (.inl rfl) o e
 notList:=by decide
 notTuple:=by decide
 hint:=λ_ _ _ _ x q=>kdl_hint_dict x.ty q
 iter:=λ_ _ hh x=>⟨_,_,(λ_ _ q=>bare_iter lo x q),bare_walks hh (Nat.ne_of_lt x.lt),⟨⟨_,Heap.get?_push_size _ rfl,rfl,rfl⟩,x.stay λo e=>Heap.get?_push_of_some _ e⟩⟩
theorem bare_size (lo:(d==sysModules)=false):MeetsIn prog w (Builtin.«dict.__len__» ⟨[.ref d],[]⟩) (λ_ R s=>∃tab ep,Bare s.heap d tab ep/\R (.ok (.ret (.int tab.size s.toks))) { s with toks:=s.toks+1 }):=
 .of_wp λA R s ⟨tab,ep,⟨o,ho,hx,hdat⟩,q⟩=>by
  show wpAny _ _ (dictSize d >>= _) _ _ s;unfold dictSize
  refine wpAny_bind (wpAny_bind (wpAny_dictEntries ho hdat (wpAny_pure ?_)));show wpAny _ _ (Builtin.Dict.pendingCount d >>= _) _ _ s
  exact wpAny_bind (wpAny_pendingCount_other lo (wpAny_ret_mkInt (by rw[Nat.add_zero];exact q)))
theorem bare_len {Q:Value->Shared->Prop}(lo:(d==sysModules)=false) (x:Bare s.heap d tab ep) (fit:(tab.size:Int)<2^63) (q:Q (.int tab.size (s.toks+1)) { s with toks:=s.toks+1+1 }) :
  wpAny (model prog w) A (call (.builtin "len") [.ref d]) Q E s:=by
 refine Calls.call_function_entry kind_len plain_len entry_len (args_len1 _) ?_
 unfold Builtin.«len»;refine wpAny_bind (m:=oneArg "len" _) (wpAny_pure ?_)
 refine wpAny_bind (m:=callSpecial? (.ref d) (Str.ofString "__len__")) (wpAny_callSpecial?_slot (name:=Str.ofString "__len__") x.ty F.slot_dict_len (call_meetsIn F.slot_dict_len x.ty F.entry_dict_len (F.args_dict_len_1 _) (bare_size lo) ⟨tab,ep,x,?_⟩))
 show wpAny _ _ _ _ _ { s with toks:=s.toks+1 };refine wpAny_bind (wpAny_holding (wpAny_pure (wpAny_bind (wpAny_letGo ?_))))
 show wpAny _ _ (if ((tab.size:Nat):Int)<0 then _ else _) _ _ _;rw[if_neg (by lia)]
 show wpAny _ _ (if ((tab.size:Nat):Int)>=2^63 then _ else _) _ _ _;rw[if_neg (by lia)];exact wpAny_bind (wpAny_mkInt (wpAny_pure ⟨_,rfl,q⟩))
end
section
variable {X:Cx}
theorem call_lenT:CallR X (.builtin "len") (λxs H Q=>∃d kvs,xs=[V.ref d]/\H d=some (.dT kvs)/\Q (.int kvs.length) H):=by
 intro pins s σ H xs us Q I r h
 obtain⟨d,kvs,rfl,hd,q⟩:=h
 obtain⟨u,rfl,ru⟩:=vals1 r
 cases ru
 obtain⟨z,lo,ys,rel,o,tab,ep,ho,hx,hdat,ent,uni⟩:=(show ObjOk X.prog X.w H s.heap d (.dT kvs) from I.hok d _ hd)
 have hl:tab.size=kvs.length:=(size_of_entries ent).trans (Paired.length rel).symm
 have fit:(tab.size:Int)<2^63:=by rw[hl];rw[sizeLine_eq] at z;lia
 refine bare_len lo ⟨o,ho,hx,hdat⟩ fit ⟨.int kvs.length,H,I.tok _,?_,q⟩
 rw[hl]
 exact⟨_,rfl⟩
end
end L2
namespace L2
open PySem PySem.Spec PyProof.Rows PySem.W
section
variable {prog:Program}{w:World}{A:Around}{E:Value->Shared->Prop}{s:Shared}{T:String}{r d:Addr}{n:Nat}{P:Nat->Value->Prop}{OK:Heap->Prop}
theorem collect_src {Q:List Value->Shared->Prop}(K:KdlSrc prog w T r d n P OK) (hh:A.handled=none) (hok:OK s.heap) (hn:n<=sizeLine)
  (hQ:∀(h':Heap) tk acc',(∀b o,s.heap.get? b=some o->h'.get? b=some o)->ItemsOf P acc' n->Q acc'.toList { s with heap:=h',toks:=tk }):wpAny (model prog w) A (collect (.ref r)) Q E s:=by
 have hlt:=K.there _ hok
 unfold collect
 refine wpAny_bind (wpAny_runValue (codeAny_builtin F.entry_proto_collect ?_))
 rw[Around.under_plainId F.plain_proto_collect _]
 show wpAny _ A.in1 (newList [] >>= λl=>again (.builtin "list.__iadd__" ⟨[l,.ref r],[]⟩)) _ _ s
 refine wpAny_bind (wpAny_newObj_type ?_)
 refine wpAny_pure ⟨plainId_quiet F.plain_list_iadd _,codeAny_builtin F.entry_list_iadd ?_⟩
 rw[Around.under_plainId F.plain_list_iadd _]
 have hS₁:(s.heap.push { cls:=.type "list",data:=.seq ([]:List Value).toArray }).get? s.heap.objs.size=some { cls:=.type "list",data:=.seq ([]:List Value).toArray }:=Heap.get?_push_size _ rfl
 show wpAny _ A.in1 (Builtin.List.listExtendWith (.ref s.heap.objs.size) (.ref r) (.ref s.heap.objs.size)) _ _ _
 refine kdl_extend (R:=wants (λv s'=>wpAny (model prog w) A (match v with|.ref a=>(do let ob <- load a;match ob.data with|.seq xs _=>pure xs.toList|_=>unsupported "internal:collect")|_=>unsupported "internal:collect") Q E s') E) (s:={ s with heap:=s.heap.push { cls:=.type "list",data:=.seq ([]:List Value).toArray } }) K hh (K.keep _ _ hok λb _ o e=>Heap.get?_push_of_some _ e) s.heap.objs.size (Nat.ne_of_gt hlt.1) (Nat.ne_of_gt hlt.2) _ _ hS₁ (λh' tk acc' c' hk hS' hacc=>?_) hn
 show wpAny _ A (load s.heap.objs.size >>= _) _ _ _
 refine wpAny_bind (wpAny_load hS' ?_)
 exact wpAny_pure (hQ h' tk acc' (λb o e=>hk b o (Nat.ne_of_lt (Heap.lt_size e)) (Heap.get?_push_of_some _ e)) hacc)
theorem code_tuple_src {Q₁:Value->Shared->Prop}(K:KdlSrc prog w T r d n P OK) (hh:A.handled=none) (hok:OK s.heap) (hn:n<=sizeLine)
  (h:∀(h':Heap) tk acc,(∀b o,s.heap.get? b=some o->h'.get? b=some o)->ItemsOf P acc n->Q₁ (.ref h'.objs.size) { s with heap:=h'.push { cls:=.type "tuple",data:=.seq acc },toks:=tk }) :
  codeAny (model prog w) A (.call (.builtin "tuple.__new__") ⟨[.type "tuple",.ref r],[]⟩) (wants Q₁ E) s:=by
 refine codeAny_of_tree ?_
 show wpAny _ A.in1 (do checkBuiltinCall "tuple.__new__" ⟨[.type "tuple",.ref r],[]⟩;again (.builtin "tuple.__new__" ⟨[.type "tuple",.ref r],[]⟩)) _ _ s
 refine wpAny_bind (wpAny_of_eq (F.newCall_tuple_1 _) (wpAny_pure ⟨plainId_quiet F.plain_tuple_new _,codeAny_builtin F.entry_tuple_new ?_⟩))
 rw[Around.under_plainId F.plain_tuple_new _]
 have hsub:=sub_tuple_self
 have hinit:=init_tuple_lookup
 have hmh:=madeHere_tuple
 have hTI:=K.type s hok
 have hnt:=K.notTuple
 wp_walk using wpAny_typeOf hTI,collect_src (A:=A.in1) K hh hok hn
 intro h' tk acc hk hacc
 show wpAny _ _ (Builtin.Tuple.tupleExact acc.toList.toArray >>= λv=>ret v) _ _ _
 unfold Builtin.Tuple.tupleExact
 refine wpAny_bind (wpAny_newObj_type ?_ (by show acc.toList.toArray.size<=sizeLine;simp only[Array.toArray_toList];rw[hacc.1];exact hn))
 refine wpAny_pure ?_
 have e:acc.toList.toArray=acc:=by simp
 rw[e]
 exact h h' tk acc hk hacc
theorem tuple_src {Q:Value->Shared->Prop}(K:KdlSrc prog w T r d n P OK) (hh:A.handled=none) (hok:OK s.heap) (hn:n<=sizeLine)
  (h:∀(h':Heap) tk acc,(∀b o,s.heap.get? b=some o->h'.get? b=some o)->ItemsOf P acc n->Q (.ref h'.objs.size) { s with heap:=h'.push { cls:=.type "tuple",data:=.seq acc },toks:=tk }) :
  wpAny (model prog w) A (call (.type "tuple") [.ref r]) Q E s:=by
 refine callType_codes (Q₁:=λobj s₁=>s₁.TypeIs obj "tuple" /\ Q obj s₁) F.called_tuple (F.typeCall_tuple_1 _) F.entry_object_init
  (code_tuple_src K hh hok hn λh' tk acc hk hacc=>⟨⟨_,Heap.get?_push_size _ rfl,rfl⟩,h h' tk acc hk hacc⟩) λobj s₁ h₁=>?_
 exact⟨h₁.1,F.args_object_init_2 obj _,object_init_meets F.called_tuple.init.lookup F.called_tuple.made (by decide) prog w A.in1 _ s₁ ⟨h₁.1,rfl,h₁.2⟩⟩
end
section
variable {X:Cx}
theorem call_tupleDT (hc:X.calm=true):CallR X (.type "tuple") (λxs H Q=>∃(d:Addr) (kvs:List (List Key×V)),xs=[.ref d]/\H d=some (.dT kvs) /\
  ∀(l:Addr) (bs:List Addr),H l=none->bs.length=kvs.length->(∀(i:Nat) b kv,bs[i]?=some b->kvs[i]?=some kv->H b=some (.tup (kv.1.map kV)))->Q (.ref l) (upd H l (.tup (bs.map V.ref)))):=by
 intro pins s σ H xs us Q I r h
 obtain⟨d,kvs,rfl,hd,q⟩:=h
 obtain⟨u,rfl,ru⟩:=vals1 r
 cases ru
 obtain⟨z,lo,ys,rel,o,tab,ep,ho,hx,hdat,ent,uni⟩:=(show ObjOk X.prog X.w H s.heap d (.dT kvs) from I.hok d _ hd)
 have hl:kvs.length=ys.length:=Paired.length rel
 have ht:tab.size=ys.length:=size_of_entries ent
 refine tuple_src (bare_src (tab:=tab) (ep:=ep) lo) (I.ok.hd hc) ⟨o,ho,hx,hdat⟩ (by lia) λh' tk acc kp hacc=>?_
 have at_:∀(i:Nat) p y,kvs[i]?=some p->ys[i]?=some y->H y.2.1=some (.tup (p.1.map kV)):=by
  have gen:∀{l:List (List Key×V)}{m:List (List Key×Addr×Value)},Paired (λ(p:List Key×V) (q:List Key×Addr×Value)=>p.1=q.1/\H q.2.1=some (.tup (p.1.map kV))/\RelV p.2 q.2.2) l m->∀(i:Nat) p y,l[i]?=some p->m[i]?=some y->H y.2.1=some (.tup (p.1.map kV)):=by
   intro l m pr
   induction pr with
   |nil=>intro i p y h1;simp at h1
   |cons a1 a2 ih=>
    intro i p y h1 h2
    cases i with
    |zero=>simp at h1 h2;subst h1;subst h2;exact a1.2.1
    |succ i=>exact ih i p y (by simpa using h1) (by simpa using h2)
  exact gen rel
 have hlb:(ys.map (·.2.1)).length=kvs.length:=by rw[List.length_map,hl]
 have I1:=I.kept (t':=tk) kp
 have hf:H h'.objs.size=none:=I1.hok.fresh (Nat.le_refl _)
 refine⟨.ref h'.objs.size,_,I1.laid (a:=h'.objs.size) (o:=.tup ((ys.map (·.2.1)).map V.ref)) (t':=tk) (λb o e=>Heap.get?_push_of_some _ e) (Nat.le_refl _) (show ObjOk X.prog X.w _ _ _ (.tup ((ys.map (·.2.1)).map V.ref)) from ⟨by rw[List.length_map,hlb];exact z,acc.toList,?_,by have:=IsTupX.new h' acc.toList.toArray;simpa using this⟩),rfl,q _ _ hf hlb λi b kv e1 e2=>?_⟩
 ·refine vals_of (by simp[hacc.1,ht]) λi x v h1 h2=>?_
  rw[List.getElem?_map,List.getElem?_map] at h1
  obtain⟨b,hb,rfl⟩:=Option.map_eq_some_iff.mp h1
  obtain⟨y,hy,rfl⟩:=Option.map_eq_some_iff.mp hb
  obtain⟨e,he,rfl⟩:=hacc.2 i v (by simpa using h2)
  rw[entry_at ent i,hy] at he
  have:=Option.some.inj he
  subst this
  rfl
 ·rw[List.getElem?_map] at e1
  obtain⟨y,hy,rfl⟩:=Option.map_eq_some_iff.mp e1
  exact at_ i kv y e2 hy
open Classical in
noncomputable def sameD (h:Heap) (d:PyData) (w:Value):Bool:=decide (∃(e:PyData) (bs:List Addr),Reads h w e bs/\e.canLay0=true/\PyData.eqv e d=true)
open Classical in
theorem sameD_is {h:Heap}{d d':PyData}{w:Value}{bs:List Addr}(rb:Reads h w d' bs) (c:d'.canLay0=true):sameD h d w=PyData.eqv d' d:=by
 unfold sameD
 cases hb:PyData.eqv d' d with
 |true=>exact decide_eq_true ⟨d',bs,rb,c,hb⟩
 |false=>
  refine decide_eq_false λ⟨e,bs',re,_,he⟩=>?_
  have:=SeqAt.Reads.unique d' e w bs bs' c rb re
  rw[<- this,hb] at he
  cases he
theorem inD_key {pins:List (Addr×Obj)}{s:Shared}{σ:St}{H:Hp}{v:Value}{d:PyData}{as:List Addr}(I:Inv X pins σ H s) (un:X.A.units+64<cLine) (ra:Reads s.heap v d as) (c1:d.canLay0=true) (dd:d.depth<=50) :
  ∀{xs:List V}{ds:List PyData}{us:List Value},DatasAt H xs ds->Vals xs us->PyData.canLayAll0 ds=true->(∀w∈us,SeqAt.EqAt X.A.in1 s w v (sameD s.heap d w))/\us.any (sameD s.heap d)=ds.any λe=>PyData.eqv e d
 |_,_,_,.nil,.nil,_=>⟨λw hw=>(nomatch hw),rfl⟩
 |_,d'::ds',u0::us0,.cons hx hxs,.cons r0 rs,h3=>by
  have h3':d'.canLay0=true/\PyData.canLayAll0 ds'=true:=by simpa [PyData.canLayAll0] using h3
  obtain⟨e1,e2⟩:=inD_key I un ra c1 dd hxs rs h3'.2
  obtain⟨bs,rb⟩:=hx.reads I.hok r0
  have eb:=sameD_is (d:=d) rb h3'.1
  refine⟨λw hw=>?_,?_⟩
  ·rcases List.mem_cons.mp hw with rfl|hw
   ·rw[eb]
    exact SeqAt.eqAt_reads d' d X.A.in1 s w v bs as rb ra h3'.1 c1 (by
     have:X.A.in1.units=X.A.units+1:=rfl
     lia)
   ·exact e1 w hw
  ·rw[List.any_cons,List.any_cons,eb,e2]
theorem op_inD {k:Nat}(hr:Room k X.A):OpR X (compareOp .In) (λx y H Q=>∃(p:Addr) (xs:List V) (ds:List PyData) (d:PyData),y=.ref p/\H p=some (.tup xs)/\DatasAt H xs ds/\DataAt H x d/\d.canLay0=true/\PyData.canLayAll0 ds=true/\d.depth<=50 /\
  Q (.bl (ds.any λe=>PyData.eqv e d)) H):=by
 intro pins s σ H x y v u Q I rx ry h
 obtain⟨p,xs,ds,d,rfl,hp,hds,hd,c1,c2,dd,q⟩:=h
 cases ry
 obtain⟨as,ra⟩:=hd.reads I.hok rx
 obtain⟨its,rv,pl,hz⟩:=I.tuple (SqT.of hp)
 have un:=hr.units
 obtain⟨k1,k2⟩:=inD_key (X:=X) I un ra c1 dd hds rv c2
 refine SeqAt.in_tupleAt (sameD s.heap d) pl (λw hw=>k1 w (by simpa using hw)) ⟨.bl _,H,I,rfl,?_⟩
 rw[show its.toArray.any (sameD s.heap d)=its.any (sameD s.heap d) by simp,k2]
 exact q
end
end L2
namespace L2
open PySem PySem.Spec PyProof.Rows
section
variable {X:Cx}
theorem ps_compG {i0:Nat}{x0:Str}{px0 spos:Pos}{nn:List Str}{tg:Expr}{ifs:List Expr}{pos:Pos}{elt iter:Expr}{scope:Scope}{wi:TI}{g:TG}{tt:TT}{te:TE}(T:Env->Sem Bool) (hc:X.calm=true) (hi:PI X tg iter wi)
  (hturn:∀it acc env,compTurn (.ListComp elt [⟨tg,iter,ifs,0⟩] scope pos) 0 it acc env=(standAt iter.pos >>= λ_=>pyNext it >>= λr=>match r with
   |none=>pure (.done .next)
   |some v=>letOwnedTupleGo tg it v >>= λ_=>assign tg env v >>= λ_=>T env >>= λok=>(if ok=true then (eval elt env >>= λx=>call (.builtin "list.append") [acc,x] >>= λ_=>pure ()) else pure ()) >>= λ_=>
     again (.compLoop (.ListComp elt [⟨tg,iter,ifs,0⟩] scope pos) 0 it acc env)))
  (hgt:∀cl C fp s₀ H₀,PG (compCxG X scope cl C nn fp s₀ H₀) tg g)
  (hloc2:∀y (os σ:St) H R,os.length=nn.length->g y (os++σ) H R->g y (os++σ) H λσ' H'=>(∃os':St,os'.length=nn.length/\σ'=os'++σ)/\R σ' H')
  (htt:∀cl C fp s₀ H₀ (pins:List (Addr×Obj)) (s:Shared) (σ:St) (H:Hp) (Q:Bool->Hp->Prop),Inv (compCxG X scope cl C nn fp s₀ H₀) pins σ H s->tt σ H Q->wpAny (model X.prog X.w) X.A (T (compEnvC scope cl C X.env)) (TP (compCxG X scope cl C nn fp s₀ H₀) pins σ Q) (λ_ _=>False) s)
  (he:∀cl C fp s₀ H₀,PE (compCxG X scope cl C nn fp s₀ H₀) elt te)
  (hkind:scope.kind=.function) (hcell:∀y∈scope.names,y.2≠.cell) (hnames:∀y∈scope.names,y.2=.local->scope.names.lookup y.1=some .local)
  (hloc:∀y∈X.N,scope.names.lookup y≠some .local) (hfr:∀p∈scope.names,p.2=.free->Vis X.env.scope p.1/\X.env.scope.names.lookup p.1≠some .local)
  (hs:∀x,foldedSetIterable iter X.env x=pure x) (hN0:X.N.Nodup) (hi0:X.N[i0]?=some x0) (hx0:X.env.scope.names.lookup x0=some .local) (hsw:swapsWith (.ListComp elt [⟨tg,iter,ifs,0⟩] scope pos) (some (.Name x0 px0)) spos.line X.env=pure true) :
  PS X (.Assign [.Name x0 px0] (.ListComp elt [⟨tg,iter,ifs,0⟩] scope pos) spos) (tAsg (tCompG nn.length wi g tt te) (gName i0)):=by
 intro pins s σ H EE I h
 rw[exec_Assign_Name_used _ _ _ _ hsw]
 refine wpAny_bind (wpAny_standAt (wpAny_bind ?_))
 show wpAny _ X.A (do let _ <- comprehension (.ListComp elt [⟨tg,iter,ifs,0⟩] scope pos) scope X.env _ (newList []) false (eval iter X.env) (some (assign (.Name x0 px0) X.env))) _ _ s
 obtain⟨cl,hclos,hcl1,hcl2⟩:=closureFor_some (scope:=scope) (env:=X.env) (λp hp hk=>by
  obtain⟨hv,hn⟩:=hfr p hp hk
  refine I.ok.has p.1 ?_
  rcases hv with z|z
  ·exact absurd z hn
  ·exact z)
 refine wpAny_bind (wpAny_mono (wpAny_comprehension_free (use:=some (assign (.Name x0 px0) X.env)) (Q:=λ_ s'=>SP X pins EE .next s') rfl hs hclos hkind hnames (thn (hi pins s σ H _ I h) λv s1 h1=>thn h1 λitv s2 h2=>?_)) (λ_ s' hq=>wpAny_pure (wpAny_pure hq)) λ_ _ e=>e)
 obtain⟨it,fp,tn,J,H2,rfl,I2,T',st2,f2,q⟩:=h2
 have hD:H2 s2.heap.objs.size=none:=I2.hok.fresh (Nat.le_refl _)
 obtain⟨W,⟨m0,w0⟩,turn⟩:=q _ hD
 refine wpAny_newObj_type (wpAny_newFunctionEnv hcell (by intro y hy;simp at hy) (λh₁ hns₁ hsb₁=>?_) hkind)
 dsimp only at hns₁ hsb₁ ⊢
 have I3:Inv X pins σ (upd H2 s2.heap.objs.size (.lst [])) { s2 with heap:=s2.heap.push { cls:=.type "list",dict:=none,data:=.seq ([]:List Value).toArray } }:=
  I2.laid (t':=s2.toks) (λb u e=>Heap.get?_push_of_some _ e) (Nat.le_refl _) ⟨Nat.zero_le _,[],0,.nil,Heap.get?_push_size _ rfl⟩
 have fpn:∀b∈fp,b≠s2.heap.objs.size:=λb hb=>by
  obtain⟨o,e,_⟩:=T'.obj 0 s2.heap st2 b hb
  exact Nat.ne_of_lt (Heap.lt_size e)
 have fplt:∀b∈fp,b<(s2.heap.push { cls:=.type "list",dict:=none,data:=.seq ([]:List Value).toArray }).objs.size:=λb hb=>by
  obtain⟨o,e,_⟩:=T'.obj 0 s2.heap st2 b hb
  rw[Heap.size_push];exact Nat.lt_succ_of_lt (Heap.lt_size e)
 have f3:∀b∈fp,FpOk X pins (upd H2 s2.heap.objs.size (.lst [])) b:=λb hb=>⟨by rw[upd_ne (fpn b hb)];exact (f2 b hb).1,(f2 b hb).2⟩
 generalize hg2:s2.heap.push { cls:=.type "list",dict:=none,data:=.seq ([]:List Value).toArray }=g2 at hns₁ hsb₁ I3 fplt ⊢
 have keep:∀b o,g2.get? b=some o->h₁.get? b=some o:=λb o e=>(hsb₁.2 b (Nat.ne_of_lt (Heap.lt_size e))).trans (Heap.get?_push_of_some _ e)
 have J0:=compG_start (nn:=nn) (tk:=s2.toks+([]:List (Str×Value)).length) I3 (C:=g2.objs.size) rfl keep hns₁ f3 fplt hkind hcell hloc hcl1 hcl2 hfr
 generalize hY:compCxG X scope cl g2.objs.size nn fp { s2 with heap:=g2 } (upd H2 s2.heap.objs.size (.lst []))=Y at J0
 have eY:PE Y elt te:=by rw[<- hY];exact he _ _ _ _ _
 have eG:PG Y tg g:=by rw[<- hY];exact hgt _ _ _ _ _
 have eT:∀(pins:List (Addr×Obj)) (s:Shared) (σ:St) (H:Hp) (Q:Bool->Hp->Prop),Inv Y pins σ H s->tt σ H Q->wpAny (model Y.prog Y.w) Y.A (T Y.env) (TP Y pins σ Q) Y.xe s:=by rw[<- hY];exact htt _ _ _ _ _
 have eP:Y.prog=X.prog:=by rw[<- hY];rfl
 have eW:Y.w=X.w:=by rw[<- hY];rfl
 have eK:Y.K=X.K:=by rw[<- hY];rfl
 have eA:Y.A=X.A:=by rw[<- hY];rfl
 have eC:Y.calm=true:=by rw[<- hY];exact hc
 have eE:Y.env=compEnvC scope cl g2.objs.size X.env:=by rw[<- hY];rfl
 have eX:Y.xe=λ_ _=>False:=by rw[<- hY];rfl
 have eN:Y.N=nn++X.N:=by rw[<- hY];rfl
 have eEx:Y.ex=fp:=by rw[<- hY];rfl
 have eFs:Y.fs=frs X.stack:=by rw[<- hY];rfl
 have ePn:Y.pn=[]:=by rw[<- hY];rfl
 have fpY:∀{H':Hp},(∀b∈fp,H' b=none)->∀b∈fp,FpOk Y [] H' b:=λhn b hb=>by
  have g:=f3 b hb
  refine⟨hn b hb,?_,?_,.inl (by rw[eEx];exact hb),?_,λp hp=>absurd hp (by rw[ePn];simp)⟩
  ·rw[eE];exact Nat.ne_of_lt (fplt b hb)
  ·rw[eFs]
   intro z
   rcases List.mem_cons.mp (I3.stkSub b z) with z|z
   ·exact g.2.1 z
   ·exact g.2.2.1 z
  ·rw[eE]
   exact λy c e=>g.2.2.2.2.1 y c (hcl1 y c e)
 have loop:∀s₃:Shared,s₃={ s2 with heap:=h₁,toks:=s2.toks+([]:List (Str×Value)).length } ->
   codeAny (model X.prog X.w) X.A (.compLoop (.ListComp elt [⟨tg,iter,ifs,0⟩] scope pos) 0 (.ref it) (.ref s2.heap.objs.size) (compEnvC scope cl g2.objs.size X.env))
    (compPost (model X.prog X.w) X.A X.xe (some (assign (.Name x0 px0) X.env)) (λ_ s'=>SP X pins EE .next s') (.ref s2.heap.objs.size) g2.objs.size) s₃:=by
  rintro s₃ rfl
  refine compLoopG (T (compEnvC scope cl g2.objs.size X.env)) (hturn _ _ _) (λn s'=>∃i xs H' os,os.length=nn.length/\Inv Y [] (os++σ) H' s'/\tn i s'.heap/\(∀b∈fp,H' b=none)/\W i n xs H') ?_ m0
   ⟨0,[],_,nn.map λ_=>none,by simp,J0,T'.keep 0 _ _ st2 (λb hb o e=>keep b o (by rw[<- hg2];exact Heap.get?_push_of_some _ e)),λb hb=>(f3 b hb).1,w0⟩
  rintro n s3 ⟨i,xs,H3,os,hos,I4,st3,fr3,w3⟩
  obtain⟨hDx,hlx,alt⟩:=turn i n xs H3 w3
  rcases alt with ⟨stop,qn⟩|⟨go,step⟩
  ·have D1:=T'.done Y eP eW eK eC i [] s3 _ H3 (λ_ _=>False) I4 (fpY fr3) st3 stop
   rw[eA] at D1
   refine thn D1 λr s4 ⟨hr,I5⟩=>?_
   subst hr
   obtain⟨m4,hns4,_⟩:=id I5.loc
   rw[eE] at hns4
   have hC0:H3 g2.objs.size=none:=by
    have:=I5.free
    rw[eE] at this
    exact this
   have fC:FpOk X pins H3 g2.objs.size:=I3.fpOk (Nat.le_refl _) hC0
   rw[<- hY] at I5
   have IX:Inv X pins σ H3 s4:=compG_end I3 rfl f3 I5 (Heap.SameBut.refl _ _)
   have hns4:s4.heap.Ns g2.objs.size m4:=hns4
   obtain⟨oC,esC,epC,hoC,rC⟩:=id hns4
   have IP:=IX.pinned (fp:=[g2.objs.size]) (λb hb=>by
    have:b=g2.objs.size:=by simpa using hb
    subst this
    exact fC) (λb hb=>by
    have:b=g2.objs.size:=by simpa using hb
    subst this
    exact⟨oC,hoC,λv z=>by rw[rC.1] at z;cases z⟩)
   show wpAny _ X.A (assign (.Name x0 px0) X.env (.ref s2.heap.objs.size)) _ _ s4
   refine wpAny_assign_Name (store_ok (v:=.ref s2.heap.objs.size) IP hN0 hi0 (.inl hx0) rfl (λs5 I6=>?_) (.inr hx0))
   have pC:=I6.pin (g2.objs.size,oC) (List.mem_append_right _ (List.mem_append_right _ (mem_pinsAt (by simp) hoC)))
   refine⟨m4,hns4.at' (λo e=>by rw[hoC] at e;cases e;exact pC.1),λh' sb=>⟨_,H3,?_,qn⟩⟩
   exact I6.unpinned.turned (t':=s5.toks) (λb o hb e=>(sb.2 b hb).trans e) fC.1 fC.2.1 fC.2.2.2.1 fC.2.2.2.2.1 fC.2.2.2.2.2
  ·have G1:=T'.item Y eP eW eK eC i [] s3 _ H3 (λ_ _=>False) I4 (fpY fr3) st3 go
   rw[eA] at G1
   refine thn G1 λr s4 ⟨u,hr,h4⟩=>?_
   subst hr
   refine thn h4 λ_ s5 ⟨y,H5,I5,r5,y5,st5,fr5⟩=>?_
   have I5':=I5.pinned (fpY fr5) (T'.obj _ _ st5)
   have S1:=eG _ s5 _ H5 y u _ I5' r5 (hloc2 y os σ H5 _ hos (step y _ y5 os hos))
   rw[eP,eW,eA,eE,eX] at S1
   refine thn S1 λ_ s6 ⟨σ6,H6,I6,⟨os6,hos6,e6⟩,q6⟩=>?_
   subst e6
   have S2:=eT _ s6 _ _ _ I6 q6
   rw[eP,eW,eA,eE,eX] at S2
   refine thn S2 λok s7 ⟨H7,I7,q7⟩=>?_
   have back:∀{s9:Shared}{H9:Hp}{m':Nat}{zs:List V},Inv Y ([]++pinsAt fp s5.heap) (os6++σ) H9 s9->m'<n->W (i+1) m' zs H9->∃m,m<n/\∃i xs H' os,os.length=nn.length/\Inv Y [] (os++σ) H' s9/\tn i s9.heap/\(∀b∈fp,H' b=none)/\W i m xs H':=λ{s9 H9 m' zs} I9 hm' w9=>by
    have pin:∀b∈fp,∀ob,s5.heap.get? b=some ob->s9.heap.get? b=some ob/\H9 b=none:=λb hb ob e=>by
     have z:=I9.pin (b,ob) (List.mem_append_right _ (List.mem_append_right _ (mem_pinsAt hb e)))
     exact⟨z.1,z.2.1⟩
    refine⟨m',hm',i+1,zs,H9,os6,hos6,I9.unpinned,T'.keep _ _ _ st5 (λb hb ob e=>(pin b hb ob e).1),λb hb=>?_,w9⟩
    obtain⟨ob,e,_⟩:=T'.obj _ _ st5 b hb
    exact (pin b hb ob e).2
   cases ok with
   |true=>
    rw[if_pos rfl] at q7
    rw[if_pos rfl]
    have S3:=eY _ s7 _ _ _ I7 q7
    rw[eP,eW,eA,eE,eX] at S3
    refine thn S3 λxv s8 ⟨v8,H8,I8,r8,hD8,m',hm',w8⟩=>?_
    have S4:=mt_append (X:=Y) _ s8 _ H8 (.ref s2.heap.objs.size) [v8] (.ref s2.heap.objs.size) [xv] (λ_ H9=>H9=upd H8 s2.heap.objs.size (.lst (xs++[v8]))) I8 rfl (.cons r8 .nil) ⟨_,xs,v8,rfl,rfl,hD8,hlx,rfl⟩
    rw[eP,eW,eA,eX] at S4
    refine thn S4 λ_ s9 ⟨v9,H9,I9,_,e9⟩=>?_
    subst e9
    exact back I9 hm' w8
   |false=>
    rw[if_neg Bool.false_ne_true] at q7
    rw[if_neg Bool.false_ne_true]
    obtain⟨m',hm',w8⟩:=q7
    exact back I7 hm' w8
 exact codeAny_compStart_list (loop _ rfl) (T'.self _ 0 _ _ _ (T'.keep 0 _ _ st2 (λb hb o e=>keep b o (by rw[<- hg2];exact Heap.get?_push_of_some _ e))) (loop _ rfl))
theorem ps_setC {i0:Nat}{x0:Str}{px0 spos:Pos}{x:Str}{px pos:Pos}{elt iter:Expr}{scope:Scope}{wi:TI}{te:TE}(N:List Str) (sc:Scope) (hNe:X.N=N) (hsc:X.env.scope=sc) (hc:X.calm=true) (hN:X.N.Nodup) (hi0:X.N[i0]?=some x0) (hx0:X.env.scope.names.lookup x0=some .local) (hi:PI X (.Name x px) iter wi)
  (he:∀cl C fp s₀ H₀,PE (compCxG X scope cl C [x] fp s₀ H₀) elt te)
  (hkind:scope.kind=.function:=by rfl) (hcell:scope.names.all (λy=>y.2 != .cell)=true:=by decide +kernel) (hnames:scope.names.all (λy=>y.2 != .local||scope.names.lookup y.1==some .local)=true:=by decide +kernel)
  (hx:scope.names.lookup x=some .local:=by rfl) (hloc:N.all (λy=>scope.names.lookup y != some .local)=true:=by decide +kernel)
  (hfr:scope.names.all (λp=>p.2 != .free||(sc.names.lookup p.1==some .cell||sc.names.lookup p.1==some .free))=true:=by decide +kernel)
  (hs:∀x,foldedSetIterable iter X.env x=pure x:=by intro _;rfl) (hsw:swapsWith (.ListComp elt [⟨.Name x px,iter,[],0⟩] scope pos) (some (.Name x0 px0)) spos.line X.env=pure true:=by rfl) :
  PS X (.Assign [.Name x0 px0] (.ListComp elt [⟨.Name x px,iter,[],0⟩] scope pos) spos) (tAsg (tCompG 1 wi (gName 0) ttYes te) (gName i0)):=by
 obtain⟨s1,s2,s3,s4⟩:=scopes_ok hNe hsc hcell hnames hloc hfr
 refine ps_compG (nn:=[x]) (λ_=>pure true) hc hi (λit acc env=>turn_no elt _ iter scope pos it acc env) (λcl C fp s₀ H₀=>?_) (λy os σ H R ho h=>loc1 ho h) (λcl C fp s₀ H₀ pins s σ H Q I h=>wpAny_pure ⟨H,I,h⟩) he hkind s1 s2 s3 s4 hs hN hi0 hx0 hsw
 have l:(compCxG X scope cl C [x] fp s₀ H₀).env.scope.names.lookup x=some .local:=lookup_relabel_local hx
 exact pg_name (i:=0) (List.nodup_cons.mpr ⟨λz=>s3 x z hx,hN⟩) rfl (.inl l) (.inr l)
end
end L2
namespace L2
open PySem
theorem beq_inst {α:Type}{i1 i2:BEq α}(h1:@LawfulBEq α i1) (h2:@LawfulBEq α i2):i1=i2:=by
 have:∀a b,@BEq.beq α i1 a b=@BEq.beq α i2 a b:=λa b=>by
  rw[Bool.eq_iff_iff,@beq_iff_eq α i1 h1,@beq_iff_eq α i2 h2]
 cases i1;cases i2
 congr 1
 funext a b
 exact this a b
structure PEb (X:Cx) (e:Expr) (t:TE):Prop where
 go:PE X e t
structure PSb (X:Cx) (st:Stmt) (t:TS):Prop where
 go:PS X st t
inductive StB (X:Cx):List Stmt->TS->Prop
 |one {st:Stmt}{t:TS}(h:PSb X st t):StB X [st] t
 |cons {st:Stmt}{rest:List Stmt}{t u:TS}(h:PSb X st t) (r:StB X rest u):StB X (st::rest) (tSeq t u)
theorem StB.go {X:Cx}:∀{l:List Stmt}{t:TS},StB X l t->PSs X l t
 |_,_,.one h=>pss_one h.go
 |_,_,.cons h r=>pss_cons h.go r.go
theorem seqE {X:Cx}{st:Stmt}{rest:List Stmt}{R:TS->Prop}(h:∃t,PSb X st t/\∃u,PSs X rest u/\R (tSeq t u)):∃t,PSs X (st::rest) t/\R t:=by
 obtain⟨t,h1,u,h2,h3⟩:=h
 exact⟨_,pss_cons h1.go h2,h3⟩
theorem lastE {X:Cx}{st:Stmt}{R:TS->Prop}(h:∃t,PSb X st t/\R t):∃t,PSs X [st] t/\R t:=by
 obtain⟨t,h1,h3⟩:=h
 exact⟨_,pss_one h1.go,h3⟩
inductive Ars2 (X:Cx):List Expr->TA->Prop
 |nil:Ars2 X [] tNil
 |cons {e:Expr}{es:List Expr}{te:TE}{t:TA}(h:PEb X e te) (r:Ars2 X es t) (hs:starEach (e::es) X.env=(false,eval e X.env)::starEach es X.env):Ars2 X (e::es) (tCons te t)
theorem Ars2.go {X:Cx}:∀{es:List Expr}{t:TA},Ars2 X es t->PA X es t
 |_,_,.nil=>pa_nil
 |_,_,.cons h r hs=>pa_cons h.go r.go hs
theorem pe_intb {X:Cx}{i:Int}{j:Nat}{pos:Pos}:PEb X (.Constant (.int i) j pos) (tC (.int i)):=⟨pe_int⟩
end L2
namespace Pr
open PySem L2 Qf
def PurseAt (H:Hp) (p:Addr):Prop:=∃a b:Int,H p=some (.lst [.int a,.int b])/\0<=a/\0<=b/\b<2^40
theorem PurseAt.same {H H':Hp}{p:Addr}(h:PurseAt H p) (s:Same H H'):PurseAt H' p:=by
 obtain⟨a,b,e,r⟩:=h
 exact⟨a,b,s _ _ e,r⟩
def RowsL (H:Hp) (p:Addr) (rows:List Row):Prop:=∃bs:List Addr,H p=some (.lst (bs.map V.ref))/\bs.length=rows.length/\∀(i:Nat) b r,bs[i]?=some b->rows[i]?=some r->H b=some (.tup (vN r))
theorem RowsL.same {H H':Hp}{p:Addr}{rows:List Row}(h:RowsL H p rows) (s:Same H H'):RowsL H' p rows:=by
 obtain⟨bs,h1,h2,h3⟩:=h
 exact⟨bs,s _ _ h1,h2,λi b r e1 e2=>s _ _ (h3 i b r e1 e2)⟩
def tabl {α κ:Type}(key:α->κ) (l:List α) (k:Nat):List (κ×V):=(l.zipIdx k).map λp=>(key p.1,V.int (p.2:Nat))
section
variable {α κ:Type}[DecidableEq α] [DecidableEq κ]{key:α->κ}
theorem tabl_len (l:List α) (k:Nat):(tabl key l k).length=l.length:=by simp[tabl]
theorem tabl_cons (a:α) (l:List α) (k:Nat):tabl key (a::l) k=(key a,V.int (k:Nat))::tabl key l (k+1):=by simp[tabl]
theorem tabl_snoc (l:List α) (a:α) (k:Nat):tabl key (l++[a]) k=tabl key l k++[(key a,V.int (k+l.length:Nat))]:=by simp[tabl,List.zipIdx_append]
theorem tabl_val (inj:∀a b,key a=key b->a=b) (a:α):∀(l:List α) (k:Nat),valV (tabl key l k) (key a)=if a∈l then some (.int (k+l.idxOf a:Nat)) else none
 |[],k=>by simp[tabl,valV]
 |b::l,k=>by
  rw[tabl_cons]
  by_cases h:b=a
  ·subst h
   rw[valV_pos rfl,if_pos List.mem_cons_self,List.idxOf_cons_self]
   rfl
  ·rw[valV_neg (λz=>h (inj _ _ z)),tabl_val inj a l (k+1)]
   by_cases hm:a∈l
   ·have e:(b::l).idxOf a=l.idxOf a+1:=by
     rw[List.idxOf_cons,beq_false_of_ne h]
     rfl
    rw[if_pos hm,if_pos (List.mem_cons_of_mem _ hm),e]
    congr 3
    lia
   ·rw[if_neg hm,if_neg (λz=>by rcases List.mem_cons.mp z with z|z;exact h z.symm;exact hm z)]
theorem tabl_put (inj:∀a b,key a=key b->a=b){l:List α}{a:α}{k:Nat}(h:a∉l):putK (tabl key l k) (key a) (.int (k+l.length:Nat))=tabl key (l++[a]) k:=by
 unfold putK
 rw[valV_any,tabl_val inj,if_neg h,if_neg (by decide),tabl_snoc]
end
theorem RowsL.but {H H':Hp}{p e:Addr}{rows:List Row}{o:HO}(h:RowsL H p rows) (b:But e H H') (hpe:p≠e) (he:H e=some o) (no:∀u,o≠.tup u):RowsL H' p rows:=by
 obtain⟨bs,h1,h2,h3⟩:=h
 exact⟨bs,b _ _ h1 hpe,h2,λi c r e1 e2=>b.tups he no _ _ (h3 i c r e1 e2)⟩
theorem datas_rows {H:Hp}:∀{bs:List Addr}{rows:List Row},bs.length=rows.length->(∀(i:Nat) b r,bs[i]?=some b->rows[i]?=some r->H b=some (.tup (vN r))) ->
  DatasAt H (bs.map V.ref) (rows.map λr=>dT (r.map λx:Nat=>(x:Int)))
 |[],[],_,_=>.nil
 |b::bs,r::rows,hl,h=>by
  refine .cons ?_ (datas_rows (by simpa using hl) λi c q e1 e2=>h (i+1) c q (by simpa using e1) (by simpa using e2))
  have h0:=h 0 b r rfl rfl
  rw[vN_int] at h0
  exact .tup h0 (DatasAt.ints _)
theorem rows_lay:∀rows:List Row,PyData.canLayAll0 (rows.map λr=>dT (r.map λx:Nat=>(x:Int)))=true
 |[]=>rfl
 |r::rows=>by
  rw[List.map_cons,PyData.canLayAll0,dT_lay,rows_lay rows];rfl
theorem ints_depth:∀ns:List Int,PyData.depthAll (ns.map PyData.int)=0
 |[]=>rfl
 |n::ns=>by rw[List.map_cons,PyData.depthAll,ints_depth ns];rfl
theorem rows_depth:∀rows:List Row,PyData.depthAll (rows.map λr=>dT (r.map λx:Nat=>(x:Int)))<=1
 |[]=>by decide
 |r::rows=>by
  have:=rows_depth rows
  have e:(dT (r.map λx:Nat=>(x:Int))).depth=1:=by
   show PyData.depthAll _+1=1
   rw[ints_depth]
  rw[List.map_cons,PyData.depthAll,e]
  lia
theorem ref_snoc (cs:List Addr) (t:Addr):cs.map V.ref++[.ref t]=(cs++[t]).map V.ref:=by rw[List.map_append];rfl
def dRows (rows:List Row):List PyData:=rows.map λr=>dT (r.map λx:Nat=>(x:Int))
theorem eqv_nil (m:List Row):PyData.eqv (.list (dRows m)) (.list [])=m.isEmpty:=by
 cases m with
 |nil=>rfl
 |cons a l=>simp[dRows,PyData.eqv,PyData.eqvAll]
theorem rowsL_data {H:Hp}{p:Addr}{rows:List Row}(h:RowsL H p rows):DataAt H (.ref p) (.list (dRows rows)):=by
 obtain⟨bs,hp,hl,hr⟩:=h
 exact .lst hp (datas_rows hl hr)
theorem rowsL_depth (rows:List Row):(PyData.list (dRows rows)).depth<=60:=by
 have:=rows_depth rows
 show PyData.depthAll _+1<=60
 unfold dRows
 lia
def tK (rows:List Row):List (List Key×V):=tabl keyN rows 2
theorem idx_inst {α:Type}{i1 i2:BEq α}(h1:@LawfulBEq α i1) (h2:@LawfulBEq α i2) (l:List α) (a:α):@List.idxOf α i1 a l=@List.idxOf α i2 a l:=by
 cases beq_inst h1 h2
 rfl
theorem tK_val (rows:List Row) (r:Row):valV (tK rows) (keyN r)=if r∈rows then some (.int (rows.idxOf r+2:Nat)) else none:=by
 unfold tK
 rw[tabl_val (λa b=>keyN_inj)]
 split
 ·rw[Nat.add_comm]
  exact congrArg (λn:Nat=>some (V.int ((n+2:Nat):Int))) (idx_inst (by infer_instance) (by infer_instance) _ _)
 ·rfl
end Pr
namespace Qf
inductive Tr
 |z|o|nd (a b c d:Tr)
deriving DecidableEq
namespace Tr
def kids:Tr->List Tr
 |nd a b c d=>[a,b,c,d]
 |_=>[]
def dep:Tr->Nat
 |nd a b c d=>1+mx [dep a,dep b,dep c,dep d]
 |_=>0
def Red:Tr->Prop
 |nd a b c d=>¬(a=z/\b=z/\c=z/\d=z)/\¬(a=o/\b=o/\c=o/\d=o)/\Red a/\Red b/\Red c/\Red d
 |_=>True
def post:Tr->List Tr->List Tr
 |nd a b c d,e=>if nd a b c d∈e then e else post d (post c (post b (post a e)))++[nd a b c d]
 |_,e=>e
def In (L:List Tr) (t:Tr):Prop:=t=z\/t=o\/t∈L
theorem In.app {L s:List Tr}{t:Tr}(h:In L t):In (L++s) t:=h.imp id λh=>h.imp id λh=>List.mem_append_left _ h
structure Ord (L:List Tr):Prop where
 nd:L.Nodup
 ch:∀(i:Nat) t,L[i]?=some t->(∃a b c d,t=.nd a b c d)/\∀s∈kids t,s=z\/s=o\/∃j:Nat,j<i/\L[j]?=some s
theorem ord_nil:Ord []:=⟨List.nodup_nil,λi t h=>by simp at h⟩
theorem post_ext:∀(t:Tr) (e:List Tr),∃s,post t e=e++s
 |z,e=>⟨[],by simp[post]⟩
 |o,e=>⟨[],by simp[post]⟩
 |nd a b c d,e=>by
  unfold post
  split
  ·exact⟨[],by simp⟩
  ·obtain⟨s1,h1⟩:=post_ext a e
   obtain⟨s2,h2⟩:=post_ext b (post a e)
   obtain⟨s3,h3⟩:=post_ext c (post b (post a e))
   obtain⟨s4,h4⟩:=post_ext d (post c (post b (post a e)))
   exact⟨s1++s2++s3++s4++[nd a b c d],by rw[h4,h3,h2,h1];simp⟩
theorem In.post {L:List Tr}{t:Tr}(s:Tr) (h:In L t):In (post s L) t:=by
 obtain⟨u,e⟩:=post_ext s L
 rw[e];exact h.app
theorem post_mem:∀(t:Tr) (e:List Tr) (s:Tr),s∈post t e->s∈e\/sizeOf s<=sizeOf t
 |z,e,s,h=>.inl h
 |o,e,s,h=>.inl h
 |nd a b c d,e,s,h=>by
  unfold post at h
  split at h
  ·exact .inl h
  ·have sz:sizeOf (nd a b c d)=1+sizeOf a+sizeOf b+sizeOf c+sizeOf d:=by simp
   rcases List.mem_append.mp h with h|h
   ·rcases post_mem d _ s h with h|h
    ·rcases post_mem c _ s h with h|h
     ·rcases post_mem b _ s h with h|h
      ·rcases post_mem a _ s h with h|h
       ·exact .inl h
       ·exact .inr (by lia)
      ·exact .inr (by lia)
     ·exact .inr (by lia)
    ·exact .inr (by lia)
   ·have:s=nd a b c d:=by simpa using h
    rw[this]
    exact .inr (Nat.le_refl _)
theorem not_below {a b c d:Tr}{e:List Tr}(h:nd a b c d∉e):nd a b c d∉post d (post c (post b (post a e))):=λh2=>by
 have sz:sizeOf (nd a b c d)=1+sizeOf a+sizeOf b+sizeOf c+sizeOf d:=by simp
 rcases post_mem d _ _ h2 with h2|h2
 ·rcases post_mem c _ _ h2 with h2|h2
  ·rcases post_mem b _ _ h2 with h2|h2
   ·rcases post_mem a _ _ h2 with h2|h2
    ·exact h h2
    ·lia
   ·lia
  ·lia
 ·lia
theorem post_ord:∀(t:Tr) (e:List Tr),Ord e->Ord (post t e)/\In (post t e) t
 |z,e,h=>⟨h,.inl rfl⟩
 |o,e,h=>⟨h,.inr (.inl rfl)⟩
 |nd a b c d,e,h=>by
  unfold post
  split
  ·rename_i hm
   exact⟨h,.inr (.inr hm)⟩
  ·rename_i hm
   obtain⟨o1,i1⟩:=post_ord a e h
   obtain⟨o2,i2⟩:=post_ord b _ o1
   obtain⟨o3,i3⟩:=post_ord c _ o2
   obtain⟨o4,i4⟩:=post_ord d _ o3
   have i1:=((i1.post b).post c).post d
   have i2:=(i2.post c).post d
   have i3:=i3.post d
   have nb:=not_below hm
   generalize post d (post c (post b (post a e)))=L at o4 i1 i2 i3 i4 nb
   refine⟨⟨?_,?_⟩,.inr (.inr (by simp))⟩
   ·rw[List.nodup_append]
    exact⟨o4.nd,by simp,λx hx y hy e=>nb (by
     have:y=nd a b c d:=by simpa using hy
     rw[<- this,<- e];exact hx)⟩
   ·intro i t ht
    by_cases hi:i<L.length
    ·rw[List.getElem?_append_left hi] at ht
     obtain⟨h1,h2⟩:=o4.ch i t ht
     refine⟨h1,λs hs=>(h2 s hs).imp id λh=>h.imp id λ⟨j,hj,e⟩=>⟨j,hj,?_⟩⟩
     rw[List.getElem?_append_left (by lia)];exact e
    ·have hlen:=(List.getElem?_eq_some_iff.mp ht).1
     rw[List.length_append] at hlen
     have hi2:i=L.length:=by simp at hlen;lia
     subst hi2
     have et:t=nd a b c d:=by simpa using ht.symm
     subst et
     refine⟨⟨a,b,c,d,rfl⟩,λs hs=>?_⟩
     have hin:In L s:=by
      have:s=a\/s=b\/s=c\/s=d:=by simpa [kids] using hs
      rcases this with rfl|rfl|rfl|rfl<;>assumption
     refine hin.imp id λh=>h.imp id λhm=>?_
     obtain⟨j,hj,e⟩:=List.mem_iff_getElem.mp hm
     exact⟨j,hj,by rw[List.getElem?_append_left hj,List.getElem?_eq_getElem hj,e]⟩
def name (L:List Tr):Tr->Nat
 |z=>0
 |o=>1
 |t=>L.idxOf t+2
def rowsOf (L:List Tr):List Row:=L.map λt=>(kids t).map (name L)
theorem name_nd (L:List Tr) (a b c d:Tr):name L (.nd a b c d)=L.idxOf (.nd a b c d)+2:=rfl
theorem name_at {L:List Tr}(h:Ord L){i:Nat}{t:Tr}(e:L[i]?=some t):name L t=i+2:=by
 obtain⟨⟨a,b,c,d,rfl⟩,_⟩:=h.ch i t e
 rw[name_nd]
 congr 1
 have hl:=(List.getElem?_eq_some_iff.mp e).1
 have he:=(List.getElem?_eq_some_iff.mp e).2
 rw[<- he]
 exact h.nd.idxOf_getElem i hl
theorem name_in {L:List Tr}(h:Ord L){t:Tr}(hi:In L t):(t=z/\name L t=0)\/(t=o/\name L t=1)\/∃i:Nat,L[i]?=some t/\name L t=i+2:=by
 rcases hi with rfl|rfl|hm
 ·exact .inl ⟨rfl,rfl⟩
 ·exact .inr (.inl ⟨rfl,rfl⟩)
 ·obtain⟨j,hj,e⟩:=List.mem_iff_getElem.mp hm
  have e':L[j]?=some t:=by rw[List.getElem?_eq_getElem hj,e]
  exact .inr (.inr ⟨j,e',name_at h e'⟩)
theorem name_inj {L:List Tr}(h:Ord L){s t:Tr}(hs:In L s) (ht:In L t) (e:name L s=name L t):s=t:=by
 rcases name_in h hs with ⟨rfl,e1⟩|⟨rfl,e1⟩|⟨i,e0,e1⟩
 ·rcases name_in h ht with ⟨rfl,e2⟩|⟨rfl,e2⟩|⟨j,e3,e2⟩
  ·rfl
  ·lia
  ·lia
 ·rcases name_in h ht with ⟨rfl,e2⟩|⟨rfl,e2⟩|⟨j,e3,e2⟩
  ·lia
  ·rfl
  ·lia
 ·rcases name_in h ht with ⟨rfl,e2⟩|⟨rfl,e2⟩|⟨j,e3,e2⟩
  ·lia
  ·lia
  ·have:i=j:=by lia
   subst this
   rw[e0] at e3
   exact Option.some.inj e3
theorem name_app {L s:List Tr}{t:Tr}(h:In L t) (hz:Ord L):name (L++s) t=name L t:=by
 rcases name_in hz h with ⟨rfl,_⟩|⟨rfl,_⟩|⟨i,e,_⟩
 ·rfl
 ·rfl
 ·obtain⟨⟨a,b,c,d,rfl⟩,_⟩:=hz.ch i t e
  rw[name_nd,name_nd,List.idxOf_append,if_pos (List.mem_of_getElem? e)]
theorem kid_in {L:List Tr}(h:Ord L){i:Nat}{t s:Tr}(e:L[i]?=some t) (hs:s∈kids t):In L s/\name L s<i+2:=by
 rcases (h.ch i t e).2 s hs with rfl|rfl|⟨j,hj,e2⟩
 ·exact⟨.inl rfl,by show 0<_;lia⟩
 ·exact⟨.inr (.inl rfl),by show 1<_;lia⟩
 ·exact⟨.inr (.inr (List.mem_of_getElem? e2)),by rw[name_at h e2];lia⟩
theorem rowsOf_len (L:List Tr):(rowsOf L).length=L.length:=by simp[rowsOf]
theorem rowsOf_at {L:List Tr}{i:Nat}{t:Tr}(e:L[i]?=some t):(rowsOf L)[i]?=some ((kids t).map (name L)):=by
 unfold rowsOf;rw[List.getElem?_map,e];rfl
theorem rowsOf_get {L:List Tr}{i:Nat}{r:Row}(e:(rowsOf L)[i]?=some r):∃t,L[i]?=some t/\r=(kids t).map (name L):=by
 unfold rowsOf at e
 rw[List.getElem?_map] at e
 obtain⟨t,h1,h2⟩:=Option.map_eq_some_iff.mp e
 exact⟨t,h1,h2.symm⟩
theorem rowsOf_ok {L:List Tr}(h:Ord L):RowsOk (rowsOf L):=λp r hp=>by
 obtain⟨t,ht,rfl⟩:=rowsOf_get hp
 obtain⟨⟨a,b,c,d,rfl⟩,_⟩:=h.ch p t ht
 refine⟨rfl,λx hx=>?_⟩
 obtain⟨s,hs,rfl⟩:=List.mem_map.mp hx
 exact (kid_in h ht hs).2
theorem map_name_inj {L:List Tr}(h:Ord L):∀{k l:List Tr},(∀s∈k,In L s)->(∀s∈l,In L s)->k.map (name L)=l.map (name L)->k=l
 |[],[],_,_,_=>rfl
 |[],_::_,_,_,e=>by simp at e
 |_::_,[],_,_,e=>by simp at e
 |a::k,b::l,h1,h2,e=>by
  simp only[List.map_cons,List.cons.injEq] at e
  rw[name_inj h (h1 a List.mem_cons_self) (h2 b List.mem_cons_self) e.1,map_name_inj h (λs hs=>h1 s (List.mem_cons_of_mem _ hs)) (λs hs=>h2 s (List.mem_cons_of_mem _ hs)) e.2]
theorem kids_inj {s t:Tr}(hs:∃a b c d,s=.nd a b c d) (ht:∃a b c d,t=.nd a b c d) (e:kids s=kids t):s=t:=by
 obtain⟨a,b,c,d,rfl⟩:=hs
 obtain⟨a',b',c',d',rfl⟩:=ht
 simpa [kids] using e
theorem rowsOf_nodup {L:List Tr}(h:Ord L):(rowsOf L).Nodup:=by
 rw[nd_iff]
 intro i j hij hj e
 rw[rowsOf_len] at hj
 have ei:L[i]?=some L[i]:=List.getElem?_eq_getElem (by lia)
 have ej:L[j]?=some L[j]:=List.getElem?_eq_getElem hj
 rw[rowsOf_at ei,rowsOf_at ej] at e
 have:=kids_inj (h.ch i _ ei).1 (h.ch j _ ej).1 (map_name_inj h (λs hs=>(kid_in h ei hs).1) (λs hs=>(kid_in h ej hs).1) (Option.some.inj e))
 have h2:=nd_iff.mp h.nd i j hij hj
 rw[ei,ej] at h2
 exact h2 (by rw[this])
end Tr
open Tr
def tr (rows:List Row):Nat->Nat->Tr
 |0,x=>if x=1 then .o else .z
 |d+1,x=>if x=0 then .z else if x=1 then .o else .nd (tr rows d ((rows.getD (x-2) []).getD 0 0)) (tr rows d ((rows.getD (x-2) []).getD 1 0)) (tr rows d ((rows.getD (x-2) []).getD 2 0)) (tr rows d ((rows.getD (x-2) []).getD 3 0))
theorem tr_zero (rows:List Row) (d:Nat):tr rows d 0=.z:=by cases d<;>rfl
theorem tr_one (rows:List Row) (d:Nat):tr rows d 1=.o:=by cases d<;>rfl
theorem four_of {r:Row}(h:r.length=4):∃a b c d,r=[a,b,c,d]:=by
 match r,h with
 |[a,b,c,d],_=>exact⟨a,b,c,d,rfl⟩
theorem tr_row {rows:List Row}{d p a b c e:Nat}(hp:rows[p]?=some [a,b,c,e]):tr rows (d+1) (p+2)=.nd (tr rows d a) (tr rows d b) (tr rows d c) (tr rows d e):=by
 have:rows.getD p []=[a,b,c,e]:=by rw[List.getD_eq_getElem?_getD,hp];rfl
 show (if p+2=0 then _ else if p+2=1 then _ else _)=_
 rw[if_neg (by lia),if_neg (by lia),show p+2-2=p by lia,this]
 rfl
theorem row_at {rows:List Row}(ok:RowsOk rows){x:Nat}(hx:x<rows.length+2) (h:¬x<2):∃p a b c d,x=p+2/\rows[p]?=some [a,b,c,d]:=by
 have hp:x-2<rows.length:=by lia
 have hg:rows[x-2]?=some rows[x-2]:=List.getElem?_eq_getElem hp
 obtain⟨a,b,c,d,e⟩:=four_of (ok _ _ hg).1
 exact⟨x-2,a,b,c,d,by lia,by rw[hg,e]⟩
theorem tr_stable {rows:List Row}(ok:RowsOk rows):∀(d d' x:Nat),dp rows x<=d->dp rows x<=d'->x<rows.length+2->tr rows d x=tr rows d' x:=by
 intro d
 induction d with
 |zero=>
  intro d' x h1 h2 hx
  have x2:=dp_pos ok hx h1
  match x,x2 with
  |0,_=>rw[tr_zero,tr_zero]
  |1,_=>rw[tr_one,tr_one]
 |succ d ih=>
  intro d' x h1 h2 hx
  by_cases x2:x<2
  ·match x,x2 with
   |0,_=>rw[tr_zero,tr_zero]
   |1,_=>rw[tr_one,tr_one]
  ·obtain⟨p,a,b,c,e,rfl,hp⟩:=row_at ok hx x2
   match d',h2 with
   |0,h2=>exact absurd (dp_pos ok hx h2) x2
   |d'+1,h2=>
    have q:=λy (hy:y∈[a,b,c,e])=>dp_quarter ok hp h1 hy
    have q':=λy (hy:y∈[a,b,c,e])=>dp_quarter ok hp h2 hy
    rw[tr_row hp,tr_row hp,ih d' a (q a (by simp)).2 (q' a (by simp)).2 (q a (by simp)).1,ih d' b (q b (by simp)).2 (q' b (by simp)).2 (q b (by simp)).1,ih d' c (q c (by simp)).2 (q' c (by simp)).2 (q c (by simp)).1,ih d' e (q e (by simp)).2 (q' e (by simp)).2 (q e (by simp)).1]
def T (rows:List Row) (x:Nat):Tr:=tr rows (dp rows x) x
theorem T_zero (rows:List Row):T rows 0=.z:=tr_zero _ _
theorem T_one (rows:List Row):T rows 1=.o:=tr_one _ _
theorem T_row {rows:List Row}(ok:RowsOk rows){p a b c e:Nat}(hp:rows[p]?=some [a,b,c,e]):T rows (p+2)=.nd (T rows a) (T rows b) (T rows c) (T rows e):=by
 have hpl:=(List.getElem?_eq_some_iff.mp hp).1
 obtain⟨d,hd⟩:∃d,dp rows (p+2)=d+1:=⟨_,by rw[dp_at ok hp];exact Nat.add_comm _ _⟩
 have q:=λy (hy:y∈[a,b,c,e])=>dp_quarter ok hp (Nat.le_of_eq hd) hy
 unfold T
 rw[hd,tr_row hp,tr_stable ok d _ a (q a (by simp)).2 (Nat.le_refl _) (q a (by simp)).1,tr_stable ok d _ b (q b (by simp)).2 (Nat.le_refl _) (q b (by simp)).1,tr_stable ok d _ c (q c (by simp)).2 (Nat.le_refl _) (q c (by simp)).1,tr_stable ok d _ e (q e (by simp)).2 (Nat.le_refl _) (q e (by simp)).1]
theorem T_inj {rows:List Row}(ok:RowsOk rows) (nd:rows.Nodup):∀(d x y:Nat),dp rows x<=d->x<rows.length+2->y<rows.length+2->T rows x=T rows y->x=y:=by
 intro d
 have low:∀x y,x<2->y<rows.length+2->T rows x=T rows y->x=y:=λx y x2 hy e=>by
  by_cases y2:y<2
  ·match x,y,x2,y2 with
   |0,0,_,_=>rfl
   |1,1,_,_=>rfl
   |0,1,_,_=>rw[T_zero,T_one] at e;cases e
   |1,0,_,_=>rw[T_zero,T_one] at e;cases e
  ·obtain⟨p,a,b,c,f,rfl,hp⟩:=row_at ok hy y2
   rw[T_row ok hp] at e
   match x,x2 with
   |0,_=>rw[T_zero] at e;cases e
   |1,_=>rw[T_one] at e;cases e
 induction d with
 |zero=>exact λx y h hx hy e=>low x y (dp_pos ok hx h) hy e
 |succ d ih=>
  intro x y h hx hy e
  by_cases x2:x<2
  ·exact low x y x2 hy e
  ·by_cases y2:y<2
   ·exact (low y x y2 hx e.symm).symm
   ·obtain⟨p,a,b,c,f,rfl,hp⟩:=row_at ok hx x2
    obtain⟨p',a',b',c',f',rfl,hp'⟩:=row_at ok hy y2
    rw[T_row ok hp,T_row ok hp'] at e
    have q:=λy (hy:y∈[a,b,c,f])=>dp_quarter ok hp h hy
    have q':∀y∈[a',b',c',f'],y<rows.length+2:=λy hy=>by
     have:=(ok _ _ hp').2 y hy
     have:=(List.getElem?_eq_some_iff.mp hp').1
     lia
    injection e with e1 e2 e3 e4
    have h1:=ih a a' (q a (by simp)).2 (q a (by simp)).1 (q' a' (by simp)) e1
    have h2:=ih b b' (q b (by simp)).2 (q b (by simp)).1 (q' b' (by simp)) e2
    have h3:=ih c c' (q c (by simp)).2 (q c (by simp)).1 (q' c' (by simp)) e3
    have h4:=ih f f' (q f (by simp)).2 (q f (by simp)).1 (q' f' (by simp)) e4
    subst h1 h2 h3 h4
    have:p=p':=by
     rcases Nat.lt_trichotomy p p' with z|z|z
     ·exact absurd (hp.trans hp'.symm) (nd_iff.mp nd p p' z (List.getElem?_eq_some_iff.mp hp').1)
     ·exact z
     ·exact absurd (hp'.trans hp.symm) (nd_iff.mp nd p' p z (List.getElem?_eq_some_iff.mp hp).1)
    rw[this]
def tau (rows:List Row) (p:Nat):Tr:=T rows (p+2)
theorem tau_mem {rows:List Row}(ok:RowsOk rows) (nd:rows.Nodup){e:List Nat}(pe:Post rows e){p:Nat}(hp:p<rows.length):tau rows p∈e.map (tau rows)<->p∈e:=by
 constructor
 ·intro h
  obtain⟨q,hq,e2⟩:=List.mem_map.mp h
  have:=T_inj ok nd _ (q+2) (p+2) (Nat.le_refl _) (by have:=pe.lt q hq;lia) (by lia) e2
  have:q=p:=by lia
  rw[<- this];exact hq
 ·exact λh=>List.mem_map.mpr ⟨p,h,rfl⟩
theorem dfs_tree {rows:List Row}(ok:RowsOk rows) (nd:rows.Nodup):∀(d:Nat) (e:List Nat) (x:Nat),Post rows e->x<rows.length+2->dp rows x<=d->(dfs rows d e x).map (tau rows)=post (T rows x) (e.map (tau rows)):=by
 intro d
 induction d with
 |zero=>
  intro e x pe hx hd
  have x2:=dp_pos ok hx hd
  match x,x2 with
  |0,_=>rw[T_zero];rfl
  |1,_=>rw[T_one];rfl
 |succ d ih=>
  intro e x pe hx hd
  by_cases x2:x<2
  ·have:dfs rows (d+1) e x=e:=by
    show (if x<2\/x-2∈e then e else _)=e
    rw[if_pos (.inl x2)]
   rw[this]
   match x,x2 with
   |0,_=>rw[T_zero];rfl
   |1,_=>rw[T_one];rfl
  ·obtain⟨p,a,b,c,f,rfl,hp⟩:=row_at ok hx x2
   have hpl:=(List.getElem?_eq_some_iff.mp hp).1
   have hm:=tau_mem ok nd pe hpl
   have hg:rows.getD p []=[a,b,c,f]:=by rw[List.getD_eq_getElem?_getD,hp];rfl
   have et:tau rows p=.nd (T rows a) (T rows b) (T rows c) (T rows f):=T_row ok hp
   rw[T_row ok hp]
   show (if p+2<2\/p+2-2∈e then e else (rows.getD (p+2-2) []).foldl (dfs rows d) e++[p+2-2]).map (tau rows)=(if _∈e.map (tau rows) then _ else _)
   rw[show p+2-2=p by lia,<- et,hg]
   by_cases hpe:p∈e
   ·rw[if_pos (.inr hpe),if_pos (hm.mpr hpe)]
   ·rw[if_neg (by rintro (z|z);lia;exact hpe z),if_neg (λz=>hpe (hm.mp z))]
    have q:=λy (hy:y∈[a,b,c,f])=>dp_quarter ok hp hd hy
    obtain⟨qa,qa'⟩:=q a (by simp)
    obtain⟨qb,qb'⟩:=q b (by simp)
    obtain⟨qc,qc'⟩:=q c (by simp)
    obtain⟨qf,qf'⟩:=q f (by simp)
    have p1:=(dfs_post ok d e a pe qa qa').1
    have p2:=(dfs_post ok d _ b p1 qb qb').1
    have p3:=(dfs_post ok d _ c p2 qc qc').1
    show (dfs rows d (dfs rows d (dfs rows d (dfs rows d e a) b) c) f++[p]).map (tau rows)=_
    rw[List.map_append,ih _ f p3 qf qf',ih _ c p2 qc qc',ih _ b p1 qb qb',ih _ a pe qa qa',et]
    show _++[tau rows p]=_
    rw[et]
theorem canon_rows {n top:Nat}{rows:List Row}(c:Canon n top rows):rows=rowsOf (post (T rows top) [])/\top=name (post (T rows top) []) (T rows top):=by
 have h:=dfs_tree c.rok c.unlike n [] top (post_nil rows) c.inn c.deep
 rw[c.ends] at h
 have hord:Ord (post (T rows top) [])/\In (post (T rows top) []) (T rows top):=post_ord _ _ ord_nil
 have hpost:post (T rows top) []=(List.range rows.length).map (tau rows):=h.symm
 obtain⟨ho,hi⟩:=hord
 generalize post (T rows top) []=L at ho hi hpost
 have lat:∀p,p<rows.length->L[p]?=some (tau rows p):=λp hp=>by
  rw[hpost,List.getElem?_map,List.getElem?_range hp];rfl
 have hL:L.length=rows.length:=by rw[hpost];simp
 have nmq:∀q,q<rows.length+2->name L (T rows q)=q:=λq hq=>by
  by_cases q2:q<2
  ·match q,q2 with
   |0,_=>rw[T_zero];rfl
   |1,_=>rw[T_one];rfl
  ·have:=name_at ho (lat (q-2) (by lia))
   unfold tau at this
   rw[show q-2+2=q by lia] at this
   exact this
 refine⟨?_,(nmq top c.inn).symm⟩
 refine List.ext_getElem? λp=>?_
 by_cases hp:p<rows.length
 ·have hg:rows[p]?=some rows[p]:=List.getElem?_eq_getElem hp
  obtain⟨a,b,e,f,er⟩:=four_of (c.rok p _ hg).1
  rw[er] at hg
  rw[hg,rowsOf_at (lat p hp)]
  have et:tau rows p=.nd (T rows a) (T rows b) (T rows e) (T rows f):=T_row c.rok hg
  have lt:∀y∈[a,b,e,f],y<rows.length+2:=λy hy=>by
   have:=(c.rok _ _ hg).2 y hy
   lia
  rw[et]
  show some [a,b,e,f]=some [name L (T rows a),name L (T rows b),name L (T rows e),name L (T rows f)]
  rw[nmq a (lt a (by simp)),nmq b (lt b (by simp)),nmq e (lt e (by simp)),nmq f (lt f (by simp))]
 ·rw[List.getElem?_eq_none (by lia),List.getElem?_eq_none (by rw[rowsOf_len];lia)]
theorem dp_name {L:List Tr}(h:Ord L):∀t:Tr,In L t->dp (rowsOf L) (name L t)=dep t
 |.z,_=>dp_low (by decide:(0:Nat)<2)
 |.o,_=>dp_low (by decide:(1:Nat)<2)
 |.nd a b c d,hi=>by
  rcases name_in h hi with ⟨e,_⟩|⟨e,_⟩|⟨i,e,e2⟩
  ·cases e
  ·cases e
  ·have hk:=λs (hs:s∈kids (.nd a b c d))=>(kid_in h e hs).1
   rw[e2,dp_at (rowsOf_ok h) (rowsOf_at e)]
   show 1+mx [_,_,_,_]=1+mx [dep a,dep b,dep c,dep d]
   rw[dp_name h a (hk a (by simp[kids])),dp_name h b (hk b (by simp[kids])),dp_name h c (hk c (by simp[kids])),dp_name h d (hk d (by simp[kids]))]
theorem T_name {L:List Tr}(h:Ord L):∀t:Tr,In L t->T (rowsOf L) (name L t)=t
 |.z,_=>T_zero _
 |.o,_=>T_one _
 |.nd a b c d,hi=>by
  rcases name_in h hi with ⟨e,_⟩|⟨e,_⟩|⟨i,e,e2⟩
  ·cases e
  ·cases e
  ·have hk:=λs (hs:s∈kids (.nd a b c d))=>(kid_in h e hs).1
   rw[e2,T_row (rowsOf_ok h) (rowsOf_at e),T_name h a (hk a (by simp[kids])),T_name h b (hk b (by simp[kids])),T_name h c (hk c (by simp[kids])),T_name h d (hk d (by simp[kids]))]
def AllRed (L:List Tr):Prop:=∀t∈L,Red t
theorem post_red:∀(t:Tr) (e:List Tr),Red t->AllRed e->AllRed (post t e)
 |.z,_,_,h=>h
 |.o,_,_,h=>h
 |.nd a b c d,e,hr,h=>by
  unfold post
  split
  ·exact h
  ·have h4:=post_red d _ hr.2.2.2.2.2 (post_red c _ hr.2.2.2.2.1 (post_red b _ hr.2.2.2.1 (post_red a e hr.2.2.1 h)))
   intro s hs
   rcases List.mem_append.mp hs with hs|hs
   ·exact h4 s hs
   ·have:s=.nd a b c d:=by simpa using hs
    rw[this];exact hr
theorem name_zero {L:List Tr}{t:Tr}(h:name L t=0):t=.z:=by
 cases t with
 |z=>rfl
 |o=>cases h
 |nd a b c d=>rw[name_nd] at h;lia
theorem name_one {L:List Tr}{t:Tr}(h:name L t=1):t=.o:=by
 cases t with
 |z=>cases h
 |o=>rfl
 |nd a b c d=>rw[name_nd] at h;lia
theorem rowsOf_unplain {L:List Tr}(h:Ord L) (hr:AllRed L):∀r∈rowsOf L,¬Plain r:=λr hm=>by
 obtain⟨i,hi,e⟩:=List.mem_iff_getElem.mp hm
 obtain⟨t,ht,rfl⟩:=rowsOf_get (i:=i) (r:=r) (by rw[List.getElem?_eq_getElem hi,e])
 obtain⟨⟨a,b,c,d,rfl⟩,_⟩:=h.ch i t ht
 have rd:=hr _ (List.mem_of_getElem? ht)
 rintro (z|z)
 ·have z':[name L a,name L b,name L c,name L d]=[0,0,0,0]:=z
  simp only[List.cons.injEq,and_true] at z'
  exact rd.1 ⟨name_zero z'.1,name_zero z'.2.1,name_zero z'.2.2.1,name_zero z'.2.2.2⟩
 ·have z':[name L a,name L b,name L c,name L d]=[1,1,1,1]:=z
  simp only[List.cons.injEq,and_true] at z'
  exact rd.2.1 ⟨name_one z'.1,name_one z'.2.1,name_one z'.2.2.1,name_one z'.2.2.2⟩
theorem canon_tree {n:Nat}(hn:n<=12){t:Tr}(hr:Red t) (hd:dep t<=n):Canon n (name (post t []) t) (rowsOf (post t [])):=by
 obtain⟨ho,hi⟩:=post_ord t [] ord_nil
 have hred:=post_red t [] hr (λs hs=>nomatch hs)
 have hT:=T_name ho t hi
 have hdp:=dp_name ho t hi
 have hpost:post t []=post t []:=rfl
 generalize hL:post t []=L at ho hi hred hT hdp
 have ok:=rowsOf_ok ho
 have ndr:=rowsOf_nodup ho
 have hin:name L t<(rowsOf L).length+2:=by
  rw[rowsOf_len]
  rcases name_in ho hi with ⟨_,e⟩|⟨_,e⟩|⟨i,e,e2⟩
  ·lia
  ·lia
  ·have:=(List.getElem?_eq_some_iff.mp e).1
   lia
 refine⟨hn,ok,hin,by rw[hdp];exact hd,rowsOf_unplain ho hred,ndr,?_⟩
 have hdt:=dfs_tree ok ndr n [] (name L t) (post_nil _) hin (by rw[hdp];exact hd)
 rw[hT] at hdt
 have e2:(dfs (rowsOf L) n [] (name L t)).map (tau (rowsOf L))=L:=by rw[hdt];exact hL
 have pe:=(dfs_post ok n [] (name L t) (post_nil _) hin (by rw[hdp];exact hd)).1
 generalize dfs (rowsOf L) n [] (name L t)=E at e2 pe
 have hE:E.length=L.length:=by rw[<- e2];simp
 refine List.ext_getElem? λi=>?_
 by_cases hi2:i<E.length
 ·have hg:E[i]?=some E[i]:=List.getElem?_eq_getElem hi2
  have hlt:=pe.lt E[i] (List.getElem_mem hi2)
  rw[rowsOf_len] at hlt
  have e3:L[i]?=some (tau (rowsOf L) E[i]):=by
   conv=>lhs;rw[<- e2]
   rw[List.getElem?_map,hg];rfl
  have e4:tau (rowsOf L) E[i]=L[E[i]]:=by
   have ea:L[E[i]]?=some L[E[i]]:=List.getElem?_eq_getElem hlt
   have:=T_name ho L[E[i]] (.inr (.inr (List.getElem_mem hlt)))
   rw[name_at ho ea] at this
   exact this
  rw[e4] at e3
  have:E[i]=i:=by
   rcases Nat.lt_trichotomy E[i] i with z|z|z
   ·exact absurd (by rw[e3];exact List.getElem?_eq_getElem hlt) (nd_iff.mp ho.nd E[i] i z (by lia))
   ·exact z
   ·exact absurd (by rw[e3];exact (List.getElem?_eq_getElem hlt).symm) (nd_iff.mp ho.nd i E[i] z hlt)
  rw[hg,this,List.getElem?_range (by rw[rowsOf_len];lia)]
 ·rw[List.getElem?_eq_none (by lia),List.getElem?_eq_none (by rw[List.length_range,rowsOf_len];lia)]
end Qf
namespace L2
open PySem
theorem compG_rng {H:Hp}{n k:Nat}{g:TG}{tt:TT}{te:TE}{σ:St}{Fin:Hp->Prop}{D:Addr}(Iv:Nat->List V->Hp->Prop) (hsz:n<sizeLine) (i0:Iv 0 [] (upd H D (.lst []))) (hD:∀i xs H2,Iv i xs H2->H2 D=some (.lst xs)/\xs.length<=i)
  (step:∀i xs H2,i<n->Iv i xs H2->∀os:St,os.length=k->∀(Q1:Hp->Prop) (Q2:VK),(∀H3,Iv (i+1) xs H3->Q1 H3)->(∀v H3,H3 D=some (.lst xs)->Iv (i+1) (xs++[v]) (upd H3 D (.lst (xs++[v])))->Q2 v H3) ->
   g (.int (0+(i:Int))) (os++σ) H2 λσ4 H4=>tt σ4 H4 λb H5=>if b=true then te σ4 H5 Q2 else Q1 H5)
  (fin:∀xs H2,Iv n xs H2->Fin H2) :
  ∃W:Nat->Nat->List V->Hp->Prop,(∃m,W 0 m [] (upd H D (.lst []))) /\
   ∀i m xs H2,W i m xs H2->H2 D=some (.lst xs)/\xs.length<sizeLine/\(((Itr 0 n).stop i H2/\Fin H2)\/((Itr 0 n).go i H2/\∀y H3,(Itr 0 n).yld i H2 y H3->∀os:St,os.length=k ->
    g y (os++σ) H3 λσ4 H4=>tt σ4 H4 λb H5=>if b=true then te σ4 H5 λv H6=>H6 D=some (.lst xs)/\∃m',m'<m/\W (i+1) m' (xs++[v]) (upd H6 D (.lst (xs++[v]))) else ∃m',m'<m/\W (i+1) m' xs H5)):=by
 refine⟨λi m xs H2=>i<=n/\m=n-i/\Iv i xs H2,⟨n,Nat.zero_le _,rfl,i0⟩,?_⟩
 rintro i m xs H2 ⟨hi,rfl,iv⟩
 obtain⟨h1,h2⟩:=hD i xs H2 iv
 refine⟨h1,by lia,?_⟩
 by_cases he:i=n
 ·subst he
  exact .inl ⟨Nat.le_refl i,fin xs H2 iv⟩
 ·refine .inr ⟨show i<n by lia,λy H3 hy os ho=>?_⟩
  obtain⟨e1,e2⟩:=hy
  rw[e1,e2]
  exact step i xs H2 (by lia) iv os ho _ _ (λH5 h=>⟨n-(i+1),by lia,by lia,rfl,h⟩) λv H6 h1 h2=>⟨h1,n-(i+1),by lia,by lia,rfl,h2⟩
theorem comp_rng {H:Hp}{n:Nat}{te:TE}{σ:St}{Fin:Hp->Prop}{D:Addr}(Iv:Nat->List V->Hp->Prop) (hsz:n<sizeLine) (i0:Iv 0 [] (upd H D (.lst []))) (hD:∀i xs H2,Iv i xs H2->H2 D=some (.lst xs)/\xs.length<=i)
  (step:∀i xs H2,i<n->Iv i xs H2->∀Q2:VK,(∀v H3,H3 D=some (.lst xs)->Iv (i+1) (xs++[v]) (upd H3 D (.lst (xs++[v])))->Q2 v H3)->te (some (.int (0+(i:Int)))::σ) H2 Q2)
  (fin:∀xs H2,Iv n xs H2->Fin H2) :
  ∃W:Nat->Nat->List V->Hp->Prop,(∃m,W 0 m [] (upd H D (.lst []))) /\
   ∀i m xs H2,W i m xs H2->H2 D=some (.lst xs)/\xs.length<sizeLine/\(((Itr 0 n).stop i H2/\Fin H2)\/((Itr 0 n).go i H2/\∀y H3,(Itr 0 n).yld i H2 y H3 ->
    te (some y::σ) H3 λv H4=>H4 D=some (.lst xs)/\∃m',m'<m/\W (i+1) m' (xs++[v]) (upd H4 D (.lst (xs++[v]))))):=by
 refine⟨λi m xs H2=>i<=n/\m=n-i/\Iv i xs H2,⟨n,Nat.zero_le _,rfl,i0⟩,?_⟩
 rintro i m xs H2 ⟨hi,rfl,iv⟩
 obtain⟨h1,h2⟩:=hD i xs H2 iv
 refine⟨h1,by lia,?_⟩
 by_cases he:i=n
 ·subst he
  exact .inl ⟨Nat.le_refl i,fin xs H2 iv⟩
 ·refine .inr ⟨show i<n by lia,λy H3 hy=>?_⟩
  obtain⟨e1,e2⟩:=hy
  rw[e1,e2]
  exact step i xs H2 (by lia) iv _ λv H6 h1 h2=>⟨h1,n-(i+1),by lia,by lia,rfl,h2⟩
end L2
namespace Pr
open PySem L2 Qf
structure Blt2 (mg:Str->Option Value):Prop where
 abs:mg "abs" = none
 repr:mg "repr" = none
 str:mg "str" = none
section
variable {P:Program}{w:World}{K:PySem.W.Frag}{mg:Str->Option Value}{base:Heap}
theorem scDigit:FnScope ["_law_pot_here", "_law_many", "_law_digit_here"] ["_law_pot_here", "_law_many"] (defScope lDigit):=⟨rfl,rfl,rfl,by decide +kernel,rfl,by decide +kernel,by decide +kernel⟩
def spDigit:Sp:=λvs H Q _=>∃(p:Addr) (n:Nat),vs=[.ref p,.int (n:Nat)]/\PurseAt H p/\0<n/\n<1000000/\∀(d:Nat) (H':Hp),d<n->But p H H'->PurseAt H' p->Q (.int (d:Nat)) H'
theorem ok_digit {f:Addr}{fd:FuncData}(F:Fun K "_law_digit" "_law_digit" lDigit f fd):FnOk P w K mg base CX0 1 f fd ["_law_pot_here", "_law_many"] spDigit:=by
 refine F.ok scDigit (λvs H Q E h=>?_) (λcdv A outer s H vs Q E hr h=>?_)
 ·obtain⟨p,n,rfl,_⟩:=h
  rfl
 ·obtain⟨p,n,rfl,⟨a,b,hp,ha,hb,hb2⟩,hn,hn2,q⟩:=h
  refine⟨_,pss_cons (ps_if (pt_cmpR op_gt (pe_ix ix_list (pv 0) pe_int (λ_ _=>rfl)) pe_int (nomark _))
    (pss_cons (ps_set (i:=2) scDigit.nd rfl (Or.inl rfl) (pe_op op_mod (pe_ix ix_list (pv 0) pe_int (λ_ _=>rfl)) (pv 1)))
    (pss_cons (ps_asg (pe_op op_fdiv (pe_ix ix_list (pv 0) pe_int (λ_ _=>rfl)) (pv 1)) (pg_sub (pv 0) pe_int set_list))
    (pss_one (ps_ret (pv 2))))) pss_nil)
   (pss_cons (ps_asg (pe_op op_mod (pe_op op_add (pe_op op_mul (pe_ix ix_list (pv 0) pe_int (λ_ _=>rfl)) pe_int) pe_int) pe_int) (pg_sub (pv 0) pe_int set_list))
   (pss_one (ps_ret (pe_op op_mod (pe_op op_fdiv (pe_ix ix_list (pv 0) pe_int (λ_ _=>rfl)) pe_int) (pv 1))))),?_⟩
  have sq:∀{H':Hp}{xs:List V},H' p=some (.lst xs)->SqL K H' p xs:=λh=>SqL.of h
  have fin:∀(d x y:Int),0<=d->d<(n:Int)->0<=x->0<=y->y<2^40->Q (.int d) (upd H p (.lst [.int x,.int y])):=λd x y d0 d1 x0 y0 y1=>by
   have:=q d.toNat (upd H p (.lst [.int x,.int y])) (by lia) But.upd ⟨x,y,upd_same,x0,y0,y1⟩
   rwa [show ((d.toNat:Nat):Int)=d by lia] at this
  have hn0:(0:Int)<n:=by lia
  refine⟨_,rfl,p,_,0,_,rfl,rfl,sq hp,rfl,_,_,rfl,rfl,_,rfl,?_⟩
  refine ite2 (λhc=>?_) (λhc=>?_)
  ·refine⟨_,rfl,p,_,0,_,rfl,rfl,sq hp,rfl,_,rfl,_,_,rfl,rfl,hn0,?_⟩
   refine⟨_,rfl,p,_,0,_,rfl,rfl,sq hp,rfl,_,rfl,_,_,rfl,rfl,⟨hn0,by lia⟩,_,rfl,p,_,0,0,rfl,rfl,hp,rfl,?_⟩
   refine⟨_,rfl,?_⟩
   exact fin _ _ _ (Int.emod_nonneg _ (by lia)) (Int.emod_lt_of_pos _ hn0) (Int.ediv_nonneg ha (by lia)) hb hb2
  ·refine⟨_,rfl,p,_,1,_,rfl,rfl,sq hp,rfl,_,_,rfl,rfl,.inl ⟨by lia,by lia⟩,_,_,rfl,rfl,_,_,rfl,rfl,(by show (0:Int)<2147483629;decide),_,rfl,p,_,1,1,rfl,rfl,hp,rfl,?_⟩
   have m1:0<=(b*48271+8191)%2147483629/\(b*48271+8191)%2147483629<2147483629:=⟨Int.emod_nonneg _ (by decide),Int.emod_lt_of_pos _ (by decide)⟩
   refine⟨_,rfl,p,_,1,_,rfl,rfl,sq upd_same,rfl,_,_,rfl,rfl,⟨by decide,by decide⟩,_,rfl,_,_,rfl,rfl,hn0,?_⟩
   exact fin _ _ _ (Int.emod_nonneg _ (by lia)) (Int.emod_lt_of_pos _ hn0) ha m1.1 (by lia)
theorem scPot:FnScope ["_law_script", "_law_k", "_law_cell"] ["_law_script", "_law_k"] (defScope lPot):=⟨rfl,rfl,rfl,by decide +kernel,rfl,by decide +kernel,by decide +kernel⟩
def spPot (K:PySem.W.Frag):Sp:=λvs H Q _=>∃(a:Addr) (k:Int) (ns:List Int),vs=[.ref a,.int k]/\SqL K H a (ns.map V.int)/\ns.length<=63/\0<=k/\k<=1000/\∀(H':Hp) (p:Addr),Same H H'->H p=none->PurseAt H' p->Q (.ref p) H'
theorem ok_pot {f:Addr}{fd:FuncData}(F:Fun K "_law_pot" "_law_pot" lPot f fd) (B:Blt mg) (C:Blt2 mg):FnOk P w K mg base CX0 1 f fd ["_law_script", "_law_k"] (spPot K):=by
 refine F.ok scPot (λvs H Q E h=>?_) (λcdv A outer s H vs Q E hr h=>?_)
 ·obtain⟨a,k,ns,rfl,_⟩:=h
  rfl
 ·obtain⟨a,k,ns,rfl,hS,hl,h0,h1,q⟩:=h
  refine seqE ⟨_,⟨ps_set (i:=2) scPot.nd rfl (Or.inl rfl) pe_int⟩,?_⟩
  refine seqE ⟨_,⟨ps_if (pt_cmpR op_lt (pv 1) (pe_callB call_len_seq (by rfl) B.len PySem.boot_len (pa_cons (pv 0) pa_nil)) (nomark _)) (pss_one (ps_set (i:=2) scPot.nd rfl (Or.inl rfl) (pe_ix ix_list (pv 0) (pv 1) (λ_ _=>rfl)))) pss_nil⟩,?_⟩
  refine lastE ⟨_,⟨ps_ret (pe_lst (Ars2.go (.cons ⟨pe_callB (call_max2 rfl) (by rfl) B.max PyProof.Rows.boot_max (pa_cons pe_int (pa_cons (pe_op op_sub (pe_callB call_abs (by rfl) C.abs PyProof.Rows.boot_abs (pa_cons (pv 2) pa_nil)) (pe_op op_pow pe_int pe_int)) pa_nil))⟩
    (.cons ⟨pe_op op_add (pe_op op_add (pe_op op_mod (pe_callB call_abs (by rfl) C.abs PyProof.Rows.boot_abs (pa_cons (pv 2) pa_nil)) pe_int) (pe_op op_mul pe_int (pv 1))) pe_int⟩ .nil rfl) rfl)))⟩,?_⟩
  have fin:∀(z:Int) (p:Addr),H p=none->Q (.ref p) (upd H p (.lst [.int (if (if z<0 then -z else z)-10^18>0 then (if z<0 then -z else z)-10^18 else 0),.int ((if z<0 then -z else z)%2147483629+97*k+1)])):=λz p hp=>by
   have m1:0<=(if z<0 then -z else z)%2147483629/\(if z<0 then -z else z)%2147483629<2147483629:=⟨Int.emod_nonneg _ (by decide),Int.emod_lt_of_pos _ (by decide)⟩
   refine q _ p (sameU hp) hp ⟨_,_,upd_same,?_,?_,?_⟩
   ·split<;>lia
   ·lia
   ·lia
  refine⟨_,rfl,_,rfl,a,_,rfl,.inl hS,_,_,rfl,rfl,_,rfl,?_⟩
  refine ite2 (λhc=>?_) (λhc=>?_)
  ·have hk:k<(ns.length:Int):=by
    have:=of_decide_eq_true hc
    simpa using this
   have hkn:k.toNat<ns.length:=by lia
   refine⟨_,rfl,_,rfl,a,_,k,.int (ns[k.toNat]),rfl,rfl,hS,?_,?_⟩
   ·have:=atI_nat (xs:=ns.map V.int) (j:=k.toNat) (v:=.int (ns[k.toNat])) (by simp[hkn])
    rw[show ((k.toNat:Nat):Int)=k by lia] at this
    exact this
   ·refine⟨_,rfl,_,rfl,_,_,rfl,rfl,⟨by decide,by decide,by decide⟩,_,_,rfl,rfl,_,_,rfl,?_⟩
    exact⟨_,rfl,_,rfl,_,_,rfl,rfl,(by show (0:Int)<2147483629;decide),_,rfl,_,_,rfl,rfl,.inl ⟨by decide,by decide⟩,_,_,rfl,rfl,_,_,rfl,rfl,(by show 2<=sizeLine;decide),λp hp=>fin _ p hp⟩
  ·refine⟨_,rfl,_,rfl,_,_,rfl,rfl,⟨by decide,by decide,by decide⟩,_,_,rfl,rfl,_,_,rfl,?_⟩
   exact⟨_,rfl,_,rfl,_,_,rfl,rfl,(by show (0:Int)<2147483629;decide),_,rfl,_,_,rfl,rfl,.inl ⟨by decide,by decide⟩,_,_,rfl,rfl,_,_,rfl,rfl,(by show 2<=sizeLine;decide),λp hp=>fin _ p hp⟩
end
end Pr
namespace Qf
def BoxIn (n:Nat) (b:Row):Prop:=∃r c h w,b=[r,c,h,w]/\1<=h/\1<=w/\r+h<=2^n/\c+w<=2^n
def Small (b:Row):Prop:=∃r c h w,b=[r,c,h,w]/\((h<=9/\w<=9)\/∃s i j,h=2^s/\w=2^s/\r=i*2^s/\c=j*2^s)
def Boxes (n:Nat) (bs:List Row):Prop:=(∀b∈bs,BoxIn n b)/\((n<4/\bs.length<=64)\/(bs.length<=5/\∀b∈bs,Small b))
theorem pow_int (k:Nat):(1:Int)*2^((k:Int)).toNat=((2^k:Nat):Int):=by
 rw[Int.toNat_natCast,Int.one_mul];push_cast;rfl
theorem pow_le12 {n:Nat}(h:n<=12):2^n<=4096/\0<2^n:=⟨by
 have:=Nat.pow_le_pow_right (n:=2) (by decide) h
 simpa using this,Nat.pow_pos (by decide)⟩
end Qf
namespace Pr
open PySem L2 Qf
section
variable {P:Program}{w:World}{K:PySem.W.Frag}{mg:Str->Option Value}{base:Heap}
theorem scBox:FnScope ["_law_pot_here", "_law_n", "_law_most", "_law_side", "_law_size", "_law_row", "_law_column", "_law_high", "_law_wide"] ["_law_pot_here", "_law_n", "_law_most"] (defScope lBox):=⟨rfl,rfl,rfl,by decide +kernel,rfl,by decide +kernel,by decide +kernel⟩
def spBox:Sp:=λvs H Q _=>∃(p:Addr) (n:Nat),vs=[.ref p,.int (n:Nat),.int 9]/\PurseAt H p/\n<=12 /\
 ∀(H':Hp) (t:Addr) (b:Row),But p H H'->PurseAt H' p->H' t=some (.tup (vN b))->BoxIn n b->Small b->Q (.ref t) H'
theorem ok_box {f fD:Addr}{fd fdD:FuncData}(F:Fun K "_law_box" "_law_box" lBox f fd) (B:Blt mg) (hD:mg "_law_digit" = some (.ref fD)) (FD:Fun K "_law_digit" "_law_digit" lDigit fD fdD) (bD:Binds K fdD ["_law_pot_here", "_law_many"] []) :
  FnOk P w K mg base CX0 2 f fd ["_law_pot_here", "_law_n", "_law_most"] spBox:=by
 have GD:FnOk P w K mg base CX0 1 fD fdD ["_law_pot_here", "_law_many"] spDigit:=ok_digit FD
 refine F.ok scBox (λvs H Q E h=>?_) (λcdv A outer s H vs Q E hr h=>?_)
 ·obtain⟨p,n,rfl,_⟩:=h
  rfl
 ·obtain⟨p,n,rfl,hp,hn,q⟩:=h
  refine seqE ⟨_,⟨ps_set (i:=3) scBox.nd rfl (Or.inl rfl) (pe_op op_shl pe_int (pv 1))⟩,?_⟩
  refine seqE ⟨_,⟨ps_if (pt_cmpR op_eq (pe_call GD hr (by rfl) hD FD.kp bD .nil pass0 (pa_cons (pv 0) (pa_cons pe_int pa_nil))) pe_int (nomark _))
   (StB.go (.cons ⟨ps_set (i:=4) scBox.nd rfl (Or.inl rfl) (pe_call GD hr (by rfl) hD FD.kp bD .nil pass0 (pa_cons (pv 0) (pa_cons (pe_op op_add (pv 1) pe_int) pa_nil)))⟩
    (.cons ⟨ps_set (i:=5) scBox.nd rfl (Or.inl rfl) (pe_op op_mul (pe_call GD hr (by rfl) hD FD.kp bD .nil pass0 (pa_cons (pv 0) (pa_cons (pe_op op_shl pe_int (pe_op op_sub (pv 1) (pv 4))) pa_nil))) (pe_op op_shl pe_int (pv 4)))⟩
    (.cons ⟨ps_set (i:=6) scBox.nd rfl (Or.inl rfl) (pe_op op_mul (pe_call GD hr (by rfl) hD FD.kp bD .nil pass0 (pa_cons (pv 0) (pa_cons (pe_op op_shl pe_int (pe_op op_sub (pv 1) (pv 4))) pa_nil))) (pe_op op_shl pe_int (pv 4)))⟩
    (.one ⟨ps_ret (pe_tup (Ars2.go (.cons ⟨pv 5⟩ (.cons ⟨pv 6⟩ (.cons ⟨pe_op op_shl pe_int (pv 4)⟩ (.cons ⟨pe_op op_shl pe_int (pv 4)⟩ .nil rfl) rfl) rfl) rfl)))⟩))))) pss_nil⟩,?_⟩
  refine seqE ⟨_,⟨ps_set (i:=5) scBox.nd rfl (Or.inl rfl) (pe_call GD hr (by rfl) hD FD.kp bD .nil pass0 (pa_cons (pv 0) (pa_cons (pv 3) pa_nil)))⟩,?_⟩
  refine seqE ⟨_,⟨ps_set (i:=6) scBox.nd rfl (Or.inl rfl) (pe_call GD hr (by rfl) hD FD.kp bD .nil pass0 (pa_cons (pv 0) (pa_cons (pv 3) pa_nil)))⟩,?_⟩
  refine seqE ⟨_,⟨ps_set (i:=7) scBox.nd rfl (Or.inl rfl) (pe_op op_add pe_int (pe_call GD hr (by rfl) hD FD.kp bD .nil pass0 (pa_cons (pv 0) (pa_cons (pe_callB (call_min2 rfl) (by rfl) B.min PyProof.Rows.boot_min (pa_cons (pv 2) (pa_cons (pe_op op_sub (pv 3) (pv 5)) pa_nil))) pa_nil))))⟩,?_⟩
  refine seqE ⟨_,⟨ps_set (i:=8) scBox.nd rfl (Or.inl rfl) (pe_op op_add pe_int (pe_call GD hr (by rfl) hD FD.kp bD .nil pass0 (pa_cons (pv 0) (pa_cons (pe_callB (call_min2 rfl) (by rfl) B.min PyProof.Rows.boot_min (pa_cons (pv 2) (pa_cons (pe_op op_sub (pv 3) (pv 6)) pa_nil))) pa_nil))))⟩,?_⟩
  refine lastE ⟨_,⟨ps_ret (pe_tup (Ars2.go (.cons ⟨pv 5⟩ (.cons ⟨pv 6⟩ (.cons ⟨pv 7⟩ (.cons ⟨pv 8⟩ .nil rfl) rfl) rfl) rfl)))⟩,?_⟩
  obtain⟨p1,p2⟩:=pow_le12 hn
  refine⟨_,rfl,_,_,rfl,rfl,⟨by lia,by lia,by decide⟩,?_⟩
  refine⟨_,rfl,p,2,rfl,hp,by decide,by decide,λd H1 hd b1 hp1=>⟨rfl,_,rfl,?_⟩⟩
  refine ite2 (λhc=>?_) (λhc=>?_)
  ·refine⟨_,rfl,_,rfl,_,_,rfl,rfl,p,n+1,rfl,hp1,by lia,by lia,λz H2 hz b2 hp2=>?_⟩
   have hzn:z<=n:=by lia
   obtain⟨s1,s2⟩:=pow_le12 (Nat.le_trans hzn hn)
   obtain⟨m1,m2⟩:=pow_le12 (Nat.le_trans (Nat.sub_le n z) hn)
   have em:(1:Int)*2^((n:Int)-(z:Int)).toNat=((2^(n-z):Nat):Int):=by
    rw[<- pow_int (n-z)]
    congr 3
    lia
   have ez:=pow_int z
   have hsplit:2^(n-z)*2^z=2^n:=by rw[<- Nat.pow_add];congr 1;lia
   refine⟨_,rfl,_,rfl,_,rfl,_,_,rfl,rfl,_,_,rfl,rfl,⟨by lia,by lia,by decide⟩,p,2^(n-z),congrArg (λx=>[V.ref p,V.int x]) em,hp2,m2,by lia,λi H3 hi b3 hp3=>?_⟩
   refine⟨_,rfl,_,_,rfl,rfl,⟨by lia,by lia,by decide⟩,_,_,rfl,rfl,.inl ⟨by lia,by lia⟩,?_⟩
   refine⟨_,rfl,_,rfl,_,rfl,_,_,rfl,rfl,_,_,rfl,rfl,⟨by lia,by lia,by decide⟩,p,2^(n-z),congrArg (λx=>[V.ref p,V.int x]) em,hp3,m2,by lia,λj H4 hj b4 hp4=>?_⟩
   refine⟨_,rfl,_,_,rfl,rfl,⟨by lia,by lia,by decide⟩,_,_,rfl,rfl,.inl ⟨by lia,by lia⟩,?_⟩
   refine⟨_,rfl,_,rfl,_,rfl,_,_,rfl,rfl,⟨by lia,by lia,by decide⟩,_,rfl,_,_,rfl,rfl,⟨by lia,by lia,by decide⟩,(by show 4<=sizeLine;decide),λt ht=>?_⟩
   have bnd:∀i,i<2^(n-z)->i*2^z+2^z<=2^n:=λi hi=>by
    rw[<- hsplit,<- Nat.succ_mul]
    exact Nat.mul_le_mul_right _ hi
   refine q _ t [i*2^z,j*2^z,2^z,2^z] ((((b1.trans b2).trans b3).trans b4).trans (But.of (sameU ht))) (hp4.same (sameU ht)) ?_ ⟨_,_,_,_,rfl,s2,s2,bnd i hi,bnd j hj⟩ ⟨_,_,_,_,rfl,.inr ⟨z,i,j,rfl,rfl,rfl,rfl⟩⟩
   rw[upd_same]
   show some (HO.tup [V.int ((i:Int)*(1*2^((z:Int)).toNat)),V.int ((j:Int)*(1*2^((z:Int)).toNat)),V.int (1*2^((z:Int)).toNat),V.int (1*2^((z:Int)).toNat)])=some (HO.tup [V.int ((i*2^z:Nat):Int),V.int ((j*2^z:Nat):Int),V.int ((2^z:Nat):Int),V.int ((2^z:Nat):Int)])
   rw[ez]
   push_cast
   rfl
  ·have es:=pow_int n
   have hside:[V.ref p,V.int ((1:Int)*2^((n:Int)).toNat)]=[V.ref p,V.int ((2^n:Nat):Int)]:=by rw[es]
   refine⟨_,rfl,_,rfl,p,2^n,hside,hp1,p2,by lia,λr H2 hr2 b2 hp2=>?_⟩
   refine⟨_,rfl,_,rfl,p,2^n,hside,hp2,p2,by lia,λc H3 hc3 b3 hp3=>?_⟩
   have emin:∀r:Nat,r<2^n->[V.ref p,V.int (if (1:Int)*2^((n:Int)).toNat-(r:Int)<9 then (1:Int)*2^((n:Int)).toNat-(r:Int) else 9)]=[V.ref p,V.int ((min 9 (2^n-r):Nat):Int)]:=λr hr=>by
    rw[es]
    congr 3
    split<;>lia
   refine⟨_,rfl,_,rfl,_,rfl,_,rfl,_,_,rfl,rfl,_,_,rfl,p,min 9 (2^n-r),emin r hr2,hp3,by lia,by lia,λh H4 hh b4 hp4=>?_⟩
   refine⟨_,_,rfl,rfl,?_⟩
   refine⟨_,rfl,_,rfl,_,rfl,_,rfl,_,_,rfl,rfl,_,_,rfl,p,min 9 (2^n-c),emin c hc3,hp4,by lia,by lia,λw' H5 hw b5 hp5=>?_⟩
   refine⟨_,_,rfl,rfl,?_⟩
   refine⟨_,rfl,_,rfl,_,rfl,_,rfl,(by show 4<=sizeLine;decide),λt ht=>?_⟩
   refine q _ t [r,c,1+h,1+w'] (((((b1.trans b2).trans b3).trans b4).trans b5).trans (But.of (sameU ht))) (hp5.same (sameU ht)) ?_ ⟨_,_,_,_,rfl,by lia,by lia,by lia,by lia⟩ ⟨_,_,_,_,rfl,.inl ⟨by lia,by lia⟩⟩
   rw[upd_same]
   rfl
end
end Pr
namespace Pr
open PySem L2 Qf
structure Grow (p D:Addr) (H:Hp) (ok:Row->Prop) (i:Nat) (xs:List V) (H2:Hp):Prop where
 but:But p H H2
 pot:PurseAt H2 p
 at_:H2 D=some (.lst xs)
 len:xs.length<=i
 its:∃(cs:List Addr) (bs:List Row),xs=cs.map V.ref/\cs.length=bs.length/\(∀b∈bs,ok b)/\∀(j:Nat) c b,cs[j]?=some c->bs[j]?=some b->H2 c=some (.tup (vN b))
theorem Grow.start {p D:Addr}{H:Hp}{ok:Row->Prop}(hp:PurseAt H p) (hD:H D=none):Grow p D H ok 0 [] (upd H D (.lst [])):=
 ⟨But.of (sameU hD),hp.same (sameU hD),upd_same,Nat.le_refl _,[],[],rfl,rfl,λb hb=>(nomatch hb),λj c b e=>by simp at e⟩
theorem Grow.kept {p D:Addr}{H H2 H3:Hp}{ok:Row->Prop}{i:Nat}{xs:List V}(g:Grow p D H ok i xs H2) (npD:p≠D) (b:But p H2 H3) (hp:PurseAt H3 p):Grow p D H ok (i+1) xs H3:=by
 obtain⟨b2,p2,a2,l2,cs,bs,e,hl,hok,hr⟩:=g
 refine⟨b2.trans b,hp,b _ _ a2 (Ne.symm npD),by lia,cs,bs,e,hl,hok,λj c r e1 e2=>?_⟩
 have:=hr j c r e1 e2
 refine b _ _ this λz=>?_
 obtain⟨x,y,e3,_⟩:=p2
 rw[z,e3] at this
 cases this
theorem Grow.more {p D t:Addr}{H H2 H3:Hp}{ok:Row->Prop}{i:Nat}{xs:List V}{r:Row}(g:Grow p D H ok i xs H2) (hDn:H D=none) (npD:p≠D) (b:But p H2 H3) (hp:PurseAt H3 p) (ht:H3 t=some (.tup (vN r))) (hr:ok r) :
  H3 D=some (.lst xs)/\Grow p D H ok (i+1) (xs++[.ref t]) (upd H3 D (.lst (xs++[.ref t]))):=by
 have k:=g.kept npD b hp
 obtain⟨b2,p2,a2,l2,cs,bs,rfl,hl,hok,hrr⟩:=k
 have l1:=g.len
 refine⟨a2,λc o e n=>?_,?_,upd_same,by rw[List.length_append];show (cs.map V.ref).length+1<=_;lia,cs++[t],bs++[r],ref_snoc cs t,by rw[List.length_append,List.length_append,hl];rfl,?_,?_⟩
 ·rw[upd_ne (ne_of_none e hDn)]
  exact b2 c o e n
 ·obtain⟨x,y,e,rr⟩:=hp
  exact⟨x,y,by rw[upd_ne npD];exact e,rr⟩
 ·intro z hz
  rcases List.mem_append.mp hz with hz|hz
  ·exact hok z hz
  ·have:z=r:=by simpa using hz
   rw[this];exact hr
 ·intro j c q e1 e2
  have nD:∀{c:Addr}{u:List V},H3 c=some (.tup u)->c≠D:=λ{c u} e z=>by rw[z,a2] at e;cases e
  by_cases hj:j<cs.length
  ·rw[List.getElem?_append_left hj] at e1
   rw[List.getElem?_append_left (by lia)] at e2
   have:=hrr j c q e1 e2
   rw[upd_ne (nD this)];exact this
  ·rw[List.getElem?_append_right (by lia)] at e1
   rw[List.getElem?_append_right (by lia)] at e2
   have hj0:j-cs.length=0:=by
    have:=(List.getElem?_eq_some_iff.mp e1).1
    simp at this
    lia
   rw[hj0] at e1
   rw[<- hl,hj0] at e2
   have ec:c=t:=by simpa using e1.symm
   have eq:q=r:=by simpa using e2.symm
   rw[ec,eq,upd_ne (nD ht)];exact ht
theorem Grow.rows {p D:Addr}{H H2:Hp}{ok:Row->Prop}{i:Nat}{xs:List V}(g:Grow p D H ok i xs H2):∃bs:List Row,RowsL H2 D bs/\(∀b∈bs,ok b)/\bs.length<=i:=by
 obtain⟨_,_,a2,l2,cs,bs,rfl,hl,hok,hr⟩:=g
 exact⟨bs,⟨cs,a2,hl,hr⟩,hok,by rw[List.length_map] at l2;lia⟩
section
variable {P:Program}{w:World}{K:PySem.W.Frag}{mg:Str->Option Value}{base:Heap}
abbrev nCells:List Str:=["_law_pot_here", "_law_n", "_law_side"]
theorem scCells:FnScope nCells ["_law_pot_here", "_law_n"] (defScope lCells):=⟨rfl,rfl,rfl,by decide +kernel,rfl,by decide +kernel,by decide +kernel⟩
def spCells:Sp:=λvs H Q _=>∃(p:Addr) (n:Nat),vs=[.ref p,.int (n:Nat)]/\PurseAt H p/\n<4 /\
 ∀(H':Hp) (l:Addr) (bs:List Row),But p H H'->PurseAt H' p->H l=none->RowsL H' l bs->(∀b∈bs,BoxIn n b)->bs.length<=64->Q (.ref l) H'
theorem ok_cells {f fD:Addr}{fd fdD:FuncData}(F:Fun K "_law_cells" "_law_cells" lCells f fd) (B:Blt mg) (hD:mg "_law_digit" = some (.ref fD)) (FD:Fun K "_law_digit" "_law_digit" lDigit fD fdD) (bD:Binds K fdD ["_law_pot_here", "_law_many"] []) :
  FnOk P w K mg base CX0 2 f fd ["_law_pot_here", "_law_n"] spCells:=by
 have GD:FnOk P w K mg base CX0 1 fD fdD ["_law_pot_here", "_law_many"] spDigit:=ok_digit FD
 refine F.ok scCells (λvs H Q E h=>?_) (λcdv A outer s H vs Q E hr h=>?_)
 ·obtain⟨p,n,rfl,_⟩:=h
  rfl
 ·obtain⟨p,n,rfl,hp,hn,q⟩:=h
  refine seqE ⟨_,⟨ps_set (i:=2) scCells.nd rfl (by first|exact Or.inl rfl|exact Or.inr rfl) (pe_op op_shl pe_int (pv 1))⟩,?_⟩
  refine lastE ⟨_,⟨ps_ret (pe_compIf nCells (defScope lCells) rfl rfl rfl scCells.nd (pi_range1 (by rfl) B.range (pa_cons (pe_op op_mul (pv 2) (pv 2)) pa_nil))
   (λcl C fp s₀ H₀=>pt_cmpR op_eq (pe_call GD hr (by rfl) hD FD.kp bD .nil pass0 (pa_cons (pv 1) (pa_cons pe_int pa_nil))) pe_int (nomark _))
   (λcl C fp s₀ H₀=>PEb.go ⟨pe_tup (Ars2.go (.cons ⟨pe_op op_fdiv (pv 0) (pv 3)⟩ (.cons ⟨pe_op op_mod (pv 0) (pv 3)⟩ (.cons ⟨pe_int⟩ (.cons ⟨pe_int⟩ .nil rfl) rfl) rfl) rfl))⟩))⟩,?_⟩
  obtain⟨p1,p2⟩:=pow_le12 (show n<=12 by lia)
  have p8:2^n<=8:=by
   have:=Nat.pow_le_pow_right (n:=2) (by decide) (show n<=3 by lia)
   simpa using this
  have es:=pow_int n
  refine⟨_,rfl,_,_,rfl,rfl,⟨by lia,by lia,by decide⟩,?_⟩
  have hsz:(2^n*2^n:Nat)<=64:=by
   have:=Nat.mul_le_mul p8 p8
   lia
  have esq:((1:Int)*2^((n:Int)).toNat)*(1*2^((n:Int)).toNat)=((2^n*2^n:Nat):Int):=by rw[es];push_cast;rfl
  have etn:(((1:Int)*2^((n:Int)).toNat)*(1*2^((n:Int)).toNat)).toNat=2^n*2^n:=by rw[esq,Int.toNat_natCast]
  refine⟨_,rfl,_,rfl,_,_,rfl,rfl,.inl ⟨by lia,by lia⟩,_,rfl,by lia,by lia,λD hDn=>?_⟩
  have npD:p≠D:=by obtain⟨a,b,e,_⟩:=hp;exact ne_of_none e hDn
  refine compG_rng (Grow p D H (BoxIn n)) (by rw[etn];exact small1000 (by lia)) (Grow.start hp hDn) (λi xs H2 g=>⟨g.at_,g.len⟩) ?_ ?_
  ·intro i xs H2 hi g os ho Q1 Q2 q1 q2
   rw[etn] at hi
   match os,ho with
   |[o1],_=>
    refine⟨_,rfl,p,2,rfl,g.pot,by decide,by decide,λd H3 hd b3 hp3=>⟨rfl,_,rfl,?_⟩⟩
    refine ite2 (λ_=>?_) (λ_=>q1 H3 (g.kept npD b3 hp3))
    refine⟨_,rfl,_,rfl,_,_,rfl,rfl,⟨by lia,by lia⟩,_,rfl,_,rfl,_,_,rfl,rfl,(by show (0:Int)<1*2^((n:Int)).toNat;lia),(by show 4<=sizeLine;decide),λt ht=>?_⟩
    have hbx:BoxIn n [i/2^n,i%2^n,1,1]:=by
     refine⟨_,_,_,_,rfl,Nat.le_refl _,Nat.le_refl _,?_,?_⟩
     ·exact (Nat.div_lt_iff_lt_mul p2).mpr hi
     ·exact Nat.mod_lt _ p2
    have e4:HO.tup [V.int ((0+(i:Int))/(1*2^((n:Int)).toNat)),V.int ((0+(i:Int))%(1*2^((n:Int)).toNat)),V.int 1,V.int 1]=HO.tup (vN [i/2^n,i%2^n,1,1]):=by
     rw[es,Int.zero_add]
     show HO.tup [V.int ((i:Int)/((2^n:Nat):Int)),V.int ((i:Int)%((2^n:Nat):Int)),V.int 1,V.int 1]=HO.tup [V.int ((i/2^n:Nat):Int),V.int ((i%2^n:Nat):Int),V.int 1,V.int 1]
     rw[Int.natCast_ediv,Int.natCast_emod]
    show Q2 (.ref t) (upd H3 t (HO.tup [V.int ((0+(i:Int))/(1*2^((n:Int)).toNat)),V.int ((0+(i:Int))%(1*2^((n:Int)).toNat)),V.int 1,V.int 1]))
    rw[e4]
    have m:=g.more (t:=t) (r:=[i/2^n,i%2^n,1,1]) hDn npD (b3.trans (But.of (sameU ht))) (hp3.same (sameU ht)) upd_same hbx
    exact q2 _ _ m.1 m.2
  ·intro xs H2 g
   obtain⟨bs,h1,h2,h3⟩:=g.rows
   exact q H2 D bs g.but g.pot hDn h1 h2 (by rw[etn] at h3;lia)
abbrev nBoxes:List Str:=["_law_pot_here", "_law_n"]
theorem scBoxes:FnScope nBoxes ["_law_pot_here", "_law_n"] (defScope lBoxes):=⟨rfl,rfl,rfl,by decide +kernel,rfl,by decide +kernel,by decide +kernel⟩
def spBoxes:Sp:=λvs H Q _=>∃(p:Addr) (n:Nat),vs=[.ref p,.int (n:Nat)]/\PurseAt H p/\n<=12 /\
 ∀(H':Hp) (l:Addr) (bs:List Row),But p H H'->PurseAt H' p->H l=none->RowsL H' l bs->Boxes n bs->Q (.ref l) H'
theorem ok_boxes {f fD fC fB:Addr}{fd fdD fdC fdB:FuncData}(F:Fun K "_law_boxes" "_law_boxes" lBoxes f fd) (B:Blt mg) (hD:mg "_law_digit" = some (.ref fD)) (FD:Fun K "_law_digit" "_law_digit" lDigit fD fdD) (bD:Binds K fdD ["_law_pot_here", "_law_many"] [])
  (hC:mg "_law_cells" = some (.ref fC)) (FC:Fun K "_law_cells" "_law_cells" lCells fC fdC) (bC:Binds K fdC ["_law_pot_here", "_law_n"] [])
  (hB:mg "_law_box" = some (.ref fB)) (FB:Fun K "_law_box" "_law_box" lBox fB fdB) (bB:Binds K fdB ["_law_pot_here", "_law_n", "_law_most"] []) :
  FnOk P w K mg base CX0 3 f fd ["_law_pot_here", "_law_n"] spBoxes:=by
 have GD:FnOk P w K mg base CX0 1 fD fdD ["_law_pot_here", "_law_many"] spDigit:=ok_digit FD
 have GC:FnOk P w K mg base CX0 2 fC fdC ["_law_pot_here", "_law_n"] spCells:=ok_cells FC B hD FD bD
 have GB:FnOk P w K mg base CX0 2 fB fdB ["_law_pot_here", "_law_n", "_law_most"] spBox:=ok_box FB B hD FD bD
 refine F.ok scBoxes (λvs H Q E h=>?_) (λcdv A outer s H vs Q E hr h=>?_)
 ·obtain⟨p,n,rfl,_⟩:=h
  rfl
 ·obtain⟨p,n,rfl,hp,hn,q⟩:=h
  have hr1:Room 1 _:=hr.mono (by decide)
  refine seqE ⟨_,⟨ps_if (PW.pt (pw_and (pt_cmpR op_lt (pv 1) pe_int (nomark _)) (pw_and1 (pt_cmpR op_eq (pe_call GD hr1 (by rfl) hD FD.kp bD .nil pass0 (pa_cons (pv 0) (pa_cons pe_int pa_nil))) pe_int (nomark _)))))
   (pss_one (ps_ret (pe_call GC hr (by rfl) hC FC.kp bC .nil pass0 (pa_cons (pv 0) (pa_cons (pv 1) pa_nil))))) pss_nil⟩,?_⟩
  refine lastE ⟨_,⟨ps_ret (pe_compB nBoxes (defScope lBoxes) rfl rfl rfl scBoxes.nd (pi_range1 (by rfl) B.range (pa_cons (pe_call GD hr1 (by rfl) hD FD.kp bD .nil pass0 (pa_cons (pv 0) (pa_cons pe_int pa_nil))) pa_nil))
   (λcl C fp s₀ H₀=>pe_call GB hr (by rfl) hB FB.kp bB .nil pass0 (pa_cons (pv 1) (pa_cons (pv 2) (pa_cons pe_int pa_nil)))))⟩,?_⟩
  have rest:∀H1,But p H H1->PurseAt H1 p->tComp (iRng1 (tCons (tCall spDigit [] E0 (tCons (tVar 0) (tCons (tC (.int 6)) tNil))) tNil)) (tCall spBox [] E0 (tCons (tVar 1) (tCons (tVar 2) (tCons (tC (.int 9)) tNil)))) [some (.ref p),some (.int (n:Nat))] H1 Q:=λH1 b1 hp1=>by
   refine⟨_,rfl,p,6,rfl,hp1,by decide,by decide,λd H2 hd b2 hp2=>⟨_,rfl,by lia,by lia,λD hDn=>?_⟩⟩
   have npD:p≠D:=by obtain⟨a,b,e,_⟩:=hp2;exact ne_of_none e hDn
   have hDH:H D=none:=by
    cases e:H D with
    |none=>rfl
    |some o=>rw[(b1.trans b2) _ _ e (Ne.symm npD)] at hDn;cases hDn
   refine comp_rng (Grow p D H2 (λb=>BoxIn n b/\Small b)) (by rw[Int.toNat_natCast];exact small1000 (by lia)) (Grow.start hp2 hDn) (λi xs H2 g=>⟨g.at_,g.len⟩) ?_ ?_
   ·intro i xs H3 hi g Q2 q2
    refine⟨_,rfl,_,rfl,p,n,rfl,g.pot,hn,λH4 t b b4 hp4 ht h1 h2=>?_⟩
    have m:=g.more (t:=t) (r:=b) hDn npD b4 hp4 ht ⟨h1,h2⟩
    exact q2 _ _ m.1 m.2
   ·intro xs H3 g
    obtain⟨bs,h1,h2,h3⟩:=g.rows
    rw[Int.toNat_natCast] at h3
    exact q H3 D bs ((b1.trans b2).trans g.but) g.pot hDH h1 ⟨λb hb=>(h2 b hb).1,.inr ⟨by lia,λb hb=>(h2 b hb).2⟩⟩
  refine⟨_,rfl,_,_,rfl,rfl,_,rfl,?_⟩
  refine ite2 (λhc=>?_) (λhc=>?_)
  ·have n4:n<4:=by have:=of_decide_eq_true hc;lia
   refine⟨_,rfl,p,2,rfl,hp,by decide,by decide,λd H1 hd b1 hp1=>⟨rfl,_,rfl,?_⟩⟩
   refine ite2 (λ_=>?_) (λ_=>rest H1 b1 hp1)
   refine⟨_,rfl,_,rfl,p,n,rfl,hp1,n4,λH2 l bs b2 hp2 hl hR hb hlen=>q H2 l bs (b1.trans b2) hp2 ?_ hR ⟨hb,.inl ⟨n4,hlen⟩⟩⟩
   cases e:H l with
   |none=>rfl
   |some o=>
    have nlp:l≠p:=by obtain⟨a,b,e2,_⟩:=hp1;exact (ne_of_none e2 hl).symm
    rw[b1 _ _ e nlp] at hl;cases hl
  ·exact iteF (rest H (But.refl p H) hp)
end
end Pr
namespace Qf
open Tr
def meetsB (r c s:Nat) (b:Row):Bool:=decide (b.getD 0 0<r+s/\r<b.getD 0 0+b.getD 2 0/\c<b.getD 1 0+b.getD 3 0/\b.getD 1 0<c+s)
def hasB (r c s:Nat) (b:Row):Bool:=decide (b.getD 0 0<=r/\r+s<=b.getD 0 0+b.getD 2 0/\b.getD 1 0<=c/\c+s<=b.getD 1 0+b.getD 3 0)
def mk (a b c d:Tr):Tr:=if a=z/\b=z/\c=z/\d=z then z else if a=o/\b=o/\c=o/\d=o then o else .nd a b c d
def met (boxes:List Row) (r c s:Nat):List Row:=boxes.filter (meetsB r c s)
def bt:Nat->List Row->Nat->Nat->Tr
 |0,boxes,r,c=>if met boxes r c 1=[] then z else if (met boxes r c 1).any (hasB r c 1) then o else z
 |k+1,boxes,r,c=>if met boxes r c (2^(k+1))=[] then z else if (met boxes r c (2^(k+1))).any (hasB r c (2^(k+1))) then o else
   mk (bt k (met boxes r c (2^(k+1))) r c) (bt k (met boxes r c (2^(k+1))) r (c+2^k)) (bt k (met boxes r c (2^(k+1))) (r+2^k) c) (bt k (met boxes r c (2^(k+1))) (r+2^k) (c+2^k))
theorem mk_red {a b c d:Tr}(ha:Red a) (hb:Red b) (hc:Red c) (hd:Red d):Red (mk a b c d):=by
 unfold mk
 split
 ·trivial
 ·split
  ·trivial
  ·exact⟨by assumption,by assumption,ha,hb,hc,hd⟩
theorem bt_red:∀(k:Nat) (boxes:List Row) (r c:Nat),Red (bt k boxes r c)
 |0,boxes,r,c=>by
  unfold bt
  split
  ·trivial
  ·split<;>trivial
 |k+1,boxes,r,c=>by
  unfold bt
  split
  ·trivial
  ·split
   ·trivial
   ·exact mk_red (bt_red k _ _ _) (bt_red k _ _ _) (bt_red k _ _ _) (bt_red k _ _ _)
theorem mk_dep {a b c d:Tr}{k:Nat}(ha:dep a<=k) (hb:dep b<=k) (hc:dep c<=k) (hd:dep d<=k):dep (mk a b c d)<=k+1:=by
 unfold mk
 split
 ·show 0<=_;lia
 ·split
  ·show 0<=_;lia
  ·show 1+mx [dep a,dep b,dep c,dep d]<=k+1
   have:=mx_le (l:=[dep a,dep b,dep c,dep d]) (b:=k) (by
    intro x hx
    have:x=dep a\/x=dep b\/x=dep c\/x=dep d:=by simpa using hx
    rcases this with rfl|rfl|rfl|rfl<;>assumption)
   lia
theorem bt_dep:∀(k:Nat) (boxes:List Row) (r c:Nat),dep (bt k boxes r c)<=k
 |0,boxes,r,c=>by
  unfold bt
  split
  ·exact Nat.le_refl 0
  ·split<;>exact Nat.le_refl 0
 |k+1,boxes,r,c=>by
  unfold bt
  split
  ·exact Nat.zero_le _
  ·split
   ·exact Nat.zero_le _
   ·exact mk_dep (bt_dep k _ _ _) (bt_dep k _ _ _) (bt_dep k _ _ _) (bt_dep k _ _ _)
def nds:Tr->Nat
 |.nd a b c d=>1+nds a+nds b+nds c+nds d
 |_=>0
theorem post_le:∀(t:Tr) (e:List Tr),(post t e).length<=e.length+nds t
 |.z,e=>Nat.le_refl _
 |.o,e=>Nat.le_refl _
 |.nd a b c d,e=>by
  unfold post
  split
  ·exact Nat.le_add_right _ _
  ·have h1:=post_le a e
   have h2:=post_le b (post a e)
   have h3:=post_le c (post b (post a e))
   have h4:=post_le d (post c (post b (post a e)))
   rw[List.length_append]
   show _+1<=e.length+(1+nds a+nds b+nds c+nds d)
   lia
theorem mk_nds (a b c d:Tr):nds (mk a b c d)<=1+nds a+nds b+nds c+nds d:=by
 unfold mk
 split
 ·exact Nat.zero_le _
 ·split
  ·exact Nat.zero_le _
  ·exact Nat.le_refl _
def cnt (b:Row):Nat->Nat->Nat->Nat
 |0,_,_=>0
 |k+1,r,c=>if meetsB r c (2^(k+1)) b=true/\hasB r c (2^(k+1)) b=false then 1+cnt b k r c+cnt b k r (c+2^k)+cnt b k (r+2^k) c+cnt b k (r+2^k) (c+2^k) else 0
def cnts (boxes:List Row) (k r c:Nat):Nat:=(boxes.map λb=>cnt b k r c).sum
theorem cnts_filter {p:Row->Bool}(boxes:List Row) (k r c:Nat):cnts (boxes.filter p) k r c<=cnts boxes k r c:=by
 induction boxes with
 |nil=>exact Nat.le_refl _
 |cons b bs ih=>
  unfold cnts at ih ⊢
  rw[List.filter_cons]
  split
  ·simp only[List.map_cons,List.sum_cons];lia
  ·simp only[List.map_cons,List.sum_cons];lia
theorem cnts_split {boxes:List Row}{k r c:Nat}(hm:∀b∈boxes,meetsB r c (2^(k+1)) b=true/\hasB r c (2^(k+1)) b=false) :
  cnts boxes (k+1) r c=boxes.length+cnts boxes k r c+cnts boxes k r (c+2^k)+cnts boxes k (r+2^k) c+cnts boxes k (r+2^k) (c+2^k):=by
 induction boxes with
 |nil=>rfl
 |cons b bs ih=>
  have h1:=ih λx hx=>hm x (List.mem_cons_of_mem _ hx)
  have e:cnt b (k+1) r c=1+cnt b k r c+cnt b k r (c+2^k)+cnt b k (r+2^k) c+cnt b k (r+2^k) (c+2^k):=by
   show (if _ then _ else _)=_
   rw[if_pos (hm b List.mem_cons_self)]
  unfold cnts at h1 ⊢
  simp only[List.map_cons,List.sum_cons,List.length_cons,e,h1]
  lia
theorem bt_nds:∀(k:Nat) (boxes:List Row) (r c:Nat),nds (bt k boxes r c)<=cnts boxes k r c
 |0,boxes,r,c=>by
  unfold bt
  split
  ·exact Nat.zero_le _
  ·split<;>exact Nat.zero_le _
 |k+1,boxes,r,c=>by
  unfold bt
  split
  ·exact Nat.zero_le _
  ·rename_i hne
   split
   ·exact Nat.zero_le _
   ·rename_i hany
    refine Nat.le_trans (mk_nds _ _ _ _) ?_
    have h1:=bt_nds k (met boxes r c (2^(k+1))) r c
    have h2:=bt_nds k (met boxes r c (2^(k+1))) r (c+2^k)
    have h3:=bt_nds k (met boxes r c (2^(k+1))) (r+2^k) c
    have h4:=bt_nds k (met boxes r c (2^(k+1))) (r+2^k) (c+2^k)
    have h5:cnts (met boxes r c (2^(k+1))) (k+1) r c<=cnts boxes (k+1) r c:=cnts_filter _ _ _ _
    have hm:∀b∈met boxes r c (2^(k+1)),meetsB r c (2^(k+1)) b=true/\hasB r c (2^(k+1)) b=false:=λb hb=>by
     refine⟨(List.mem_filter.mp hb).2,?_⟩
     cases hh:hasB r c (2^(k+1)) b with
     |false=>rfl
     |true=>exact absurd (List.any_eq_true.mpr ⟨b,hb,hh⟩) hany
    rw[cnts_split hm] at h5
    have hl:0<(met boxes r c (2^(k+1))).length:=List.length_pos_iff.mpr hne
    lia
def sz:Nat->Nat
 |0=>0
 |k+1=>4*sz k+1
theorem bt_sz:∀(k:Nat) (boxes:List Row) (r c:Nat),nds (bt k boxes r c)<=sz k
 |0,boxes,r,c=>by
  unfold bt
  split
  ·exact Nat.zero_le _
  ·split<;>exact Nat.zero_le _
 |k+1,boxes,r,c=>by
  unfold bt
  split
  ·exact Nat.zero_le _
  ·split
   ·exact Nat.zero_le _
   ·refine Nat.le_trans (mk_nds _ _ _ _) ?_
    have h1:=bt_sz k (met boxes r c (2^(k+1))) r c
    have h2:=bt_sz k (met boxes r c (2^(k+1))) r (c+2^k)
    have h3:=bt_sz k (met boxes r c (2^(k+1))) (r+2^k) c
    have h4:=bt_sz k (met boxes r c (2^(k+1))) (r+2^k) (c+2^k)
    show _<=4*sz k+1
    lia
def lin (a h j:Nat):Nat->Nat->Nat
 |0,x=>0
 |k+1,x=>if j=k+1 then (if a<x+2^(k+1)/\x<a+h then 1 else 0) else lin a h j k x+lin a h j k (x+2^k)
def squ (a h c w:Nat):Nat->Nat->Nat->Nat->Nat
 |0,_,_,_=>0
 |j+1,k,x,y=>squ a h c w j k x y+lin a h (j+1) k x*lin c w (j+1) k y
theorem squ_split (a h c w:Nat):∀(j k x y:Nat),j<=k->squ a h c w j (k+1) x y=squ a h c w j k x y+squ a h c w j k x (y+2^k)+squ a h c w j k (x+2^k) y+squ a h c w j k (x+2^k) (y+2^k)
 |0,k,x,y,_=>rfl
 |j+1,k,x,y,hj=>by
  have ih:=squ_split a h c w j k x y (by lia)
  have e1:∀a h x,lin a h (j+1) (k+1) x=lin a h (j+1) k x+lin a h (j+1) k (x+2^k):=λa h x=>by
   show (if j+1=k+1 then _ else _)=_
   rw[if_neg (by lia)]
  show squ a h c w j (k+1) x y+lin a h (j+1) (k+1) x*lin c w (j+1) (k+1) y=_
  rw[ih,e1,e1]
  show _=(squ a h c w j k x y+lin a h (j+1) k x*lin c w (j+1) k y)+(squ a h c w j k x (y+2^k)+lin a h (j+1) k x*lin c w (j+1) k (y+2^k))+(squ a h c w j k (x+2^k) y+lin a h (j+1) k (x+2^k)*lin c w (j+1) k y)+(squ a h c w j k (x+2^k) (y+2^k)+lin a h (j+1) k (x+2^k)*lin c w (j+1) k (y+2^k))
  generalize lin a h (j+1) k x=p,lin a h (j+1) k (x+2^k)=p',lin c w (j+1) k y=q,lin c w (j+1) k (y+2^k)=q'
  rw[Nat.add_mul,Nat.mul_add,Nat.mul_add]
  lia
theorem cnt_squ (a c h w:Nat):∀(k x y:Nat),cnt [a,c,h,w] k x y<=squ a h c w k k x y
 |0,x,y=>Nat.le_refl _
 |k+1,x,y=>by
  show (if meetsB x y (2^(k+1)) [a,c,h,w]=true/\_ then _ else _)<=squ a h c w k (k+1) x y+lin a h (k+1) (k+1) x*lin c w (k+1) (k+1) y
  split
  ·rename_i hm
   have m:a<x+2^(k+1)/\x<a+h/\y<c+w/\c<y+2^(k+1):=of_decide_eq_true hm.1
   have e1:lin a h (k+1) (k+1) x=1:=by
    show (if k+1=k+1 then (if _ then 1 else 0) else _)=1
    rw[if_pos rfl,if_pos ⟨m.1,m.2.1⟩]
   have e2:lin c w (k+1) (k+1) y=1:=by
    show (if k+1=k+1 then (if _ then 1 else 0) else _)=1
    rw[if_pos rfl,if_pos ⟨m.2.2.2,m.2.2.1⟩]
   rw[squ_split a h c w k k x y (Nat.le_refl _),e1,e2]
   have h1:=cnt_squ a c h w k x y
   have h2:=cnt_squ a c h w k x (y+2^k)
   have h3:=cnt_squ a c h w k (x+2^k) y
   have h4:=cnt_squ a c h w k (x+2^k) (y+2^k)
   lia
  ·exact Nat.zero_le _
theorem lin_card (a h j:Nat) (hh:1<=h):∀(i u:Nat),lin a h (j+1) (j+1+i) (u*2^(j+1))<=min (u+2^i) ((a+h-1)/2^(j+1)+1)-max u (a/2^(j+1))
 |0,u=>by
  have hp:0<2^(j+1):=Nat.pow_pos (by decide)
  show (if j+1=j+1 then (if _ then 1 else 0) else _)<=_
  rw[if_pos rfl]
  split
  ·rename_i m
   have h1:a/2^(j+1)<=u:=by
    have:a/2^(j+1)<u+1:=(Nat.div_lt_iff_lt_mul hp).mpr (by rw[Nat.succ_mul];exact m.1)
    lia
   have h2:u<=(a+h-1)/2^(j+1):=(Nat.le_div_iff_mul_le hp).mpr (by lia)
   rw[Nat.pow_zero]
   lia
  ·exact Nat.zero_le _
 |i+1,u=>by
  have e:lin a h (j+1) (j+1+(i+1)) (u*2^(j+1))=lin a h (j+1) (j+1+i) (u*2^(j+1))+lin a h (j+1) (j+1+i) (u*2^(j+1)+2^(j+1+i)):=by
   show (if j+1=j+1+i+1 then _ else _)=_
   rw[if_neg (by lia)]
   rfl
  have e2:u*2^(j+1)+2^(j+1+i)=(u+2^i)*2^(j+1):=by rw[Nat.add_mul,Nat.pow_add 2 (j+1) i,Nat.mul_comm (2^i)]
  have h1:=lin_card a h j hh i u
  have h2:=lin_card a h j hh i (u+2^i)
  have e3:2^(i+1)=2^i+2^i:=by rw[Nat.pow_succ];lia
  rw[e,e2,e3]
  lia
def lim:Nat->Nat
 |1=>6
 |2=>4
 |3=>3
 |_=>2
theorem lin_lim {a h k j:Nat}(hh:1<=h) (h9:h<=9) (hj:j+1<=k):lin a h (j+1) k 0<=lim (j+1):=by
 obtain⟨i,rfl⟩:∃i,k=j+1+i:=⟨k-(j+1),by lia⟩
 have h1:=lin_card a h j hh i 0
 rw[Nat.zero_mul] at h1
 have hp:0<2^(j+1):=Nat.pow_pos (by decide)
 have h2:(a+h-1)/2^(j+1)<=a/2^(j+1)+8/2^(j+1)+1:=by
  have:=Nat.add_div (a:=a) (b:=8) hp
  have h3:(a+h-1)/2^(j+1)<=(a+8)/2^(j+1):=Nat.div_le_div_right (by lia)
  split at this<;>lia
 have h4:8/2^(j+1)+2<=lim (j+1):=by
  match j with
  |0=>decide
  |1=>decide
  |2=>decide
  |j+3=>
   have:2^(j+3+1)>=16:=by
    have:=Nat.pow_le_pow_right (n:=2) (by decide) (show 4<=j+3+1 by lia)
    simpa using this
   rw[Nat.div_eq_of_lt (by lia)]
   exact Nat.le_refl 2
 lia
def lims:Nat->Nat
 |0=>0
 |j+1=>lims j+lim (j+1)*lim (j+1)
theorem squ_lims {a h c w k:Nat}(h1:1<=h) (h2:h<=9) (w1:1<=w) (w2:w<=9):∀j,j<=k->squ a h c w j k 0 0<=lims j
 |0,_=>Nat.le_refl _
 |j+1,hj=>Nat.add_le_add (squ_lims h1 h2 w1 w2 j (by lia)) (Nat.mul_le_mul (lin_lim h1 h2 hj) (lin_lim w1 w2 hj))
theorem lims_mono:∀{j k:Nat},j<=k->lims j<=lims k
 |j,0,h=>by rw[show j=0 by lia];exact Nat.le_refl _
 |j,k+1,h=>by
  by_cases e:j=k+1
  ·rw[e];exact Nat.le_refl _
  ·exact Nat.le_trans (lims_mono (show j<=k by lia)) (Nat.le_add_right _ _)
theorem cnt_square (s i j:Nat):∀(k u v:Nat),cnt [i*2^s,j*2^s,2^s,2^s] k (u*2^k) (v*2^k)<=k
 |0,u,v=>Nat.le_refl _
 |k+1,u,v=>by
  show (if meetsB (u*2^(k+1)) (v*2^(k+1)) (2^(k+1)) [i*2^s,j*2^s,2^s,2^s]=true/\hasB (u*2^(k+1)) (v*2^(k+1)) (2^(k+1)) [i*2^s,j*2^s,2^s,2^s]=false then _ else _)<=_
  split
  ·rename_i hm
   have m:i*2^s<u*2^(k+1)+2^(k+1)/\u*2^(k+1)<i*2^s+2^s/\v*2^(k+1)<j*2^s+2^s/\j*2^s<v*2^(k+1)+2^(k+1):=of_decide_eq_true hm.1
   have nh:¬(i*2^s<=u*2^(k+1)/\u*2^(k+1)+2^(k+1)<=i*2^s+2^s/\j*2^s<=v*2^(k+1)/\v*2^(k+1)+2^(k+1)<=j*2^s+2^s):=of_decide_eq_false hm.2
   have mul_up:∀{x y m:Nat},0<m->x*m<y*m+m->x*m<=y*m:=λ{x y m} hm h=>by
    have:x<y+1:=Nat.lt_of_mul_lt_mul_right (a:=m) (by rw[Nat.succ_mul];exact h)
    exact Nat.mul_le_mul_right _ (by lia)
   have hk:s<=k:=by
    by_cases z:s<=k
    ·exact z
    ·exfalso
     apply nh
     obtain⟨d,rfl⟩:∃d,s=k+1+d:=⟨s-(k+1),by lia⟩
     have hp:0<2^(k+1):=Nat.pow_pos (by decide)
     have ep:2^(k+1+d)=2^d*2^(k+1):=by rw[Nat.pow_add,Nat.mul_comm]
     have e:∀i,i*2^(k+1+d)=i*2^d*2^(k+1):=λi=>by rw[ep,Nat.mul_assoc]
     have e':∀i,i*2^(k+1+d)+2^(k+1+d)=(i*2^d+2^d)*2^(k+1):=λi=>by rw[Nat.add_mul,<- ep,<- e]
     have low:∀u i,i*2^(k+1+d)<u*2^(k+1)+2^(k+1)->i*2^(k+1+d)<=u*2^(k+1):=λu i h=>by
      rw[e] at h ⊢
      exact mul_up hp h
     have up:∀u i,u*2^(k+1)<i*2^(k+1+d)+2^(k+1+d)->u*2^(k+1)+2^(k+1)<=i*2^(k+1+d)+2^(k+1+d):=λu i h=>by
      rw[e'] at h ⊢
      rw[<- Nat.succ_mul]
      exact Nat.mul_le_mul_right _ (Nat.lt_of_mul_lt_mul_right h)
     exact⟨low u i m.1,up u i m.2.1,low v j m.2.2.2,up v j m.2.2.1⟩
   obtain⟨d,rfl⟩:∃d,k=s+d:=⟨k-s,by lia⟩
   have hp:0<2^s:=Nat.pow_pos (by decide)
   have es:2^(s+d)=2^d*2^s:=by rw[Nat.pow_add,Nat.mul_comm]
   have ek:∀u,u*2^(s+d+1)=(2*u)*2^(s+d):=λu=>by rw[Nat.pow_succ,Nat.mul_comm (2^(s+d)) 2,<- Nat.mul_assoc,Nat.mul_comm u 2]
   have ek2:∀u,u*2^(s+d+1)+2^(s+d)=(2*u+1)*2^(s+d):=λu=>by rw[ek];exact (Nat.succ_mul _ _).symm
   have half:∀u i,i*2^s+2^s<=(2*u+1)*2^(s+d)\/(2*u+1)*2^(s+d)<=i*2^s:=λu i=>by
    rw[es,<- Nat.mul_assoc,<- Nat.succ_mul]
    rcases Nat.lt_or_ge i ((2*u+1)*2^d) with z|z
    ·exact .inl (Nat.mul_le_mul_right _ z)
    ·exact .inr (Nat.mul_le_mul_right _ z)
   have q0:∀x y,¬(x<i*2^s+2^s)\/¬(i*2^s<x+2^(s+d))\/¬(y<j*2^s+2^s)\/¬(j*2^s<y+2^(s+d))->cnt [i*2^s,j*2^s,2^s,2^s] (s+d) x y=0:=λx y hn=>by
    cases hsd:s+d with
    |zero=>rfl
    |succ k'=>
     rw[hsd] at hn
     show (if meetsB x y (2^(k'+1)) [i*2^s,j*2^s,2^s,2^s]=true/\_ then _ else _)=0
     rw[if_neg]
     rintro⟨h1,_⟩
     have m:i*2^s<x+2^(k'+1)/\x<i*2^s+2^s/\y<j*2^s+2^s/\j*2^s<y+2^(k'+1):=of_decide_eq_true h1
     rcases hn with z|z|z|z
     ·exact z m.2.1
     ·exact z m.1
     ·exact z m.2.2.1
     ·exact z m.2.2.2
   have c1:=cnt_square s i j (s+d) (2*u) (2*v)
   have c2:=cnt_square s i j (s+d) (2*u) (2*v+1)
   have c3:=cnt_square s i j (s+d) (2*u+1) (2*v)
   have c4:=cnt_square s i j (s+d) (2*u+1) (2*v+1)
   rw[ek2,ek2,ek,ek]
   have st:∀u:Nat,(2*u)*2^(s+d)+2^(s+d)=(2*u+1)*2^(s+d):=λu=>(Nat.succ_mul _ _).symm
   rcases half u i with hu|hu
   ·have z3:=q0 ((2*u+1)*2^(s+d)) ((2*v)*2^(s+d)) (.inl (by lia))
    have z4:=q0 ((2*u+1)*2^(s+d)) ((2*v+1)*2^(s+d)) (.inl (by lia))
    rcases half v j with hv|hv
    ·have z2:=q0 ((2*u)*2^(s+d)) ((2*v+1)*2^(s+d)) (.inr (.inr (.inl (by lia))))
     lia
    ·have z1:=q0 ((2*u)*2^(s+d)) ((2*v)*2^(s+d)) (.inr (.inr (.inr (by rw[st];lia))))
     lia
   ·have z1:=q0 ((2*u)*2^(s+d)) ((2*v)*2^(s+d)) (.inr (.inl (by rw[st];lia)))
    have z2:=q0 ((2*u)*2^(s+d)) ((2*v+1)*2^(s+d)) (.inr (.inl (by rw[st];lia)))
    rcases half v j with hv|hv
    ·have z4:=q0 ((2*u+1)*2^(s+d)) ((2*v+1)*2^(s+d)) (.inr (.inr (.inl (by lia))))
     lia
    ·have z3:=q0 ((2*u+1)*2^(s+d)) ((2*v)*2^(s+d)) (.inr (.inr (.inr (by rw[st];lia))))
     lia
  ·exact Nat.zero_le _
theorem boxes_few {n:Nat}{bs:List Row}(hn:n<=12) (h:Boxes n bs):nds (bt n bs 0 0)<=485:=by
 rcases h.2 with ⟨h4,_⟩|⟨h5,hs⟩
 ·refine Nat.le_trans (bt_sz n bs 0 0) ?_
  match n,h4 with
  |0,_|1,_|2,_|3,_=>decide
 ·refine Nat.le_trans (bt_nds n bs 0 0) ?_
  have each:∀b∈bs,cnt b n 0 0<=97:=λb hb=>by
   obtain⟨r,c,hh,w,rfl,h1,w1,_⟩:=h.1 b hb
   obtain⟨r',c',hh',w',e,sm⟩:=hs _ hb
   simp only[List.cons.injEq,and_true] at e
   obtain⟨rfl,rfl,rfl,rfl⟩:=e
   rcases sm with ⟨h9,w9⟩|⟨s,i,j,rfl,rfl,rfl,rfl⟩
   ·refine Nat.le_trans (cnt_squ r c hh w n 0 0) (Nat.le_trans (squ_lims h1 h9 w1 w9 n (Nat.le_refl _)) (Nat.le_trans (lims_mono hn) (by decide)))
   ·have:=cnt_square s i j n 0 0
    rw[Nat.zero_mul] at this
    lia
  unfold cnts
  have gen:∀l:List Row,(∀b∈l,cnt b n 0 0<=97)->(l.map λb=>cnt b n 0 0).sum<=l.length*97:=λl hl=>by
   induction l with
   |nil=>exact Nat.zero_le _
   |cons b l ih=>
    have h1:=hl b List.mem_cons_self
    have h2:=ih λx hx=>hl x (List.mem_cons_of_mem _ hx)
    rw[List.map_cons,List.sum_cons,List.length_cons,Nat.succ_mul]
    lia
  have:=gen bs each
  lia
end Qf
namespace Qf
open Tr
theorem filt_fst {m:Row->Bool}:∀(bs:List Nat) (rs:List Row),bs.length=rs.length ->
  ((List.range bs.length).filter (λi=>m (rs.getD i []))).map (λi=>bs.getD i 0)=((bs.zip rs).filter (λq=>m q.2)).map Prod.fst
 |[],[],_=>rfl
 |b::bs,r::rs,h=>by
  have ih:=filt_fst (m:=m) bs rs (by simpa using h)
  rw[List.length_cons,List.range_succ_eq_map,List.filter_cons,List.zip_cons_cons,List.filter_cons,List.filter_map]
  have e1:((λi=>m ((r::rs).getD i []))∘Nat.succ)=λi=>m (rs.getD i []):=by funext i;rfl
  have e2:((λi=>(b::bs).getD i 0)∘Nat.succ)=λi=>bs.getD i 0:=by funext i;rfl
  rw[e1]
  show List.map _ (if m r=true then _ else _)=List.map _ (if m r=true then _ else _)
  split
  ·rw[List.map_cons,List.map_map,e2,ih,List.map_cons];rfl
  ·rw[List.map_map,e2,ih]
theorem filt_snd {m:Row->Bool}:∀(bs:List Nat) (rs:List Row),bs.length=rs.length->((bs.zip rs).filter (λq=>m q.2)).map Prod.snd=rs.filter m
 |[],[],_=>rfl
 |b::bs,r::rs,h=>by
  have ih:=filt_snd (m:=m) bs rs (by simpa using h)
  rw[List.zip_cons_cons,List.filter_cons,List.filter_cons]
  show List.map _ (if m r=true then _ else _)=_
  split
  ·rw[List.map_cons,ih]
  ·exact ih
end Qf
namespace Pr
open PySem L2 Qf
theorem RowsL.filter {H H':Hp}{p D:Addr}{rs:List Row}{bs:List Addr}(m:Row->Bool) (hl:bs.length=rs.length) (hr:∀(i:Nat) b r,bs[i]?=some b->rs[i]?=some r->H b=some (.tup (vN r))) (s:Same H H')
  (hD:H' D=some (.lst (((List.range bs.length).filter (λi=>m (rs.getD i []))).map (λi=>V.ref (bs.getD i 0))))):RowsL H' D (rs.filter m):=by
 have e:((List.range bs.length).filter (λi=>m (rs.getD i []))).map (λi=>V.ref (bs.getD i 0))=(((bs.zip rs).filter (λq=>m q.2)).map Prod.fst).map V.ref:=by
  rw[<- filt_fst bs rs hl,List.map_map];rfl
 rw[e] at hD
 refine⟨_,hD,by rw[<- filt_snd bs rs hl,List.length_map,List.length_map],λi b r e1 e2=>?_⟩
 rw[<- filt_snd bs rs hl] at e2
 rw[List.getElem?_map] at e1 e2
 obtain⟨q,hq,rfl⟩:=Option.map_eq_some_iff.mp e1
 rw[hq] at e2
 have e3:q.2=r:=by simpa using e2
 have hm:=(List.mem_filter.mp (List.mem_of_getElem? hq)).1
 obtain⟨j,hj,ej⟩:=List.mem_iff_getElem.mp hm
 rw[List.length_zip] at hj
 have ez:(bs.zip rs)[j]?=some q:=by rw[List.getElem?_eq_getElem (by rw[List.length_zip];exact hj),ej]
 rw[List.getElem?_zip_eq_some] at ez
 rw[<- e3]
 exact s _ _ (hr j q.1 q.2 ez.1 ez.2)
section
variable {P:Program}{w:World}{K:PySem.W.Frag}{mg:Str->Option Value}{base:Heap}
abbrev nBRCS:List Str:=["_law_box_here", "_law_row", "_law_column", "_law_side"]
theorem scMeets:FnScope nBRCS nBRCS (defScope lMeets):=⟨rfl,rfl,rfl,by decide +kernel,rfl,by decide +kernel,by decide +kernel⟩
theorem scHas:FnScope nBRCS nBRCS (defScope lHas):=⟨rfl,rfl,rfl,by decide +kernel,rfl,by decide +kernel,by decide +kernel⟩
def spMeets (m:Nat->Nat->Nat->Row->Bool):Sp:=λvs H Q _=>∃(b:Addr) (bx:Row) (r c s:Nat),vs=[.ref b,.int (r:Nat),.int (c:Nat),.int (s:Nat)]/\H b=some (.tup (vN bx))/\bx.length=4/\Q (.bl (m r c s bx)) H
theorem ok_meets {f:Addr}{fd:FuncData}(F:Fun K "_law_meets" "_law_meets" lMeets f fd):FnOk P w K mg base CX0 1 f fd nBRCS (spMeets meetsB):=by
 refine F.ok scMeets (λvs H Q E h=>?_) (λcdv A outer s H vs Q E hr h=>?_)
 ·obtain⟨b,bx,r,c,s,rfl,_⟩:=h
  rfl
 ·obtain⟨b,bx,r,c,s,rfl,hb,h4,q⟩:=h
  obtain⟨x,y,h',w',rfl⟩:=four_of h4
  refine seqE ⟨_,⟨ps_if (pw_or (pt_cmpR op_le (pe_op op_add (pv 1) (pv 3)) (pe_ix ix_tup (pv 0) pe_int (λ_ _=>rfl)) (nomark _))
   (pw_or1 (pt_cmpR op_le (pe_op op_add (pe_ix ix_tup (pv 0) pe_int (λ_ _=>rfl)) (pe_ix ix_tup (pv 0) pe_int (λ_ _=>rfl))) (pv 1) (nomark _)))).pt (pss_one (ps_ret pe_bl)) pss_nil⟩,?_⟩
  refine lastE ⟨_,⟨ps_ret (pe_and (pe_cmpR op_lt (pv 2) (pe_op op_add (pe_ix ix_tup (pv 0) pe_int (λ_ _=>rfl)) (pe_ix ix_tup (pv 0) pe_int (λ_ _=>rfl))) (nomark _)) (pe_one (pe_cmpR op_lt (pe_ix ix_tup (pv 0) pe_int (λ_ _=>rfl)) (pe_op op_add (pv 2) (pv 3)) (nomark _))))⟩,?_⟩
  have em:meetsB r c s [x,y,h',w']=decide (x<r+s/\r<x+h'/\c<y+w'/\y<c+s):=rfl
  rw[em] at q
  refine⟨_,rfl,_,rfl,_,_,rfl,rfl,_,rfl,b,_,0,.int (x:Nat),rfl,rfl,SqT.of hb,rfl,_,_,rfl,rfl,_,rfl,?_⟩
  refine ite2 (λhc=>?_) (λhc=>?_)
  ·have:=of_decide_eq_true hc
   rw[decide_eq_false (by lia)] at q
   exact iteT q
  ·have h1:=of_decide_eq_false (Bool.eq_false_iff.mpr hc)
   refine⟨_,rfl,b,_,0,.int (x:Nat),rfl,rfl,SqT.of hb,rfl,_,rfl,b,_,2,.int (h':Nat),rfl,rfl,SqT.of hb,rfl,_,_,rfl,rfl,_,rfl,_,_,rfl,rfl,_,rfl,?_⟩
   refine ite2 (λhc=>?_) (λhc=>?_)
   ·have:=of_decide_eq_true hc
    rw[decide_eq_false (by lia)] at q
    exact q
   ·have h2:=of_decide_eq_false (Bool.eq_false_iff.mpr hc)
    refine⟨_,rfl,_,rfl,b,_,1,.int (y:Nat),rfl,rfl,SqT.of hb,rfl,_,rfl,b,_,3,.int (w':Nat),rfl,rfl,SqT.of hb,rfl,_,_,rfl,rfl,_,_,rfl,rfl,_,rfl,?_⟩
    refine ite2 (λhc=>?_) (λhc=>?_)
    ·have h3:=of_decide_eq_true hc
     refine⟨_,rfl,b,_,1,.int (y:Nat),rfl,rfl,SqT.of hb,rfl,_,rfl,_,rfl,_,_,rfl,rfl,_,_,rfl,rfl,?_⟩
     have e:decide ((y:Int)<(c:Int)+(s:Int))=decide (x<r+s/\r<x+h'/\c<y+w'/\y<c+s):=by
      congr 1
      exact propext ⟨λz=>⟨by lia,by lia,by lia,by lia⟩,λz=>by lia⟩
     show Q (.bl (decide ((y:Int)<(c:Int)+(s:Int)))) H
     rw[e]
     exact q
    ·have h3:=of_decide_eq_false (Bool.eq_false_iff.mpr hc)
     rw[decide_eq_false (by lia)] at q
     exact q
theorem ok_has {f:Addr}{fd:FuncData}(F:Fun K "_law_has" "_law_has" lHas f fd):FnOk P w K mg base CX0 1 f fd nBRCS (spMeets hasB):=by
 refine F.ok scHas (λvs H Q E h=>?_) (λcdv A outer s H vs Q E hr h=>?_)
 ·obtain⟨b,bx,r,c,s,rfl,_⟩:=h
  rfl
 ·obtain⟨b,bx,r,c,s,rfl,hb,h4,q⟩:=h
  obtain⟨x,y,h',w',rfl⟩:=four_of h4
  refine seqE ⟨_,⟨ps_if (pw_or (pt_cmpR op_lt (pv 1) (pe_ix ix_tup (pv 0) pe_int (λ_ _=>rfl)) (nomark _))
   (pw_or1 (pt_cmpR op_lt (pe_op op_add (pe_ix ix_tup (pv 0) pe_int (λ_ _=>rfl)) (pe_ix ix_tup (pv 0) pe_int (λ_ _=>rfl))) (pe_op op_add (pv 1) (pv 3)) (nomark _)))).pt (pss_one (ps_ret pe_bl)) pss_nil⟩,?_⟩
  refine lastE ⟨_,⟨ps_ret (pe_and (pe_cmpR op_le (pe_ix ix_tup (pv 0) pe_int (λ_ _=>rfl)) (pv 2) (nomark _)) (pe_one (pe_cmpR op_le (pe_op op_add (pv 2) (pv 3)) (pe_op op_add (pe_ix ix_tup (pv 0) pe_int (λ_ _=>rfl)) (pe_ix ix_tup (pv 0) pe_int (λ_ _=>rfl))) (nomark _))))⟩,?_⟩
  have em:hasB r c s [x,y,h',w']=decide (x<=r/\r+s<=x+h'/\y<=c/\c+s<=y+w'):=rfl
  rw[em] at q
  refine⟨_,rfl,_,rfl,b,_,0,.int (x:Nat),rfl,rfl,SqT.of hb,rfl,_,_,rfl,rfl,_,rfl,?_⟩
  refine ite2 (λhc=>?_) (λhc=>?_)
  ·have:=of_decide_eq_true hc
   rw[decide_eq_false (by lia)] at q
   exact iteT q
  ·have h1:=of_decide_eq_false (Bool.eq_false_iff.mpr hc)
   refine⟨_,rfl,b,_,0,.int (x:Nat),rfl,rfl,SqT.of hb,rfl,_,rfl,b,_,2,.int (h':Nat),rfl,rfl,SqT.of hb,rfl,_,_,rfl,rfl,_,rfl,_,rfl,_,_,rfl,rfl,_,_,rfl,rfl,_,rfl,?_⟩
   refine ite2 (λhc=>?_) (λhc=>?_)
   ·have:=of_decide_eq_true hc
    rw[decide_eq_false (by lia)] at q
    exact q
   ·have h2:=of_decide_eq_false (Bool.eq_false_iff.mpr hc)
    refine⟨_,rfl,b,_,1,.int (y:Nat),rfl,rfl,SqT.of hb,rfl,_,rfl,_,_,rfl,rfl,_,rfl,?_⟩
    refine ite2 (λhc=>?_) (λhc=>?_)
    ·have h3:=of_decide_eq_true hc
     refine⟨_,rfl,_,rfl,_,_,rfl,rfl,_,rfl,b,_,1,.int (y:Nat),rfl,rfl,SqT.of hb,rfl,_,rfl,b,_,3,.int (w':Nat),rfl,rfl,SqT.of hb,rfl,_,_,rfl,rfl,_,_,rfl,rfl,?_⟩
     have e:decide ((c:Int)+(s:Int)<=(y:Int)+(w':Int))=decide (x<=r/\r+s<=x+h'/\y<=c/\c+s<=y+w'):=by
      congr 1
      exact propext ⟨λz=>⟨by lia,by lia,by lia,by lia⟩,λz=>by lia⟩
     show Q (.bl (decide ((c:Int)+(s:Int)<=(y:Int)+(w':Int)))) H
     rw[e]
     exact q
    ·have h3:=of_decide_eq_false (Bool.eq_false_iff.mpr hc)
     rw[decide_eq_false (by lia)] at q
     exact q
end
end Pr
namespace Qf
open Tr
theorem post_in {L:List Tr}{t:Tr}(h:In L t):post t L=L:=by
 cases t with
 |z=>rfl
 |o=>rfl
 |nd a b c d=>
  have hm:Tr.nd a b c d∈L:=by rcases h with h|h|h;cases h;cases h;exact h
  unfold post
  rw[if_pos hm]
theorem rowsOf_app {L:List Tr}(h:Ord L){t:Tr}(hk:∀s∈kids t,In L s):rowsOf (L++[t])=rowsOf L++[(kids t).map (name L)]:=by
 unfold rowsOf
 rw[List.map_append]
 congr 1
 ·refine List.map_congr_left λu hu=>?_
  obtain⟨i,hi,e⟩:=List.mem_iff_getElem.mp hu
  exact List.map_congr_left λs hs=>name_app (kid_in h (i:=i) (t:=u) (by rw[List.getElem?_eq_getElem hi,e]) hs).1 h
 ·show[(kids t).map (name (L++[t]))]=_
  congr 1
  exact List.map_congr_left λs hs=>name_app (hk s hs) h
theorem row_mem {L:List Tr}(h:Ord L){a b c d:Tr}(hk:∀s∈kids (.nd a b c d),In L s):(kids (.nd a b c d)).map (name L)∈rowsOf L<->Tr.nd a b c d∈L:=by
 constructor
 ·intro hm
  obtain⟨i,hi,e⟩:=List.mem_iff_getElem.mp hm
  obtain⟨t,ht,er⟩:=rowsOf_get (i:=i) (r:=(kids (.nd a b c d)).map (name L)) (by rw[List.getElem?_eq_getElem hi,e])
  have:=kids_inj ⟨a,b,c,d,rfl⟩ (h.ch i t ht).1 (map_name_inj h hk (λs hs=>(kid_in h ht hs).1) er)
  rw[this]
  exact List.mem_of_getElem? ht
 ·intro hm
  obtain⟨i,hi,e⟩:=List.mem_iff_getElem.mp hm
  exact List.mem_of_getElem? (rowsOf_at (i:=i) (t:=.nd a b c d) (by rw[List.getElem?_eq_getElem hi,e]))
theorem row_idx {L:List Tr}(h:Ord L){i:Nat}{t:Tr}(e:L[i]?=some t):(rowsOf L).idxOf ((kids t).map (name L))=i:=by
 have hl:=(List.getElem?_eq_some_iff.mp e).1
 have e2:=rowsOf_at e
 have hl2:i<(rowsOf L).length:=by rw[rowsOf_len];exact hl
 have e3:=(List.getElem?_eq_some_iff.mp e2).2
 rw[<- e3]
 exact (rowsOf_nodup h).idxOf_getElem i hl2
end Qf
namespace Pr
open PySem L2 Qf
theorem tK_get {H:Hp}{e u:Addr}{L:List Tr}(hO:Tr.Ord L){a b c d:Tr}(hm:Tr.nd a b c d∈L) (he:H e=some (.dT (tK (Tr.rowsOf L)))) (hu:H u=some (.tup (vN [Tr.name L a,Tr.name L b,Tr.name L c,Tr.name L d]))) :
  DGet H e (.ref u) (some (.int (Tr.name L (.nd a b c d):Nat))):=by
 obtain⟨i,hi,ei⟩:=List.mem_iff_getElem.mp hm
 have ei':L[i]?=some (.nd a b c d):=by rw[List.getElem?_eq_getElem hi,ei]
 have hix:=row_idx hO ei'
 have hmr:(Tr.kids (.nd a b c d)).map (Tr.name L)∈Tr.rowsOf L:=List.mem_of_getElem? (Tr.rowsOf_at ei')
 have:=DGet.t (k:=keyN ((Tr.kids (.nd a b c d)).map (Tr.name L))) he (by rw[keyN_V];exact hu)
 rw[tK_val,if_pos hmr,hix] at this
 rw[Tr.name_at hO ei']
 exact this
end Pr
namespace Qf
open Tr
def qt (k:Nat) (m:List Row) (r c i:Nat):Tr:=bt k m (r+2^k*(i/2)) (c+2^k*(i%2))
def qL (k:Nat) (m:List Row) (r c:Nat) (L:List Tr):Nat->List Tr
 |0=>L
 |i+1=>post (qt k m r c i) (qL k m r c L i)
theorem qL_ord {k:Nat}{m:List Row}{r c:Nat}{L:List Tr}(h:Ord L):∀i,Ord (qL k m r c L i)
 |0=>h
 |i+1=>(post_ord _ _ (qL_ord h i)).1
theorem qL_in {k:Nat}{m:List Row}{r c:Nat}{L:List Tr}(h:Ord L){j:Nat}:∀i,j<i->In (qL k m r c L i) (qt k m r c j)
 |i+1,hj=>by
  by_cases e:j=i
  ·rw[e];exact (post_ord _ _ (qL_ord h i)).2
  ·exact (qL_in h i (by lia)).post _
theorem qL_name {k:Nat}{m:List Row}{r c:Nat}{L:List Tr}(h:Ord L){i:Nat}{t:Tr}(ht:In (qL k m r c L i) t):name (qL k m r c L (i+1)) t=name (qL k m r c L i) t:=by
 obtain⟨s,e⟩:=post_ext (qt k m r c i) (qL k m r c L i)
 show name (post _ _) t=_
 rw[e]
 exact name_app ht (qL_ord h i)
theorem qL_len {k:Nat}{m:List Row}{r c:Nat}{L:List Tr}:∀i,(qL k m r c L i).length<=L.length+i*sz k
 |0=>by show L.length<=_;lia
 |i+1=>by
  have h1:=qL_len (k:=k) (m:=m) (r:=r) (c:=c) (L:=L) i
  have h2:=post_le (qt k m r c i) (qL k m r c L i)
  have h3:=bt_sz k m (r+2^k*(i/2)) (c+2^k*(i%2))
  show (post _ _).length<=_
  rw[Nat.succ_mul]
  unfold qt at h2
  unfold qt
  lia
def names (k:Nat) (m:List Row) (r c:Nat) (L:List Tr) (i:Nat):List Nat:=(List.range i).map λj=>name (qL k m r c L i) (qt k m r c j)
theorem names_succ {k:Nat}{m:List Row}{r c:Nat}{L:List Tr}(h:Ord L) (i:Nat):names k m r c L (i+1)=names k m r c L i++[name (post (qt k m r c i) (qL k m r c L i)) (qt k m r c i)]:=by
 unfold names
 rw[List.range_succ,List.map_append]
 congr 1
 exact List.map_congr_left λj hj=>qL_name h (qL_in h i (List.mem_range.mp hj))
theorem bt_qt (k:Nat) (boxes:List Row) (r c:Nat) (h1:met boxes r c (2^(k+1))≠[]) (h2:(met boxes r c (2^(k+1))).any (hasB r c (2^(k+1)))=false) :
  bt (k+1) boxes r c=mk (qt k (met boxes r c (2^(k+1))) r c 0) (qt k (met boxes r c (2^(k+1))) r c 1) (qt k (met boxes r c (2^(k+1))) r c 2) (qt k (met boxes r c (2^(k+1))) r c 3):=by
 unfold bt
 rw[if_neg h1,if_neg (by rw[h2];decide)]
 unfold qt
 simp
theorem met_len {boxes:List Row}{r c s:Nat}:(met boxes r c s).length<=boxes.length:=List.length_filter_le _ _
theorem met_has {boxes:List Row}{r c:Nat}(h:met boxes r c 1≠[]):(met boxes r c 1).any (hasB r c 1)=true:=by
 obtain⟨b,hb⟩:=List.exists_mem_of_ne_nil _ h
 refine List.any_eq_true.mpr ⟨b,hb,?_⟩
 have m:b.getD 0 0<r+1/\r<b.getD 0 0+b.getD 2 0/\c<b.getD 1 0+b.getD 3 0/\b.getD 1 0<c+1:=of_decide_eq_true (List.mem_filter.mp hb).2
 exact decide_eq_true ⟨by lia,by lia,by lia,by lia⟩
theorem sz_le:∀{k n:Nat},k<=n->sz k<=sz n
 |k,0,h=>by rw[show k=0 by lia];exact Nat.le_refl _
 |k,n+1,h=>by
  by_cases e:k=n+1
  ·rw[e];exact Nat.le_refl _
  ·have:=sz_le (show k<=n by lia)
   show _<=4*sz n+1
   lia
end Qf
namespace L2
open PySem
theorem compC_rng {H:Hp}{n:Nat}{te:TE}{σ:St}{Fin:Hp->Prop}{D:Addr}(Iv:Nat->List V->Hp->Prop) (hsz:n<sizeLine) (i0:Iv 0 [] (upd H D (.lst []))) (hD:∀i xs H2,Iv i xs H2->H2 D=some (.lst xs)/\xs.length<=i)
  (step:∀i xs H2,i<n->Iv i xs H2->∀Q2:VK,(∀v H3,H3 D=some (.lst xs)->Iv (i+1) (xs++[v]) (upd H3 D (.lst (xs++[v])))->Q2 v H3)->te (some (.int (0+(i:Int)))::σ) H2 Q2)
  (fin:∀xs H2,Iv n xs H2->Fin H2) :
  ∃W:Nat->Nat->List V->Hp->Prop,(∃m,W 0 m [] (upd H D (.lst []))) /\
   ∀i m xs H2,W i m xs H2->H2 D=some (.lst xs)/\xs.length<sizeLine/\(((Itr 0 n).stop i H2/\Fin H2)\/((Itr 0 n).go i H2/\∀y H3,(Itr 0 n).yld i H2 y H3->∀os:St,os.length=1 ->
    gName 0 y (os++σ) H3 λσ4 H4=>ttYes σ4 H4 λb H5=>if b=true then te σ4 H5 λv H6=>H6 D=some (.lst xs)/\∃m',m'<m/\W (i+1) m' (xs++[v]) (upd H6 D (.lst (xs++[v]))) else ∃m',m'<m/\W (i+1) m' xs H5)):=by
 obtain⟨W,w0,w⟩:=comp_rng (te:=te) (σ:=σ) Iv hsz i0 hD step fin
 refine⟨W,w0,λi m xs H2 h=>?_⟩
 obtain⟨h1,h2,h3⟩:=w i m xs H2 h
 refine⟨h1,h2,h3.imp id λ⟨g,y⟩=>⟨g,λx H3 hx os ho=>?_⟩⟩
 match os,ho with
 |[o],_=>
  show (if (true:Bool)=true then te (some x::σ) H3 (λv H6=>H6 D=some (.lst xs)/\∃m',m'<m/\W (i+1) m' (xs++[v]) (upd H6 D (.lst (xs++[v])))) else ∃m',m'<m/\W (i+1) m' xs H3)
  rw[if_pos rfl]
  exact y x H3 hx
end L2
namespace Pr
open PySem L2 Qf
section
variable {P:Program}{w:World}{K:PySem.W.Frag}{mg:Str->Option Value}{base:Heap}
abbrev nNum5:List Str:=["_law_rows", "_law_boxes_here", "_law_row", "_law_column", "_law_side"]
abbrev nNum:List Str:=["_law_rows", "_law_boxes_here", "_law_row", "_law_column", "_law_side", "_law_met", "_law_half", "_law_quarters"]
theorem scNum:FnScope nNum nNum5 (defScope lNumber):=⟨rfl,rfl,rfl,by decide +kernel,rfl,by decide +kernel,by decide +kernel⟩
def spNum (k:Nat):Sp:=λvs H Q _=>∃(e bp:Addr) (boxes:List Row) (r c:Nat) (L:List Tr),vs=[.ref e,.ref bp,.int (r:Nat),.int (c:Nat),.int ((2^k:Nat):Int)]/\RowsL H bp boxes/\(∀b∈boxes,b.length=4)/\boxes.length<=900/\bp≠e/\Tr.Ord L /\
 H e=some (.dT (tK (Tr.rowsOf L)))/\L.length+sz k<=6000000/\∀H',But e H H'->H' e=some (.dT (tK (Tr.rowsOf (Tr.post (bt k boxes r c) L))))->Q (.int (Tr.name (Tr.post (bt k boxes r c) L) (bt k boxes r c):Nat)) H'
theorem ok_num {f fM fH:Addr}{fd fdM fdH:FuncData}(F:Fun K "_law_number" "_law_number" lNumber f fd) (B:Blt mg) (hN:mg "_law_number" = some (.ref f)) (bN:Binds K fd nNum5 [])
  (hM:mg "_law_meets" = some (.ref fM)) (FM:Fun K "_law_meets" "_law_meets" lMeets fM fdM) (bM:Binds K fdM nBRCS [])
  (hH:mg "_law_has" = some (.ref fH)) (FH:Fun K "_law_has" "_law_has" lHas fH fdH) (bH:Binds K fdH nBRCS []):∀k,k<=12->FnOk P w K mg base CX0 (k+2) f fd nNum5 (spNum k):=by
 have GM:FnOk P w K mg base CX0 1 fM fdM nBRCS (spMeets meetsB):=ok_meets FM
 have GH:FnOk P w K mg base CX0 1 fH fdH nBRCS (spMeets hasB):=ok_has FH
 intro k
 induction k with
 |zero=>
  intro _
  refine F.ok scNum (λvs H Q E h=>?_) (λcdv A outer s H vs Q E hr h=>?_)
  ·obtain⟨e,bp,boxes,r,c,L,rfl,_⟩:=h
   rfl
  ·obtain⟨e,bp,boxes,r,c,L,rfl,hB,h4,hbl,hbe,hO,he,hLs,q⟩:=h
   have hr1:Room 1 _:=hr.mono (by decide)
   refine seqE ⟨_,⟨ps_set (i:=5) scNum.nd rfl (by first|exact Or.inl rfl|exact Or.inr rfl) (pe_compIf nNum (defScope lNumber) rfl rfl rfl scNum.nd (pi_list (pv 1))
    (λcl C fp s₀ H₀=>pt_val (pe_call GM hr1 (by rfl) hM FM.kp bM .nil pass0 (pa_cons (pv 0) (pa_cons (pv 3) (pa_cons (pv 4) (pa_cons (pv 5) pa_nil)))))) (λcl C fp s₀ H₀=>pv 0))⟩,?_⟩
   refine seqE ⟨_,⟨ps_if (PW.pt (pw_or (pt_cmpR (op_eqD hr) (pv 5) (pe_lst pa_nil) (nomark _)) (pw_or1 (pt_val (pe_callB (call_anyL rfl) (by rfl) B.any PyProof.Rows.boot_any (pa_cons (pe_compB nNum (defScope lNumber) rfl rfl rfl scNum.nd (pi_list (pv 5))
    (λcl C fp s₀ H₀=>pe_call GH hr1 (by rfl) hH FH.kp bH .nil pass0 (pa_cons (pv 0) (pa_cons (pv 3) (pa_cons (pv 4) (pa_cons (pv 5) pa_nil)))))) pa_nil))))))
    (pss_one (ps_ret (pe_callTy call_int1 (by rfl) B.int PyProof.Rows.boot_int (pa_cons (pe_cmpR (op_neD hr) (pv 5) (pe_lst pa_nil) (nomark _)) pa_nil)))) pss_nil⟩,?_⟩
   refine⟨_,pss_never,?_⟩
   obtain⟨bs,hb,hlen,hrow⟩:=id hB
   have hlb:(bs.map V.ref).length=bs.length:=List.length_map ..
   refine⟨_,rfl,bp,rfl,⟨_,SqL.of hb⟩,λD hD=>compG_walk hD (λi=>meetsB r c (2^0) (boxes.getD i [])) (λi=>.ref (bs.getD i 0)) (goes_lst (K:=K) hb) (by rw[hlb];exact small1000 (by lia)) ?_ ?_⟩
   ·intro j x H2 hj hx s2 os ho Q1 Q2 q1 q2
    rw[List.getElem?_map] at hx
    obtain⟨b,hbj,rfl⟩:=Option.map_eq_some_iff.mp hx
    have hj2:j<boxes.length:=by rw[hlb] at hj;lia
    have hg:boxes[j]?=some (boxes.getD j []):=by rw[List.getD_eq_getElem?_getD,List.getElem?_eq_getElem hj2];rfl
    have eb:bs.getD j 0=b:=by rw[List.getD_eq_getElem?_getD,hbj];rfl
    rw[eb] at q2
    match os,ho with
    |[o1],_=>
     refine⟨_,rfl,_,rfl,_,rfl,_,rfl,b,boxes.getD j [],r,c,2^0,rfl,s2 _ _ (hrow j b _ hbj hg),h4 _ (List.mem_of_getElem? hg),_,rfl,?_⟩
     refine ite2 (λhc=>⟨_,rfl,q2 hc H2 (Same.refl _)⟩) (λhc=>q1 (Bool.eq_false_iff.mpr hc) H2 (Same.refl _))
   ·intro H2 s2 hD2
    rw[hlb] at hD2
    have hRm:RowsL H2 D (met boxes r c (2^0)):=RowsL.filter (p:=bp) (meetsB r c (2^0)) hlen hrow s2 hD2
    have hml:(met boxes r c (2^0)).length<=900:=Nat.le_trans met_len hbl
    have hm4:∀b∈met boxes r c (2^0),b.length=4:=λb hb=>h4 b (List.mem_filter.mp hb).1
    have he2:=s2 _ _ he
    have nDe:D≠e:=(ne_of_none he hD).symm
    have etree:bt 0 boxes r c=bt 0 boxes r c:=rfl
    refine⟨_,rfl,(by show 0<=sizeLine;decide),λl hl=>?_⟩
    refine⟨_,_,rowsL_data (hRm.same (sameU hl)),.lst upd_same .nil,rows_lay _,rfl,rowsL_depth _,_,rfl,?_⟩
    rw[eqv_nil]
    have S3:Same H (upd H2 l (.lst [])):=s2.trans (sameU hl)
    have hR3:=hRm.same (sameU (o:=.lst []) hl)
    have he3:=keepU (u:=.lst []) he2 hl
    generalize upd H2 l (.lst [])=H3 at S3 hR3 he3
    cases hmt:met boxes r c (2^0) with
    |nil=>
     have hT:bt 0 boxes r c=.z:=by
      unfold bt
      simp only[Nat.pow_zero] at hmt
      rw[if_pos hmt]
     rw[hT] at q
     rw[hmt] at hR3
     refine iteT (iteT ?_)
     refine⟨_,rfl,(by show 0<=sizeLine;decide),λl2 hl2=>?_⟩
     refine⟨_,_,rowsL_data (hR3.same (sameU hl2)),.lst upd_same .nil,rows_lay _,rfl,rowsL_depth _,.inr ⟨_,rfl,?_⟩⟩
     exact q _ (But.of (S3.trans (sameU hl2))) (keepU he3 hl2)
    |cons b0 ml=>
     have hne:met boxes r c (2^0)≠[]:=by rw[hmt];exact λz=>nomatch z
     rw[<- hmt]
     clear hmt
     have hie:(met boxes r c (2^0)).isEmpty=false:=by
      cases hq:met boxes r c (2^0) with
      |nil=>exact absurd hq hne
      |cons _ _=>rfl
     rw[hie]
     refine iteF ?_
     obtain⟨ms,hms,hmsl,hmrow⟩:=id hR3
     have hml2:(ms.map V.ref).length=(met boxes r c (2^0)).length:=by rw[List.length_map,hmsl]
     refine⟨_,rfl,D,rfl,⟨_,SqL.of hms⟩,λD2 hDD=>comp_walk hDD (λi y _=>y=.bl (hasB r c (2^0) ((met boxes r c (2^0)).getD i []))) (goes_lst (K:=K) hms) (by rw[hml2];exact small1000 (by lia)) (λ_ _ _ _ _ _ h=>h) ?_ ?_⟩
     ·intro j x H4 hj hx s4 Q' hq
      rw[List.getElem?_map] at hx
      obtain⟨b,hbj,rfl⟩:=Option.map_eq_some_iff.mp hx
      have hj2:j<(met boxes r c (2^0)).length:=by rw[hml2] at hj;exact hj
      have hg:(met boxes r c (2^0))[j]?=some ((met boxes r c (2^0)).getD j []):=by rw[List.getD_eq_getElem?_getD,List.getElem?_eq_getElem hj2];rfl
      exact⟨_,rfl,_,rfl,_,rfl,_,rfl,b,_,r,c,2^0,rfl,s4 _ _ (hmrow j b _ hbj hg),hm4 _ (List.mem_of_getElem? hg),hq _ _ (Same.refl _) rfl⟩
     ·intro ys H4 s4 hd4 hly hys
      have ey:ys=((met boxes r c (2^0)).map (hasB r c (2^0))).map V.bl:=by
       refine list_ext (by rw[hly,hml2,List.length_map,List.length_map]) λj x hx=>?_
       have hj2:j<(met boxes r c (2^0)).length:=by
        have:=(List.getElem?_eq_some_iff.mp hx).1
        rw[hly,hml2] at this
        exact this
       rw[hys j x hx,List.getElem?_map,List.getElem?_map,List.getElem?_eq_getElem hj2,List.getD_eq_getElem?_getD,List.getElem?_eq_getElem hj2]
       rfl
      subst ey
      refine⟨D2,_,rfl,hd4,_,rfl,?_⟩
      have eany:((met boxes r c (2^0)).map (hasB r c (2^0))).any id=(met boxes r c (2^0)).any (hasB r c (2^0)):=by rw[List.any_map];rfl
      rw[eany]
      have S4:=S3.trans s4
      have hR4:=hR3.same s4
      have he4:=s4 _ _ he3
      cases hh:(met boxes r c (2^0)).any (hasB r c (2^0)) with
      |true=>
       have hT:bt 0 boxes r c=.o:=by
        unfold bt
        simp only[Nat.pow_zero] at hne hh
        rw[if_neg hne,if_pos hh]
       rw[hT] at q
       refine iteT ?_
       refine⟨_,rfl,(by show 0<=sizeLine;decide),λl2 hl2=>?_⟩
       refine⟨_,_,rowsL_data (hR4.same (sameU hl2)),.lst upd_same .nil,rows_lay _,rfl,rowsL_depth _,.inr ⟨_,rfl,?_⟩⟩
       rw[eqv_nil,hie]
       exact q _ (But.of (S4.trans (sameU hl2))) (keepU he4 hl2)
      |false=>
       exfalso
       simp only[Nat.pow_zero] at hne hh
       rw[met_has hne] at hh
       cases hh
 |succ k ih=>
  intro hk
  refine F.ok scNum (λvs H Q E h=>?_) (λcdv A outer s H vs Q E hr h=>?_)
  ·obtain⟨e,bp,boxes,r,c,L,rfl,_⟩:=h
   rfl
  ·obtain⟨e,bp,boxes,r,c,L,rfl,hB,h4,hbl,hbe,hO,he,hLs,q⟩:=h
   have hr1:Room 1 _:=hr.mono (by lia)
   have hu:A.units+3+1<cLine:=by
    have h2:A.units+3+16*(k+2)+200<cLine:=hr.un
    lia
   refine seqE ⟨_,⟨ps_set (i:=5) scNum.nd rfl (by first|exact Or.inl rfl|exact Or.inr rfl) (pe_compIf nNum (defScope lNumber) rfl rfl rfl scNum.nd (pi_list (pv 1))
    (λcl C fp s₀ H₀=>pt_val (pe_call GM hr1 (by rfl) hM FM.kp bM .nil pass0 (pa_cons (pv 0) (pa_cons (pv 3) (pa_cons (pv 4) (pa_cons (pv 5) pa_nil)))))) (λcl C fp s₀ H₀=>pv 0))⟩,?_⟩
   refine seqE ⟨_,⟨ps_if (PW.pt (pw_or (pt_cmpR (op_eqD hr) (pv 5) (pe_lst pa_nil) (nomark _)) (pw_or1 (pt_val (pe_callB (call_anyL rfl) (by rfl) B.any PyProof.Rows.boot_any (pa_cons (pe_compB nNum (defScope lNumber) rfl rfl rfl scNum.nd (pi_list (pv 5))
    (λcl C fp s₀ H₀=>pe_call GH hr1 (by rfl) hH FH.kp bH .nil pass0 (pa_cons (pv 0) (pa_cons (pv 3) (pa_cons (pv 4) (pa_cons (pv 5) pa_nil)))))) pa_nil))))))
    (pss_one (ps_ret (pe_callTy call_int1 (by rfl) B.int PyProof.Rows.boot_int (pa_cons (pe_cmpR (op_neD hr) (pv 5) (pe_lst pa_nil) (nomark _)) pa_nil)))) pss_nil⟩,?_⟩
   refine seqE ⟨_,⟨ps_set (i:=6) scNum.nd rfl (by first|exact Or.inl rfl|exact Or.inr rfl) (pe_op op_fdiv (pv 4) pe_int)⟩,?_⟩
   refine seqE ⟨_,⟨ps_setC (i0:=7) nNum (defScope lNumber) rfl rfl rfl scNum.nd rfl rfl (pi_range1 (by rfl) B.range (pa_cons pe_int pa_nil)) (λcl C fp s₀ H₀=>PEb.go ⟨pe_call (ih (by lia)) hr (by rfl) hN F.kp bN .nil pass0 (Ars2.go (.cons ⟨pv 1⟩ (.cons ⟨pv 6⟩
    (.cons ⟨pe_op op_add (pv 3) (pe_op op_mul (pv 7) (pe_op op_fdiv (pv 0) pe_int))⟩ (.cons ⟨pe_op op_add (pv 4) (pe_op op_mul (pv 7) (pe_op op_mod (pv 0) pe_int))⟩ (.cons ⟨pv 7⟩ .nil rfl) rfl) rfl) rfl) rfl))⟩)⟩,?_⟩
   refine seqE ⟨_,⟨ps_if (pt_cmpR (op_inD hr) (pv 7) (PEb.go ⟨pe_tup (Ars2.go (.cons ⟨pe_lst (Ars2.go (.cons pe_intb (.cons pe_intb (.cons pe_intb (.cons pe_intb .nil rfl) rfl) rfl) rfl))⟩ (.cons ⟨pe_lst (Ars2.go (.cons pe_intb (.cons pe_intb (.cons pe_intb (.cons pe_intb .nil rfl) rfl) rfl) rfl))⟩ .nil rfl) rfl))⟩) (by first|rfl|decide|with_unfolding_all rfl))
    (pss_one (ps_ret (pe_ix ix_list (pv 7) pe_int (λ_ _=>rfl)))) pss_nil⟩,?_⟩
   refine seqE ⟨_,⟨ps_if (pt_cmp (pc_dnotin hu (pe_callTy (tupO K rfl) (by rfl) B.tuple PyProof.Rows.boot_tuple (pa_cons (pv 7) pa_nil)) (pv 0)))
    (pss_one (ps_dput hu (pv 0) (pe_callTy (tupO K rfl) (by rfl) B.tuple PyProof.Rows.boot_tuple (pa_cons (pv 7) pa_nil)) (pe_op op_add (pe_callB call_lenT (by rfl) B.len PySem.boot_len (pa_cons (pv 0) pa_nil)) pe_int) (by rfl))) pss_nil⟩,?_⟩
   refine lastE ⟨_,⟨ps_ret (pe_dget hu (pv 0) (pe_callTy (tupO K rfl) (by rfl) B.tuple PyProof.Rows.boot_tuple (pa_cons (pv 7) pa_nil)) (λ_ _=>rfl))⟩,?_⟩
   obtain⟨bs,hb,hlen,hrow⟩:=id hB
   have hlb:(bs.map V.ref).length=bs.length:=List.length_map ..
   refine⟨_,rfl,bp,rfl,⟨_,SqL.of hb⟩,λD hD=>compG_walk hD (λi=>meetsB r c (2^(k+1)) (boxes.getD i [])) (λi=>.ref (bs.getD i 0)) (goes_lst (K:=K) hb) (by rw[hlb];exact small1000 (by lia)) ?_ ?_⟩
   ·intro j x H2 hj hx s2 os ho Q1 Q2 q1 q2
    rw[List.getElem?_map] at hx
    obtain⟨b,hbj,rfl⟩:=Option.map_eq_some_iff.mp hx
    have hj2:j<boxes.length:=by rw[hlb] at hj;lia
    have hg:boxes[j]?=some (boxes.getD j []):=by rw[List.getD_eq_getElem?_getD,List.getElem?_eq_getElem hj2];rfl
    have eb:bs.getD j 0=b:=by rw[List.getD_eq_getElem?_getD,hbj];rfl
    rw[eb] at q2
    match os,ho with
    |[o1],_=>
     refine⟨_,rfl,_,rfl,_,rfl,_,rfl,b,boxes.getD j [],r,c,2^(k+1),rfl,s2 _ _ (hrow j b _ hbj hg),h4 _ (List.mem_of_getElem? hg),_,rfl,?_⟩
     refine ite2 (λhc=>⟨_,rfl,q2 hc H2 (Same.refl _)⟩) (λhc=>q1 (Bool.eq_false_iff.mpr hc) H2 (Same.refl _))
   ·intro H2 s2 hD2
    rw[hlb] at hD2
    have hRm:RowsL H2 D (met boxes r c (2^(k+1))):=RowsL.filter (p:=bp) (meetsB r c (2^(k+1))) hlen hrow s2 hD2
    have hml:(met boxes r c (2^(k+1))).length<=900:=Nat.le_trans met_len hbl
    have hm4:∀b∈met boxes r c (2^(k+1)),b.length=4:=λb hb=>h4 b (List.mem_filter.mp hb).1
    have he2:=s2 _ _ he
    have nDe:D≠e:=(ne_of_none he hD).symm
    have etree:bt (k+1) boxes r c=bt (k+1) boxes r c:=rfl
    refine⟨_,rfl,(by show 0<=sizeLine;decide),λl hl=>?_⟩
    refine⟨_,_,rowsL_data (hRm.same (sameU hl)),.lst upd_same .nil,rows_lay _,rfl,rowsL_depth _,_,rfl,?_⟩
    rw[eqv_nil]
    have S3:Same H (upd H2 l (.lst [])):=s2.trans (sameU hl)
    have hR3:=hRm.same (sameU (o:=.lst []) hl)
    have he3:=keepU (u:=.lst []) he2 hl
    generalize upd H2 l (.lst [])=H3 at S3 hR3 he3
    cases hmt:met boxes r c (2^(k+1)) with
    |nil=>
     have hT:bt (k+1) boxes r c=.z:=by
      unfold bt
      skip
      rw[if_pos hmt]
     rw[hT] at q
     rw[hmt] at hR3
     refine iteT (iteT ?_)
     refine⟨_,rfl,(by show 0<=sizeLine;decide),λl2 hl2=>?_⟩
     refine⟨_,_,rowsL_data (hR3.same (sameU hl2)),.lst upd_same .nil,rows_lay _,rfl,rowsL_depth _,.inr ⟨_,rfl,?_⟩⟩
     exact q _ (But.of (S3.trans (sameU hl2))) (keepU he3 hl2)
    |cons b0 ml=>
     have hne:met boxes r c (2^(k+1))≠[]:=by rw[hmt];exact λz=>nomatch z
     rw[<- hmt]
     clear hmt
     have hie:(met boxes r c (2^(k+1))).isEmpty=false:=by
      cases hq:met boxes r c (2^(k+1)) with
      |nil=>exact absurd hq hne
      |cons _ _=>rfl
     rw[hie]
     refine iteF ?_
     obtain⟨ms,hms,hmsl,hmrow⟩:=id hR3
     have hml2:(ms.map V.ref).length=(met boxes r c (2^(k+1))).length:=by rw[List.length_map,hmsl]
     refine⟨_,rfl,D,rfl,⟨_,SqL.of hms⟩,λD2 hDD=>comp_walk hDD (λi y _=>y=.bl (hasB r c (2^(k+1)) ((met boxes r c (2^(k+1))).getD i []))) (goes_lst (K:=K) hms) (by rw[hml2];exact small1000 (by lia)) (λ_ _ _ _ _ _ h=>h) ?_ ?_⟩
     ·intro j x H4 hj hx s4 Q' hq
      rw[List.getElem?_map] at hx
      obtain⟨b,hbj,rfl⟩:=Option.map_eq_some_iff.mp hx
      have hj2:j<(met boxes r c (2^(k+1))).length:=by rw[hml2] at hj;exact hj
      have hg:(met boxes r c (2^(k+1)))[j]?=some ((met boxes r c (2^(k+1))).getD j []):=by rw[List.getD_eq_getElem?_getD,List.getElem?_eq_getElem hj2];rfl
      exact⟨_,rfl,_,rfl,_,rfl,_,rfl,b,_,r,c,2^(k+1),rfl,s4 _ _ (hmrow j b _ hbj hg),hm4 _ (List.mem_of_getElem? hg),hq _ _ (Same.refl _) rfl⟩
     ·intro ys H4 s4 hd4 hly hys
      have ey:ys=((met boxes r c (2^(k+1))).map (hasB r c (2^(k+1)))).map V.bl:=by
       refine list_ext (by rw[hly,hml2,List.length_map,List.length_map]) λj x hx=>?_
       have hj2:j<(met boxes r c (2^(k+1))).length:=by
        have:=(List.getElem?_eq_some_iff.mp hx).1
        rw[hly,hml2] at this
        exact this
       rw[hys j x hx,List.getElem?_map,List.getElem?_map,List.getElem?_eq_getElem hj2,List.getD_eq_getElem?_getD,List.getElem?_eq_getElem hj2]
       rfl
      subst ey
      refine⟨D2,_,rfl,hd4,_,rfl,?_⟩
      have eany:((met boxes r c (2^(k+1))).map (hasB r c (2^(k+1)))).any id=(met boxes r c (2^(k+1))).any (hasB r c (2^(k+1))):=by rw[List.any_map];rfl
      rw[eany]
      have S4:=S3.trans s4
      have hR4:=hR3.same s4
      have he4:=s4 _ _ he3
      cases hh:(met boxes r c (2^(k+1))).any (hasB r c (2^(k+1))) with
      |true=>
       have hT:bt (k+1) boxes r c=.o:=by
        unfold bt
        skip
        rw[if_neg hne,if_pos hh]
       rw[hT] at q
       refine iteT ?_
       refine⟨_,rfl,(by show 0<=sizeLine;decide),λl2 hl2=>?_⟩
       refine⟨_,_,rowsL_data (hR4.same (sameU hl2)),.lst upd_same .nil,rows_lay _,rfl,rowsL_depth _,.inr ⟨_,rfl,?_⟩⟩
       rw[eqv_nil,hie]
       exact q _ (But.of (S4.trans (sameU hl2))) (keepU he4 hl2)
      |false=>
       refine iteF ?_
       have hT:=bt_qt k boxes r c hne hh
       obtain⟨p1,p2⟩:=pow_le12 (show k<=12 by lia)
       obtain⟨p3,p4⟩:=pow_le12 hk
       have ehalf:(((2^(k+1):Nat):Int))/2=((2^k:Nat):Int):=by
        rw[Nat.pow_succ]
        lia
       clear hie hms hmsl hmrow hml2 hd4 hly hys eany hRm hR3 hD2 S3 s4 hlb
       generalize met boxes r c (2^(k+1))=m at hT hR4 hml hm4 hne hh
       refine⟨_,rfl,_,_,rfl,rfl,⟨by decide,by decide⟩,?_⟩
       refine⟨_,rfl,by decide,by decide,λD4 hD4=>?_⟩
       have nD4e:D4≠e:=(ne_of_none he4 hD4).symm
       refine compC_rng (λi xs H5=>But e H4 H5/\H5 D4=some (.lst xs)/\xs=vN (names k m r c L i)/\H5 e=some (.dT (tK (Tr.rowsOf (qL k m r c L i))))) (by decide) ⟨But.of (sameU hD4),upd_same,rfl,keepU he4 hD4⟩ (λi xs H5 h=>⟨h.2.1,by rw[h.2.2.1,vN_len];simp[names]⟩) ?_ ?_
       ·rintro i xs H5 hi ⟨b5,hd5,rfl,he5⟩ Q2 q2
        have hi4:i<4:=hi
        have veq:[V.ref e,V.ref D,V.int ((r:Int)+((2^(k+1):Nat):Int)/2*((0+(i:Int))/2)),V.int ((c:Int)+((2^(k+1):Nat):Int)/2*((0+(i:Int))%2)),V.int (((2^(k+1):Nat):Int)/2)]=[V.ref e,V.ref D,V.int ((r+2^k*(i/2):Nat):Int),V.int ((c+2^k*(i%2):Nat):Int),V.int ((2^k:Nat):Int)]:=by
         rw[ehalf,Int.zero_add,Int.natCast_add,Int.natCast_mul,Int.natCast_ediv,Int.natCast_add,Int.natCast_mul,Int.natCast_emod]
         rfl
        refine⟨_,rfl,_,rfl,_,rfl,_,rfl,_,rfl,_,_,rfl,rfl,⟨by decide,by decide⟩,_,_,rfl,rfl,.inl ⟨by lia,by lia⟩,_,_,rfl,rfl,_,rfl,_,rfl,_,rfl,_,_,rfl,rfl,(by show (0:Int)<2;decide),_,_,rfl,rfl,.inl ⟨by lia,by lia⟩,_,_,rfl,rfl,_,rfl,
         e,D,m,r+2^k*(i/2),c+2^k*(i%2),qL k m r c L i,veq,hR4.but b5 nDe he4 (λu z=>by cases z),hm4,hml,nDe,qL_ord hO i,he5,?_,λH6 b6 he6=>?_⟩
        ·have h1:=qL_len (k:=k) (m:=m) (r:=r) (c:=c) (L:=L) i
         have h2:sz (k+1)=4*sz k+1:=rfl
         have h3:i*sz k<=3*sz k:=Nat.mul_le_mul_right _ (by lia)
         lia
        ·refine q2 _ _ (b6 _ _ hd5 nD4e) ⟨?_,upd_same,?_,?_⟩
         ·intro b o z nb
          rw[upd_ne (ne_of_none z hD4)]
          exact b6 _ _ (b5 _ _ z nb) nb
         ·rw[names_succ hO]
          unfold vN
          rw[List.map_append]
          rfl
         ·rw[upd_ne (Ne.symm nD4e)]
          exact he6
       ·rintro xs H5 ⟨b5,hd5,rfl,he5⟩
        have hd5:H5 D4=some (.lst (vN (names k m r c L 4))):=hd5
        have he5:H5 e=some (.dT (tK (Tr.rowsOf (qL k m r c L 4)))):=he5
        have O4:=qL_ord (k:=k) (m:=m) (r:=r) (c:=c) hO 4
        have in0:=qL_in (k:=k) (m:=m) (r:=r) (c:=c) hO (j:=0) 4 (by decide)
        have in1:=qL_in (k:=k) (m:=m) (r:=r) (c:=c) hO (j:=1) 4 (by decide)
        have in2:=qL_in (k:=k) (m:=m) (r:=r) (c:=c) hO (j:=2) 4 (by decide)
        have in3:=qL_in (k:=k) (m:=m) (r:=r) (c:=c) hO (j:=3) 4 (by decide)
        have hl4:=qL_len (k:=k) (m:=m) (r:=r) (c:=c) (L:=L) 4
        have hs4:sz (k+1)=4*sz k+1:=rfl
        have e4:qL k m r c L 4=Tr.post (qt k m r c 3) (Tr.post (qt k m r c 2) (Tr.post (qt k m r c 1) (Tr.post (qt k m r c 0) L))):=rfl
        have en:names k m r c L 4=[Tr.name (qL k m r c L 4) (qt k m r c 0),Tr.name (qL k m r c L 4) (qt k m r c 1),Tr.name (qL k m r c L 4) (qt k m r c 2),Tr.name (qL k m r c L 4) (qt k m r c 3)]:=rfl
        rw[en] at hd5
        rw[hT] at q
        generalize qL k m r c L 4=L4 at he5 O4 in0 in1 in2 in3 hl4 e4 hd5
        generalize qt k m r c 0=t0,qt k m r c 1=t1,qt k m r c 2=t2,qt k m r c 3=t3 at in0 in1 in2 in3 e4 hd5 q
        have B5:But e H H5:=(But.of S4).trans b5
        refine⟨_,rfl,(by show 4<=sizeLine;decide),λa ha=>⟨(by show 4<=sizeLine;decide),λb hb'=>⟨(by show 2<=sizeLine;decide),λt ht=>?_⟩⟩⟩
        have S6:Same H5 (upd (upd (upd H5 a (.lst [.int 0,.int 0,.int 0,.int 0])) b (.lst [.int 1,.int 1,.int 1,.int 1])) t (.tup [.ref a,.ref b])):=((sameU ha).trans (sameU hb')).trans (sameU ht)
        have da:DataAt (upd (upd (upd H5 a (.lst [.int 0,.int 0,.int 0,.int 0])) b (.lst [.int 1,.int 1,.int 1,.int 1])) t (.tup [.ref a,.ref b])) (.ref a) (dL [0,0,0,0]):=.lst (keepU (keepU upd_same hb') ht) (DatasAt.ints [0,0,0,0])
        have db:DataAt (upd (upd (upd H5 a (.lst [.int 0,.int 0,.int 0,.int 0])) b (.lst [.int 1,.int 1,.int 1,.int 1])) t (.tup [.ref a,.ref b])) (.ref b) (dL [1,1,1,1]):=.lst (keepU upd_same ht) (DatasAt.ints [1,1,1,1])
        have hd6:=S6 _ _ hd5
        have he6:=S6 _ _ he5
        have ht6:upd (upd (upd H5 a (.lst [.int 0,.int 0,.int 0,.int 0])) b (.lst [.int 1,.int 1,.int 1,.int 1])) t (.tup [.ref a,.ref b]) t=some (.tup [.ref a,.ref b]):=upd_same
        generalize upd (upd (upd H5 a (.lst [.int 0,.int 0,.int 0,.int 0])) b (.lst [.int 1,.int 1,.int 1,.int 1])) t (.tup [.ref a,.ref b])=H6 at S6 da db hd6 he6 ht6 ⊢
        refine⟨t,[.ref a,.ref b],[dL [0,0,0,0],dL [1,1,1,1]],dL ([Tr.name L4 t0,Tr.name L4 t1,Tr.name L4 t2,Tr.name L4 t3].map λx:Nat=>(x:Int)),rfl,ht6,.cons da (.cons db .nil),.lst (hd6.trans (congrArg (λz=>some (HO.lst z)) (vN_int _))) (DatasAt.ints _),dL_lay _,(by simp[PyData.canLayAll0,dL_lay]),Nat.le_trans (dL_depth _) (by decide),?_⟩
        rw[List.any_cons,List.any_cons,List.any_nil,dL_eqv,dL_eqv,Bool.or_false]
        have B6:But e H H6:=B5.trans (But.of S6)
        refine⟨_,rfl,?_⟩
        have hk:∀s∈Tr.kids (.nd t0 t1 t2 t3),Tr.In L4 s:=λs hs=>by
         have:s=t0\/s=t1\/s=t2\/s=t3:=by simpa [Tr.kids] using hs
         rcases this with rfl|rfl|rfl|rfl<;>assumption
        refine ite2 (λhc=>?_) (λhc=>?_)
        ·rcases Bool.or_eq_true _ _▸hc with z|z
         ·have z':=of_decide_eq_true z
          simp only[List.map_cons,List.map_nil,List.cons.injEq,and_true] at z'
          have g0:=Qf.name_zero (L:=L4) (t:=t0) (by lia)
          have g1:=Qf.name_zero (L:=L4) (t:=t1) (by lia)
          have g2:=Qf.name_zero (L:=L4) (t:=t2) (by lia)
          have g3:=Qf.name_zero (L:=L4) (t:=t3) (by lia)
          subst g0 g1 g2 g3
          have eL:L4=L:=e4
          subst eL
          exact⟨_,rfl,D4,_,0,.int (0:Nat),rfl,rfl,SqL.of hd6,rfl,q H6 B6 he6⟩
         ·have z':=of_decide_eq_true z
          simp only[List.map_cons,List.map_nil,List.cons.injEq,and_true] at z'
          have g0:=Qf.name_one (L:=L4) (t:=t0) (by lia)
          have g1:=Qf.name_one (L:=L4) (t:=t1) (by lia)
          have g2:=Qf.name_one (L:=L4) (t:=t2) (by lia)
          have g3:=Qf.name_one (L:=L4) (t:=t3) (by lia)
          subst g0 g1 g2 g3
          have eL:L4=L:=e4
          subst eL
          exact⟨_,rfl,D4,_,0,.int (1:Nat),rfl,rfl,SqL.of hd6,rfl,q H6 B6 he6⟩
        ·have hmk:Qf.mk t0 t1 t2 t3=.nd t0 t1 t2 t3:=by
          unfold Qf.mk
          rw[if_neg,if_neg]
          ·rintro⟨rfl,rfl,rfl,rfl⟩
           exact hc (by rw[Bool.or_eq_true];exact .inr (decide_eq_true rfl))
          ·rintro⟨rfl,rfl,rfl,rfl⟩
           exact hc (by rw[Bool.or_eq_true];exact .inl (decide_eq_true rfl))
         rw[hmk] at q
         have hrow4:(Tr.kids (.nd t0 t1 t2 t3)).map (Tr.name L4)=[Tr.name L4 t0,Tr.name L4 t1,Tr.name L4 t2,Tr.name L4 t3]:=rfl
         have hmem:=row_mem O4 hk
         rw[hrow4] at hmem
         refine⟨_,rfl,D4,_,rfl,.inl ⟨SqL.of hd6,λu hu=>?_⟩⟩
         have S7:=sameU (o:=.tup (vN [Tr.name L4 t0,Tr.name L4 t1,Tr.name L4 t2,Tr.name L4 t3])) hu
         have he7:=S7 _ _ he6
         have hu7:upd H6 u (.tup (vN [Tr.name L4 t0,Tr.name L4 t1,Tr.name L4 t2,Tr.name L4 t3])) u=some (.tup ((keyN [Tr.name L4 t0,Tr.name L4 t1,Tr.name L4 t2,Tr.name L4 t3]).map kV)):=by rw[upd_same,keyN_V]
         have hd7:=S7 _ _ hd6
         have B7:=B6.trans (But.of (e:=e) S7)
         generalize upd H6 u (.tup (vN [Tr.name L4 t0,Tr.name L4 t1,Tr.name L4 t2,Tr.name L4 t3]))=H7 at S7 he7 hu7 hd7 B7 ⊢
         refine⟨_,rfl,e,_,rfl,DGet.t he7 hu7,_,rfl,?_⟩
         rw[tK_val]
         by_cases hm:[Tr.name L4 t0,Tr.name L4 t1,Tr.name L4 t2,Tr.name L4 t3]∈Tr.rowsOf L4
         ·rw[if_pos hm]
          refine iteF ?_
          have hT4:=hmem.mp hm
          have hTL:Tr.nd t0 t1 t2 t3∈L:=by
           by_cases zz:Tr.nd t0 t1 t2 t3∈L
           ·exact zz
           ·exact absurd (e4▸hT4) (Tr.not_below zz)
          obtain⟨i,hi,ei⟩:=List.mem_iff_getElem.mp hTL
          have kin:=λs hs=>(Tr.kid_in hO (i:=i) (t:=.nd t0 t1 t2 t3) (by rw[List.getElem?_eq_getElem hi,ei]) (s:=s) hs).1
          have eL:L4=L:=by
           rw[e4,post_in (kin t0 (by simp[Tr.kids])),post_in (kin t1 (by simp[Tr.kids])),post_in (kin t2 (by simp[Tr.kids])),post_in (kin t3 (by simp[Tr.kids]))]
          rw[post_in (.inr (.inr hTL))] at q
          subst eL
          refine⟨_,rfl,_,rfl,D4,_,rfl,.inl ⟨SqL.of hd7,λu2 hu2=>⟨e,_,rfl,tK_get O4 hTL (keepU he7 hu2) upd_same,?_⟩⟩⟩
          exact q _ (B7.trans (But.of (sameU hu2))) (keepU he7 hu2)
         ·rw[if_neg hm]
          refine iteT ?_
          have hT4:Tr.nd t0 t1 t2 t3∉L4:=λz=>hm (hmem.mpr z)
          have hTL:Tr.nd t0 t1 t2 t3∉L:=λz=>hT4 (by
           rw[e4]
           obtain⟨s1,h1⟩:=Tr.post_ext t0 L
           obtain⟨s2,h2⟩:=Tr.post_ext t1 (Tr.post t0 L)
           obtain⟨s3,h3⟩:=Tr.post_ext t2 (Tr.post t1 (Tr.post t0 L))
           obtain⟨s4,h4⟩:=Tr.post_ext t3 (Tr.post t2 (Tr.post t1 (Tr.post t0 L)))
           rw[h4,h3,h2,h1]
           simp[z])
          have ep:Tr.post (.nd t0 t1 t2 t3) L=L4++[.nd t0 t1 t2 t3]:=by
           rw[e4]
           show (if Tr.nd t0 t1 t2 t3∈L then L else _)=_
           rw[if_neg hTL]
          have O5:=(Tr.post_ord (.nd t0 t1 t2 t3) L hO).1
          rw[ep] at q O5
          have er:=rowsOf_app O4 hk
          rw[hrow4] at er
          have hlt:(tK (Tr.rowsOf L4)).length=L4.length:=by unfold tK;rw[tabl_len,Tr.rowsOf_len]
          have hli:L4.length+1<=6000000:=by lia
          refine⟨_,rfl,e,_,rfl,he7,_,_,rfl,rfl,_,rfl,_,rfl,D4,_,rfl,.inl ⟨SqL.of hd7,λu2 hu2=>?_⟩⟩
          have he8:=keepU (u:=.tup (vN [Tr.name L4 t0,Tr.name L4 t1,Tr.name L4 t2,Tr.name L4 t3])) he7 hu2
          refine⟨e,_,rfl,DPut.t he8 (by rw[upd_same,keyN_V]) (by rw[hlt];exact Nat.lt_of_le_of_lt (show L4.length<=6000000 by lia) (by decide)),?_⟩
          have eput:putK (tK (Tr.rowsOf L4)) (keyN [Tr.name L4 t0,Tr.name L4 t1,Tr.name L4 t2,Tr.name L4 t3]) (.int (((tK (Tr.rowsOf L4)).length:Int)+2))=tK (Tr.rowsOf (L4++[.nd t0 t1 t2 t3])):=by
           have h1:=tabl_put (key:=keyN) (k:=2) (λa b=>keyN_inj) hm
           rw[er,hlt]
           unfold tK
           rw[<- h1,Tr.rowsOf_len]
           congr 2
           lia
          rw[eput]
          have hd8:upd (upd H7 u2 (.tup (vN [Tr.name L4 t0,Tr.name L4 t1,Tr.name L4 t2,Tr.name L4 t3]))) e (.dT (tK (Tr.rowsOf (L4++[.nd t0 t1 t2 t3])))) D4=some (.lst (vN [Tr.name L4 t0,Tr.name L4 t1,Tr.name L4 t2,Tr.name L4 t3])):=by
           rw[upd_ne nD4e]
           exact keepU hd7 hu2
          have he9:upd (upd H7 u2 (.tup (vN [Tr.name L4 t0,Tr.name L4 t1,Tr.name L4 t2,Tr.name L4 t3]))) e (.dT (tK (Tr.rowsOf (L4++[.nd t0 t1 t2 t3])))) e=some (.dT (tK (Tr.rowsOf (L4++[.nd t0 t1 t2 t3])))):=upd_same
          have B8:But e H (upd (upd H7 u2 (.tup (vN [Tr.name L4 t0,Tr.name L4 t1,Tr.name L4 t2,Tr.name L4 t3]))) e (.dT (tK (Tr.rowsOf (L4++[.nd t0 t1 t2 t3]))))):=(B7.trans (But.of (sameU hu2))).trans But.upd
          generalize upd (upd H7 u2 (.tup (vN [Tr.name L4 t0,Tr.name L4 t1,Tr.name L4 t2,Tr.name L4 t3]))) e (.dT (tK (Tr.rowsOf (L4++[.nd t0 t1 t2 t3]))))=H8 at hd8 he9 B8 ⊢
          have enm:∀s,Tr.In L4 s->Tr.name (L4++[.nd t0 t1 t2 t3]) s=Tr.name L4 s:=λs hs=>Tr.name_app hs O4
          refine⟨_,rfl,_,rfl,D4,_,rfl,.inl ⟨SqL.of hd8,λu3 hu3=>⟨e,_,rfl,tK_get (a:=t0) (b:=t1) (c:=t2) (d:=t3) O5 (by simp) (keepU he9 hu3) (by rw[upd_same,enm t0 in0,enm t1 in1,enm t2 in2,enm t3 in3]),?_⟩⟩⟩
          exact q _ (B8.trans (But.of (sameU hu3))) (keepU he9 hu3)
end
end Pr
namespace Pr
open PySem L2 Qf
def bTop (n:Nat) (boxes:List Row):Nat:=Tr.name (Tr.post (bt n boxes 0 0) []) (bt n boxes 0 0)
def bRows (n:Nat) (boxes:List Row):List Row:=Tr.rowsOf (Tr.post (bt n boxes 0 0) [])
theorem b_canon {n:Nat}{boxes:List Row}(hn:n<=12):Canon n (bTop n boxes) (bRows n boxes):=canon_tree hn (bt_red n boxes 0 0) (bt_dep n boxes 0 0)
theorem b_len {n:Nat}{boxes:List Row}(hn:n<=12) (h:Boxes n boxes):(bRows n boxes).length<=485:=by
 unfold bRows
 rw[Tr.rowsOf_len]
 have h1:=post_le (bt n boxes 0 0) []
 have h2:=boxes_few hn h
 simp at h1
 lia
theorem b_T {n:Nat}{boxes:List Row}:T (bRows n boxes) (bTop n boxes)=bt n boxes 0 0:=by
 obtain⟨ho,hi⟩:=Tr.post_ord (bt n boxes 0 0) [] Tr.ord_nil
 exact T_name ho _ hi
section
variable {P:Program}{w:World}{K:PySem.W.Frag}{mg:Str->Option Value}{base:Heap}
abbrev nBSh:List Str:=["_law_n", "_law_boxes_here", "_law_rows", "_law_top"]
theorem scBSh:FnScope nBSh ["_law_n", "_law_boxes_here"] (defScope lShape):=⟨rfl,rfl,rfl,by decide +kernel,rfl,by decide +kernel,by decide +kernel⟩
def spBSh:Sp:=λvs H Q _=>∃(bp:Addr) (n:Nat) (boxes:List Row),vs=[.int (n:Nat),.ref bp]/\RowsL H bp boxes/\Boxes n boxes/\n<=12/\∀(H':Hp) (t:Addr),Same H H'->ShapeAt H' t n (bTop n boxes) (bRows n boxes)->Q (.ref t) H'
theorem ok_bSh {f fN fM fH:Addr}{fd fdN fdM fdH:FuncData}(F:Fun K "_law_shape" "_law_shape" lShape f fd) (B:Blt mg) (hN:mg "_law_number" = some (.ref fN)) (FN:Fun K "_law_number" "_law_number" lNumber fN fdN) (bN:Binds K fdN nNum5 [])
  (hM:mg "_law_meets" = some (.ref fM)) (FM:Fun K "_law_meets" "_law_meets" lMeets fM fdM) (bM:Binds K fdM nBRCS [])
  (hH:mg "_law_has" = some (.ref fH)) (FH:Fun K "_law_has" "_law_has" lHas fH fdH) (bH:Binds K fdH nBRCS []):FnOk P w K mg base CX0 15 f fd ["_law_n", "_law_boxes_here"] spBSh:=by
 have GN:∀k,k<=12->FnOk P w K mg base CX0 (k+2) fN fdN nNum5 (spNum k):=ok_num FN B hN bN hM FM bM hH FH bH
 refine F.ok scBSh (λvs H Q E h=>?_) (λcdv A outer s H vs Q E hr h=>?_)
 ·obtain⟨bp,n,boxes,rfl,_⟩:=h
  rfl
 ·obtain⟨bp,n,boxes,rfl,hR,hBx,hn,q⟩:=h
  have hrN:Room (n+2) _:=hr.mono (by lia)
  refine seqE ⟨_,⟨ps_set (i:=2) scBSh.nd rfl (by first|exact Or.inl rfl|exact Or.inr rfl) pe_dnewT⟩,?_⟩
  refine seqE ⟨_,⟨ps_set (i:=3) scBSh.nd rfl (by first|exact Or.inl rfl|exact Or.inr rfl) (pe_call (GN n hn) hrN (by rfl) hN FN.kp bN .nil pass0 (Ars2.go (.cons ⟨pv 2⟩ (.cons ⟨pv 1⟩ (.cons pe_intb (.cons pe_intb (.cons ⟨pe_op op_shl pe_int (pv 0)⟩ .nil rfl) rfl) rfl) rfl) rfl)))⟩,?_⟩
  refine lastE ⟨_,⟨ps_ret (pe_tup (Ars2.go (.cons ⟨pv 0⟩ (.cons ⟨pv 3⟩ (.cons ⟨pe_callTy (call_tupleDT rfl) (by rfl) B.tuple PyProof.Rows.boot_tuple (pa_cons (pv 2) pa_nil)⟩ .nil rfl) rfl) rfl)))⟩,?_⟩
  intro e he
  have nbe:bp≠e:=by obtain⟨bs,hb,_⟩:=hR;exact ne_of_none hb he
  have h4:∀b∈boxes,b.length=4:=λb hb=>by
   obtain⟨r,c,h,w',rfl,_⟩:=hBx.1 b hb
   rfl
  have hbl:boxes.length<=900:=by
   rcases hBx.2 with ⟨_,h⟩|⟨h,_⟩<;>lia
  have hsz:sz n<=6000000:=Nat.le_trans (sz_le hn) (by decide)
  have veq:[V.ref e,V.ref bp,V.int 0,V.int 0,V.int (1*2^((n:Int)).toNat)]=[V.ref e,V.ref bp,V.int ((0:Nat):Int),V.int ((0:Nat):Int),V.int ((2^n:Nat):Int)]:=by rw[pow_int];rfl
  refine⟨_,rfl,_,rfl,_,rfl,_,_,rfl,rfl,⟨by lia,by lia,by decide⟩,e,bp,boxes,0,0,[],veq,hR.same (sameU he),h4,hbl,nbe,Tr.ord_nil,upd_same,by simpa using hsz,λH1 b1 he1=>?_⟩
  have S1:Same H H1:=λb o z=>b1 _ _ (keepU z he) (ne_of_none z he)
  refine⟨_,rfl,_,rfl,_,rfl,e,_,rfl,he1,λl bs hl hbl2 hbs=>⟨(by show 3<=sizeLine;decide),λt ht=>?_⟩⟩
  refine q _ t ((S1.trans (sameU hl)).trans (sameU ht)) ⟨⟨l,upd_same,bs,keepU upd_same ht,?_,?_⟩,b_canon hn,?_⟩
  ·rw[hbl2]
   unfold tK
   rw[tabl_len]
   rfl
  ·intro i b r e1 e2
   have hi:=(List.getElem?_eq_some_iff.mp e2).1
   have hlt:(tK (bRows n boxes)).length=(bRows n boxes).length:=by unfold tK;rw[tabl_len]
   have hkv:(tK (bRows n boxes))[i]?=some ((tK (bRows n boxes))[i]'(by lia)):=List.getElem?_eq_getElem (by lia)
   have hk1:((tK (bRows n boxes))[i]'(by lia)).1=keyN r:=by
    have h0:=hkv
    unfold tK tabl at h0
    rw[List.getElem?_map] at h0
    obtain⟨p,hp,ep⟩:=Option.map_eq_some_iff.mp h0
    rw[List.getElem?_zipIdx] at hp
    obtain⟨r',hr',rfl⟩:=Option.map_eq_some_iff.mp hp
    rw[e2] at hr'
    cases hr'
    exact (congrArg Prod.fst ep).symm
   have:=hbs i b _ e1 hkv
   rw[hk1,keyN_V] at this
   exact keepU (keepU this hl) ht
  ·exact Nat.le_trans (b_len hn hBx) (by decide)
end
end Pr
namespace Qf
open Tr
theorem T_plain {rows:List Row}(ok:RowsOk rows){q:Nat}(hq:q<rows.length+2):(T rows q=z<->q=0)/\(T rows q=o<->q=1):=by
 by_cases q2:q<2
 ·match q,q2 with
  |0,_=>rw[T_zero];exact⟨⟨λ_=>rfl,λ_=>rfl⟩,⟨λh=>(nomatch h),λh=>(nomatch h)⟩⟩
  |1,_=>rw[T_one];exact⟨⟨λh=>(nomatch h),λh=>(nomatch h)⟩,⟨λ_=>rfl,λ_=>rfl⟩⟩
 ·obtain⟨p',a',b',c',d',rfl,hp'⟩:=row_at ok hq q2
  rw[T_row ok hp']
  exact⟨⟨λh=>(nomatch h),λh=>by lia⟩,⟨λh=>(nomatch h),λh=>by lia⟩⟩
theorem canon_dep {n top:Nat}{rows:List Row}(c:Canon n top rows):dep (T rows top)<=n:=by
 obtain⟨er,et⟩:=canon_rows c
 obtain⟨ho,hi⟩:=post_ord (T rows top) [] ord_nil
 have h:=dp_name ho _ hi
 rw[<- er,<- et] at h
 rw[<- h]
 exact c.deep
def qr (i:Nat):Tr->Tr
 |.nd a b c d=>[a,b,c,d].getD i .z
 |t=>t
theorem T_qr {rows:List Row}(ok:RowsOk rows){p i:Nat}{r:Row}{x:Nat}(hp:rows[p]?=some r) (hi:i<4) (hx:r[i]?=some x):T rows x=qr i (T rows (p+2)):=by
 obtain⟨a,b,c,d,rfl⟩:=four_of (ok p r hp).1
 rw[T_row ok hp]
 match i,hi with
 |0,_=>cases hx;rfl
 |1,_=>cases hx;rfl
 |2,_=>cases hx;rfl
 |3,_=>cases hx;rfl
theorem dep_qr {i k:Nat}(hi:i<4):∀(t:Tr),dep t<=k+1->dep (qr i t)<=k
 |.z,_=>Nat.zero_le _
 |.o,_=>Nat.zero_le _
 |.nd a b c d,h=>by
  have h':mx [dep a,dep b,dep c,dep d]<=k:=by
   have:1+mx [dep a,dep b,dep c,dep d]<=k+1:=h
   lia
  have m:∀x∈[dep a,dep b,dep c,dep d],x<=k:=λx hx=>Nat.le_trans (le_mx hx) h'
  match i,hi with
  |0,_=>exact m (dep a) (by simp)
  |1,_=>exact m (dep b) (by simp)
  |2,_=>exact m (dep c) (by simp)
  |3,_=>exact m (dep d) (by simp)
theorem dep0:∀{t:Tr},dep t<=0->t=.z\/t=.o
 |.z,_=>.inl rfl
 |.o,_=>.inr rfl
 |.nd a b c d,h=>by
  have:1+mx [dep a,dep b,dep c,dep d]<=0:=h
  lia
end Qf
namespace Qf
open Tr
def wdn:Tr->List Nat->Tr×List Nat
 |.nd a b c d,x::ds=>((wdn (qr x (.nd a b c d)) ds).1,x::(wdn (qr x (.nd a b c d)) ds).2)
 |t,_=>(t,[])
theorem wdn_nil (t:Tr):wdn t []=(t,[]):=by cases t<;>rfl
theorem wdn_plain {t:Tr}(h:t=.z\/t=.o) (ds:List Nat):wdn t ds=(t,[]):=by rcases h with rfl|rfl<;>cases ds<;>rfl
def lvs (a b:Nat):Nat->Tr->List (List Nat)
 |k+1,.nd p q r s=>(lvs a b k (qr a (.nd p q r s))).map (a::·)++(lvs a b k (qr b (.nd p q r s))).map (b::·)
 |_,_=>[[]]
theorem lvs_plain {a b:Nat}{t:Tr}(h:t=.z\/t=.o):∀k,lvs a b k t=[[]]
 |0=>rfl
 |k+1=>by rcases h with rfl|rfl<;>rfl
def bd (a b:Nat):Nat->Nat->List Nat
 |0,_=>[]
 |k+1,p=>(if p/2^k%2=0 then a else b)::bd a b k p
theorem bd_mod (a b:Nat):∀(k p:Nat),bd a b k p=bd a b k (p%2^k)
 |0,_=>rfl
 |k+1,p=>by
  show (if p/2^k%2=0 then a else b)::bd a b k p=(if p%2^(k+1)/2^k%2=0 then a else b)::bd a b k (p%2^(k+1))
  have e1:p%2^(k+1)/2^k%2=p/2^k%2:=by
   rw[Nat.pow_succ,Nat.mod_mul_right_div_self]
   exact Nat.mod_mod _ _
  have e2:p%2^(k+1)%2^k=p%2^k:=Nat.mod_mod_of_dvd p (Nat.pow_dvd_pow 2 (Nat.le_succ k))
  rw[e1,bd_mod a b k p,bd_mod a b k (p%2^(k+1)),e2]
def cof (f:Nat->Nat):Nat->List Nat->Nat
 |k+1,d::ds=>2^k*f d+cof f k ds
 |_,_=>0
theorem cof_app (f:Nat->Nat):∀(n:Nat) (l m:List Nat),l.length<=n->cof f n (l++m)=cof f n l+cof f (n-l.length) m
 |n,[],m,_=>by
  have:cof f n []=0:=by cases n<;>rfl
  rw[this];simp
 |n+1,d::l,m,h=>by
  have h':l.length<=n:=by simpa using h
  show 2^n*f d+cof f n (l++m)=2^n*f d+cof f n l+cof f (n+1-(l.length+1)) m
  rw[cof_app f n l m h',Nat.add_sub_add_right]
  lia
def pos (k:Nat) (L:List (List Nat)) (i:Nat):Nat:=((L.take i).map λds=>2^(k-ds.length)).sum
theorem pos_app1 {k i:Nat}{L M:List (List Nat)}(h:i<=L.length):pos k (L++M) i=pos k L i:=by
 unfold pos
 rw[List.take_append_of_le_length h]
theorem pos_app2 {k i:Nat}{L M:List (List Nat)}:pos k (L++M) (L.length+i)=pos k L L.length+pos k M i:=by
 unfold pos
 rw[List.take_append,List.take_of_length_le (by lia),List.take_of_length_le (Nat.le_refl _),Nat.add_sub_cancel_left,List.map_append,List.sum_append]
theorem pos_map {k i a:Nat}{L:List (List Nat)}:pos (k+1) (L.map (a::·)) i=pos k L i:=by
 unfold pos
 rw[<- List.map_take,List.map_map]
 congr 1
 refine List.map_congr_left λds _=>?_
 show 2^(k+1-(ds.length+1))=_
 rw[Nat.add_sub_add_right]
theorem pos_succ {k i:Nat}{L:List (List Nat)}{ds:List Nat}(h:L[i]?=some ds):pos k L (i+1)=pos k L i+2^(k-ds.length):=by
 unfold pos
 rw[List.take_succ,h,List.map_append,List.sum_append]
 simp
structure Alg (a b k:Nat) (t:Tr) (L:List (List Nat)):Prop where
 short:∀ds∈L,ds.length<=k
 whole:pos k L L.length=2^k
 lf:∀(i:Nat) ds,L[i]?=some ds->(wdn t (bd a b k (pos k L i))).2=ds/\pos k L i<2^k/\∀f:Nat->Nat,f a=0->f b=1->cof f k ds=pos k L i
 figs:∀ds∈L,∀d∈ds,d=a\/d=b
theorem alg_one {a b k:Nat}{t:Tr}(h:t=.z\/t=.o):Alg a b k t [[]] where
 short:=λds hd=>by
  have:ds=[]:=by simpa using hd
  rw[this];exact Nat.zero_le _
 whole:=by simp[pos]
 lf:=λi ds hi=>by
  match i,hi with
  |0,hi=>
   cases hi
   refine⟨by rw[wdn_plain h],by show 0<2^k;exact Nat.pow_pos (by decide),λf _ _=>by cases k<;>rfl⟩
  |i+1,hi=>simp at hi
 figs:=λds hd d hx=>by
  have:ds=[]:=by simpa using hd
  rw[this] at hx;cases hx
theorem lvs_alg (a b:Nat):∀(k:Nat) (t:Tr),dep t<=k->a<4->b<4->Alg a b k t (lvs a b k t)
 |0,t,h,_,_=>alg_one (dep0 h)
 |k+1,.z,_,_,_=>alg_one (.inl rfl)
 |k+1,.o,_,_,_=>alg_one (.inr rfl)
 |k+1,.nd p q r s,h,ha,hb=>by
  have A:=lvs_alg a b k (qr a (.nd p q r s)) (dep_qr ha _ h) ha hb
  have B:=lvs_alg a b k (qr b (.nd p q r s)) (dep_qr hb _ h) ha hb
  show Alg a b (k+1) (.nd p q r s) ((lvs a b k (qr a (.nd p q r s))).map (a::·)++(lvs a b k (qr b (.nd p q r s))).map (b::·))
  generalize hs:Tr.nd p q r s=t at *
  have hw:∀x ds,wdn t (x::ds)=((wdn (qr x t) ds).1,x::(wdn (qr x t) ds).2):=λx ds=>by rw[<- hs];rfl
  generalize lvs a b k (qr a t)=L at A
  generalize lvs a b k (qr b t)=M at B
  have lL:(L.map (a::·)).length=L.length:=List.length_map _
  have lM:(M.map (b::·)).length=M.length:=List.length_map _
  have e2:2^(k+1)=2^k+2^k:=by rw[Nat.pow_succ];lia
  have pk:0<2^k:=Nat.pow_pos (by decide)
  refine⟨λds hd=>?_,?_,λi ds hi=>?_,λds hd d hx=>?_⟩
  ·rcases List.mem_append.mp hd with hd|hd
   ·obtain⟨e,he,rfl⟩:=List.mem_map.mp hd
    exact Nat.succ_le_succ (A.short e he)
   ·obtain⟨e,he,rfl⟩:=List.mem_map.mp hd
    exact Nat.succ_le_succ (B.short e he)
  ·rw[List.length_append,pos_app2,pos_map,pos_map,lL,lM,A.whole,B.whole,e2]
  ·by_cases hl:i<L.length
   ·rw[List.getElem?_append_left (by rw[lL];exact hl),List.getElem?_map] at hi
    obtain⟨e,he,rfl⟩:=Option.map_eq_some_iff.mp hi
    obtain⟨g1,g2,g3⟩:=A.lf i e he
    rw[pos_app1 (by rw[lL];lia),pos_map]
    refine⟨?_,by lia,λf fa fb=>?_⟩
    ·show (wdn t ((if pos k L i/2^k%2=0 then a else b)::bd a b k (pos k L i))).2=_
     rw[Nat.div_eq_of_lt g2,if_pos (by decide),hw]
     show a::(wdn (qr a t) (bd a b k (pos k L i))).2=a::e
     rw[g1]
    ·show 2^k*f a+cof f k e=_
     rw[fa,g3 f fa fb];lia
   ·obtain⟨j,rfl⟩:∃j,i=L.length+j:=⟨i-L.length,by lia⟩
    rw[List.getElem?_append_right (by rw[lL];lia),lL,Nat.add_sub_cancel_left,List.getElem?_map] at hi
    obtain⟨e,he,rfl⟩:=Option.map_eq_some_iff.mp hi
    obtain⟨g1,g2,g3⟩:=B.lf j e he
    have ep:pos (k+1) (L.map (a::·)++M.map (b::·)) (L.length+j)=2^k+pos k M j:=by
     have:=pos_app2 (k:=k+1) (i:=j) (L:=L.map (a::·)) (M:=M.map (b::·))
     rw[lL] at this
     rw[this,pos_map,pos_map,A.whole]
    rw[ep]
    refine⟨?_,by lia,λf fa fb=>?_⟩
    ·show (wdn t ((if (2^k+pos k M j)/2^k%2=0 then a else b)::bd a b k (2^k+pos k M j))).2=_
     have e1:(2^k+pos k M j)/2^k=1:=by rw[Nat.add_div_left _ pk,Nat.div_eq_of_lt g2]
     have e3:bd a b k (2^k+pos k M j)=bd a b k (pos k M j):=by
      rw[bd_mod a b k (2^k+pos k M j),Nat.add_mod_left,<- bd_mod]
     rw[e1,if_neg (by decide),e3,hw]
     show b::(wdn (qr b t) (bd a b k (pos k M j))).2=b::e
     rw[g1]
    ·show 2^k*f b+cof f k e=_
     rw[fb,g3 f fa fb];lia
  ·rcases List.mem_append.mp hd with hd|hd
   ·obtain⟨e,he,rfl⟩:=List.mem_map.mp hd
    rcases List.mem_cons.mp hx with rfl|hx
    ·exact .inl rfl
    ·exact A.figs e he d hx
   ·obtain⟨e,he,rfl⟩:=List.mem_map.mp hd
    rcases List.mem_cons.mp hx with rfl|hx
    ·exact .inr rfl
    ·exact B.figs e he d hx
theorem wdn_app:∀(t:Tr) (l m:List Nat),((wdn t l).2=l/\wdn t (l++m)=((wdn (wdn t l).1 m).1,l++(wdn (wdn t l).1 m).2))\/(((wdn t l).1=.z\/(wdn t l).1=.o)/\wdn t (l++m)=wdn t l)
 |t,[],m=>by
  left
  rw[wdn_nil]
  exact⟨rfl,by simp⟩
 |.z,x::l,m=>.inr ⟨.inl rfl,rfl⟩
 |.o,x::l,m=>.inr ⟨.inr rfl,rfl⟩
 |.nd a b c d,x::l,m=>by
  rcases wdn_app (qr x (.nd a b c d)) l m with ⟨h1,h2⟩|⟨h1,h2⟩
  ·left
   refine⟨?_,?_⟩
   ·show x::(wdn (qr x (.nd a b c d)) l).2=x::l
    rw[h1]
   ·show ((wdn (qr x (.nd a b c d)) (l++m)).1,x::(wdn (qr x (.nd a b c d)) (l++m)).2)=_
    rw[h2]
    rfl
  ·right
   refine⟨h1,?_⟩
   show ((wdn (qr x (.nd a b c d)) (l++m)).1,x::(wdn (qr x (.nd a b c d)) (l++m)).2)=_
   rw[h2]
   rfl
theorem wdn_pre:∀(t:Tr) (l:List Nat),(wdn t l).2 <+: l
 |.z,l=>by cases l<;>exact List.nil_prefix
 |.o,l=>by cases l<;>exact List.nil_prefix
 |.nd a b c d,[]=>List.nil_prefix
 |.nd a b c d,x::l=>(List.prefix_cons_inj x).mpr (wdn_pre _ l)
def dgp (r c k:Nat):Nat->List Nat
 |0=>[]
 |j+1=>(2*(r/2^(k+j)%2)+c/2^(k+j)%2)::dgp r c k j
theorem dgp_len (r c k:Nat):∀j,(dgp r c k j).length=j
 |0=>rfl
 |j+1=>by show (dgp r c k j).length+1=_;rw[dgp_len]
theorem dgp_lt (r c k:Nat):∀j,∀d∈dgp r c k j,d<4
 |0,d,h=>by cases h
 |j+1,d,h=>by
  rcases List.mem_cons.mp h with rfl|h
  ·lia
  ·exact dgp_lt r c k j d h
theorem dgp_app (r c k:Nat):∀j,dgp r c 0 (k+j)=dgp r c k j++dgp r c 0 k
 |0=>rfl
 |j+1=>by
  show (2*(r/2^(0+(k+j))%2)+c/2^(0+(k+j))%2)::dgp r c 0 (k+j)=_
  rw[dgp_app r c k j,Nat.zero_add]
  rfl
theorem dgp_congr {r c r' c' k:Nat}(hr:r/2^k=r'/2^k) (hc:c/2^k=c'/2^k):∀j,dgp r c k j=dgp r' c' k j
 |0=>rfl
 |j+1=>by
  show (2*(r/2^(k+j)%2)+c/2^(k+j)%2)::dgp r c k j=_
  have e:∀x:Nat,x/2^(k+j)=x/2^k/2^j:=λx=>by rw[Nat.pow_add,Nat.div_div_eq_div_mul]
  rw[dgp_congr hr hc j,e r,e c,hr,hc,<- e r',<- e c']
  rfl
theorem dgp_bdh {r c p ρ:Nat}:∀k,(∀j,j<k->r/2^j%2=ρ)->(∀j,j<k->c/2^j%2=p/2^j%2)->dgp r c 0 k=bd (2*ρ) (2*ρ+1) k p
 |0,_,_=>rfl
 |k+1,h1,h2=>by
  show (2*(r/2^(0+k)%2)+c/2^(0+k)%2)::dgp r c 0 k=(if p/2^k%2=0 then 2*ρ else 2*ρ+1)::bd _ _ k p
  rw[Nat.zero_add,h1 k (by lia),h2 k (by lia),dgp_bdh k (λj hj=>h1 j (by lia)) (λj hj=>h2 j (by lia))]
  congr 1
  split<;>lia
theorem dgp_bdv {r c p γ:Nat}:∀k,(∀j,j<k->c/2^j%2=γ)->(∀j,j<k->r/2^j%2=p/2^j%2)->dgp r c 0 k=bd γ (2+γ) k p
 |0,_,_=>rfl
 |k+1,h1,h2=>by
  show (2*(r/2^(0+k)%2)+c/2^(0+k)%2)::dgp r c 0 k=(if p/2^k%2=0 then γ else 2+γ)::bd _ _ k p
  rw[Nat.zero_add,h1 k (by lia),h2 k (by lia),dgp_bdv k (λj hj=>h1 j (by lia)) (λj hj=>h2 j (by lia))]
  congr 1
  split<;>lia
theorem cof_dgp {f:Nat->Nat}{g:Nat->Nat->Nat}(hf:∀x y,x<2->y<2->f (2*x+y)=g x y) (r c k:Nat) (x:Nat) (hx:∀j,g (r/2^(k+j)%2) (c/2^(k+j)%2)=x/2^(k+j)%2):∀j,cof f (k+j) (dgp r c k j)=x/2^k%2^j*2^k
 |0=>by
  have:cof f (k+0) (dgp r c k 0)=0:=by show cof f k []=0;cases k<;>rfl
  rw[this,Nat.pow_zero,Nat.mod_one,Nat.zero_mul]
 |j+1=>by
  show 2^(k+j)*f (2*(r/2^(k+j)%2)+c/2^(k+j)%2)+cof f (k+j) (dgp r c k j)=_
  rw[hf _ _ (by lia) (by lia),hx j,cof_dgp hf r c k x hx j]
  have e:x/2^(k+j)=x/2^k/2^j:=by rw[Nat.pow_add,Nat.div_div_eq_div_mul]
  rw[e]
  generalize x/2^k=y
  have e2:y%2^(j+1)=y%2^j+2^j*(y/2^j%2):=by rw[Nat.pow_succ,Nat.mod_mul]
  rw[e2,Nat.add_mul,Nat.pow_add]
  rw[Nat.add_comm]
  congr 1
  rw[Nat.mul_comm (2^k) (2^j),Nat.mul_assoc,Nat.mul_assoc,Nat.mul_comm (2^k)]
end Qf
namespace L2
open PySem PySem.Spec PyProof.Rows
theorem for_str {z:Str}{g:TG}{tb:TS}{D:Ends}{σ:St}{H:Hp}(Pv:Nat->St->Hp->Prop) (h0:Pv 0 σ H)
  (hs:∀i c σ H,z.cps[i]?=some c->Pv i σ H->g (.str ⟨#[c]⟩) σ H λσ2 H2=>tb { D with nx:=Pv (i+1),ct:=Pv (i+1),bk:=D.nx } σ2 H2) (hd:∀σ H,Pv z.cps.size σ H->D.nx σ H) :
  ∃W:Nat->Nat->St->Hp->Prop,(∃m,W 0 m σ H)/\∀i m σ H,W i m σ H ->
   ((Its z).stop i H/\D.nx σ H)\/((Its z).go i H/\∃N:St->Hp->Prop,(∀σ' H',N σ' H'->∃m',m'<m/\W (i+1) m' σ' H')/\∀x H',(Its z).yld i H x H'->g x σ H' λσ2 H2=>tb { D with nx:=N,ct:=N,bk:=D.nx } σ2 H2):=by
 refine⟨λi m σ H=>m=z.cps.size-i/\i<=z.cps.size/\Pv i σ H,⟨z.cps.size,by simp,Nat.zero_le _,h0⟩,?_⟩
 rintro i m σ H ⟨rfl,hi,p⟩
 by_cases hlt:i<z.cps.size
 ·refine .inr ⟨hlt,Pv (i+1),λσ' H' p'=>⟨z.cps.size-(i+1),by lia,rfl,hlt,p'⟩,λx H' y=>?_⟩
  obtain⟨e,c,e1,e2⟩:=y
  subst e e2
  exact hs i c σ _ e1 p
 ·have e:i=z.cps.size:=by lia
  subst e
  exact .inl ⟨Nat.le_refl _,hd σ H p⟩
end L2
namespace Pr
open PySem L2 Qf
def txt (ds:List Nat):Str:=⟨(ds.map (48+·)).toArray⟩
theorem txt_len (ds:List Nat):(txt ds).length=ds.length:=by simp[txt,Str.length]
theorem txt_size (ds:List Nat):(txt ds).cps.size=ds.length:=by simp[txt]
theorem txt_at {ds:List Nat}{i c:Nat}(h:(txt ds).cps[i]?=some c):∃d,ds[i]?=some d/\c=48+d:=by
 have hc':(ds.map (48+·))[i]?=some c:=by simpa [txt] using h
 rw[List.getElem?_map] at hc'
 obtain⟨d,hd,rfl⟩:=Option.map_eq_some_iff.mp hc'
 exact⟨d,hd,rfl⟩
theorem int_fig {d:Nat}(h:d<4):PySem.intText? ⟨#[48+d]⟩=some (d:Int):=by
 match d,h with
 |0,_|1,_|2,_|3,_=>decide +kernel
def four (c:Nat):Bool:=!(Builtin.Str.occurrences "0123" ⟨#[c]⟩ 0 ("0123" : Str).length 1).isEmpty
theorem four_fig {d:Nat}(h:d<4):four (48+d)=true:=by
 match d,h with
 |0,_|1,_|2,_|3,_=>decide +kernel
theorem fig_text {d:Nat}(h:d<4):((toString (d:Int):String):Str)=⟨#[48+d]⟩:=by
 match d,h with
 |0,_|1,_|2,_|3,_=>decide +kernel
theorem join_txt (ds:List Nat):Txt.join "" (ds.map λd=>(⟨#[48+d]⟩:Str))=txt ds:=by
 have hs:PyProof.Rows.signs (txt ds)=ds.map λd=>(⟨#[48+d]⟩:Str):=by simp[PyProof.Rows.signs,txt]
 rw[<- hs]
 have h:=beq_iff_eq.mp (PyProof.Rows.join_closes (sep:= "") (sep':=⟨#[]⟩) (ys:=PyProof.Rows.signs (txt ds)) (by decide +kernel))
 rw[h]
 exact PyProof.Rows.join_nil_signs (txt ds)
def qd (r c k:Nat):Nat:=2*(r/2^k%2)+c/2^k%2
theorem qd_lt (r c k:Nat):qd r c k<4:=by unfold qd;lia
theorem bit_nat (r k:Nat):Builtin.bitAnd ((r:Int)/2^((k:Nat):Int).toNat) 1=((r/2^k%2:Nat):Int):=by
 rw[PyProof.Rows.bitAnd_m1,Int.toNat_natCast]
 have e:((2:Int)^k)=((2^k:Nat):Int):=by simp
 rw[e]
 lia
theorem dgp_range (r c k:Nat):∀j,dgp r c k j=(List.range j).map λi=>qd r c (k+j-1-i)
 |0=>rfl
 |j+1=>by
  rw[List.range_succ_eq_map,List.map_cons,List.map_map]
  show qd r c (k+j)::dgp r c k j=_
  rw[dgp_range r c k j]
  congr 1
  refine List.map_congr_left λi _=>?_
  show qd r c (k+j-1-i)=qd r c (k+(j+1)-1-(i+1))
  congr 1
  lia
theorem ds_take {ds:List Nat}{i d:Nat}(h:ds[i]?=some d):ds.take (i+1)=ds.take i++[d]:=by rw[List.take_succ,h];rfl
theorem cof_step {f:Nat->Nat}{n i d:Nat}{ds:List Nat}(h:ds[i]?=some d) (hl:ds.length<=n):cof f n (ds.take (i+1))=cof f n (ds.take i)+2^(n-i-1)*f d:=by
 have hi:=(List.getElem?_eq_some_iff.mp h).1
 have ht:(ds.take i).length=i:=by rw[List.length_take];lia
 rw[ds_take h,cof_app f n _ _ (by lia),ht]
 congr 1
 obtain⟨k,hk⟩:∃k,n-i=k+1:=⟨n-i-1,by lia⟩
 rw[hk]
 show 2^k*f d+cof f k []=_
 have:cof f k []=0:=by cases k<;>rfl
 rw[this]
 rfl
theorem half_pow {n i:Nat}(h:i<n):((2^(n-i):Nat):Int)/2=((2^(n-i-1):Nat):Int):=by
 have e:2^(n-i)=2^(n-i-1)*2:=by
  rw[<- Nat.pow_succ]
  congr 1
  lia
 rw[e]
 lia
theorem pow_4096 {n:Nat}(h:n<=12):2^n<=4096:=Nat.pow_le_pow_right (n:=2) (by decide) h
section
variable {P:Program}{w:World}{K:PySem.W.Frag}{mg:Str->Option Value}{base:Heap}
theorem scSide:FnScope ["n"] ["n"] (defScope sSide):=⟨rfl,rfl,rfl,by decide +kernel,rfl,by decide +kernel,by decide +kernel⟩
def spSide:Sp:=λvs H Q _=>∃n:Nat,vs=[.int (n:Nat)]/\n<=12/\Q (.int ((2^n:Nat):Int)) H
theorem ok_side {f:Addr}{fd:FuncData}(F:Fun K "side_of" "side_of" sSide f fd):FnOk P w K mg base CX0 1 f fd ["n"] spSide:=by
 refine F.ok scSide (λvs H Q E h=>?_) (λcdv A outer s H vs Q E hr h=>?_)
 ·obtain⟨n,rfl,_⟩:=h
  rfl
 ·obtain⟨n,rfl,h1,q⟩:=h
  refine⟨_,pss_one (ps_ret (pe_op op_shl pe_int (pv 0))),?_⟩
  refine⟨_,rfl,_,_,rfl,rfl,⟨by lia,by lia,by decide⟩,?_⟩
  show Q (V.int (1*2^((n:Nat):Int).toNat)) H
  rw[Int.one_mul,Int.toNat_natCast]
  have e:((2:Int)^n)=((2^n:Nat):Int):=by simp
  rw[e]
  exact q
theorem scQuart:FnScope ["row", "column", "k"] ["row", "column", "k"] (defScope sQuart):=⟨rfl,rfl,rfl,by decide +kernel,rfl,by decide +kernel,by decide +kernel⟩
def spQuart:Sp:=λvs H Q _=>∃r c k:Nat,vs=[.int (r:Nat),.int (c:Nat),.int (k:Nat)]/\Q (.int (qd r c k:Nat)) H
theorem ok_quart {f:Addr}{fd:FuncData}(F:Fun K "quarter_of" "quarter_of" sQuart f fd):FnOk P w K mg base CX0 1 f fd ["row", "column", "k"] spQuart:=by
 refine F.ok scQuart (λvs H Q E h=>?_) (λcdv A outer s H vs Q E hr h=>?_)
 ·obtain⟨r,c,k,rfl,_⟩:=h
  rfl
 ·obtain⟨r,c,k,rfl,q⟩:=h
  refine⟨_,pss_one (ps_ret (pe_op op_add (pe_op op_mul pe_int (pe_op op_and (pe_op op_shr (pv 0) (pv 2)) pe_int)) (pe_op op_and (pe_op op_shr (pv 1) (pv 2)) pe_int))),?_⟩
  refine⟨_,rfl,_,rfl,_,_,rfl,rfl,by lia,_,_,rfl,rfl,_,_,rfl,rfl,.inl ⟨by decide,by decide⟩,_,rfl,_,rfl,_,_,rfl,rfl,by lia,_,_,rfl,rfl,_,_,rfl,rfl,?_⟩
  rw[bit_nat,bit_nat]
  have e:(2:Int)*((r/2^k%2:Nat):Int)+((c/2^k%2:Nat):Int)=((qd r c k:Nat):Int):=by unfold qd;lia
  have qq:=q
  rw[<- e] at qq
  exact qq
theorem scAddr:FnScope ["n", "thing"] ["n", "thing"] (defScope sAddr):=⟨rfl,rfl,rfl,by decide +kernel,rfl,by decide +kernel,by decide +kernel⟩
def spAddr:Sp:=λvs H Q _=>∃(n:Nat) (ds:List Nat),vs=[.int (n:Nat),.str (txt ds)]/\n<=12/\(∀d∈ds,d<4)/\ds.length<=n/\∀H',Same H H'->Q (.bl true) H'
theorem ok_addr {f:Addr}{fd:FuncData}(F:Fun K "is_address" "is_address" sAddr f fd) (B:Blt mg) (hst:mg "str" = none):FnOk P w K mg base CX0 2 f fd ["n", "thing"] spAddr:=by
 refine F.ok scAddr (λvs H Q E h=>?_) (λcdv A outer s H vs Q E hr h=>?_)
 ·obtain⟨n,x,rfl,_⟩:=h
  rfl
 ·obtain⟨n,ds,rfl,hn,hds,hl,q⟩:=h
  refine⟨_,pss_one (ps_ret (pe_and (pe_callB call_isi (by rfl) B.isi PyProof.Rows.boot_isinstance (pa_cons (pv 1) (pa_cons (pe_bltn (v:=.ty "str") (by rfl) hst PyProof.Rows.boot_str rfl) pa_nil)))
   (pe_and (pe_cmpR op_le (pe_callB call_len_str (by rfl) B.len PySem.boot_len (pa_cons (pv 1) pa_nil)) (pv 0) (nomark _))
   (pe_one (pe_callB (call_allL rfl) (by rfl) B.all PyProof.Rows.boot_all (pa_cons (pe_compB ["n", "thing"] (defScope sAddr) rfl rfl rfl scAddr.nd (pi_str (pv 1)) (λcl C fp s₀ H₀=>pe_cmpR op_in_str (pv 0) pe_str (by first|exact nomark _|rfl|decide))) pa_nil)))))),?_⟩
  have hcs:(txt ds).cps.size=ds.length:=txt_size ds
  refine⟨_,rfl,_,_,_,_,true,rfl,rfl,.inl (.str _),rfl,_,rfl,iteT ?_⟩
  refine⟨_,rfl,txt ds,rfl,by rw[txt_len];exact Nat.le_of_lt (small1000 (by lia)),_,rfl,_,_,rfl,rfl,_,rfl,?_⟩
  rw[txt_len,decide_eq_true (by lia)]
  refine iteT ?_
  refine⟨_,rfl,txt ds,rfl,λD hD=>⟨λi m xs H2=>i<=ds.length/\m=ds.length-i/\xs=(List.replicate i true).map V.bl/\H2=upd H D (.lst xs),⟨_,Nat.zero_le _,rfl,rfl,rfl⟩,?_⟩⟩
  rintro i m xs H2 ⟨hi,rfl,rfl,rfl⟩
  refine⟨upd_same,small1000 (by simp;lia),?_⟩
  by_cases he:i=ds.length
  ·refine .inl ⟨by show (txt ds).cps.size<=i;lia,D,List.replicate i true,rfl,upd_same,?_⟩
   have e1:(List.replicate i true).all id=true:=by simp
   rw[e1]
   exact q _ λb o e=>by rw[upd_ne (ne_of_none e hD)];exact e
  ·refine .inr ⟨show i<(txt ds).cps.size by lia,?_⟩
   rintro y H3 ⟨rfl,c,hcc,rfl⟩
   obtain⟨d,hd,rfl⟩:=txt_at hcc
   refine⟨_,rfl,_,_,rfl,rfl,upd_same,ds.length-(i+1),by lia,by lia,rfl,?_,upd_upd⟩
   have e4:(!(Builtin.Str.occurrences "0123" ⟨#[48+d]⟩ 0 ("0123" : Str).length 1).isEmpty)=true:=four_fig (hds d (List.mem_of_getElem? hd))
   rw[e4,List.replicate_succ',List.map_append]
   rfl
theorem scWantA:FnScope ["n", "address"] ["n", "address"] (defScope sWantA):=⟨rfl,rfl,rfl,by decide +kernel,rfl,by decide +kernel,by decide +kernel⟩
def spWantA:Sp:=λvs H Q _=>∃(n:Nat) (ds:List Nat),vs=[.int (n:Nat),.str (txt ds)]/\n<=12/\(∀d∈ds,d<4)/\ds.length<=n/\∀H',Same H H'->Q .non H'
theorem ok_wantA {f fA:Addr}{fd fdA:FuncData}(F:Fun K "want_address" "want_address" sWantA f fd) (hA:mg "is_address" = some (.ref fA)) (FA:Fun K "is_address" "is_address" sAddr fA fdA) (bA:Binds K fdA ["n", "thing"] []) (GA:FnOk P w K mg base CX0 2 fA fdA ["n", "thing"] spAddr) :
  FnOk P w K mg base CX0 3 f fd ["n", "address"] spWantA:=by
 refine F.ok scWantA (λvs H Q E h=>?_) (λcdv A outer s H vs Q E hr h=>?_)
 ·obtain⟨n,x,rfl,_⟩:=h
  rfl
 ·obtain⟨n,ds,rfl,hn,hds,hl,q⟩:=h
  refine⟨_,pss_one (ps_if (pt_not (pt_val (pe_call GA hr (by rfl) hA FA.kp bA .nil pass0 (pa_cons (pv 0) (pa_cons (pv 1) pa_nil))))) pss_never pss_nil),?_⟩
  exact⟨_,rfl,_,rfl,n,ds,rfl,hn,hds,hl,λH' sm=>⟨_,rfl,iteF (q H' sm)⟩⟩
theorem scCell:FnScope ["n", "row", "column", "side"] ["n", "row", "column"] (defScope sCell):=⟨rfl,rfl,rfl,by decide +kernel,rfl,by decide +kernel,by decide +kernel⟩
def spCell:Sp:=λvs H Q _=>∃(n:Nat) (r c:Int),vs=[.int (n:Nat),.int r,.int c]/\n<=12/\Q (.bl (decide ((0<=r/\r<((2^n:Nat):Int))/\0<=c/\c<((2^n:Nat):Int)))) H
theorem ok_cell {f fW fS:Addr}{fd fdW fdS:FuncData}(F:Fun K "is_cell" "is_cell" sCell f fd) (B:Blt mg) (hW:mg "is_whole" = some (.ref fW)) (FW:Fun K "is_whole" "is_whole" sWhole fW fdW) (bW:Binds K fdW ["thing"] [])
  (hS:mg "side_of" = some (.ref fS)) (FS:Fun K "side_of" "side_of" sSide fS fdS) (bS:Binds K fdS ["n"] []):FnOk P w K mg base CX0 2 f fd ["n", "row", "column"] spCell:=by
 have GW:FnOk P w K mg base CX0 1 fW fdW ["thing"] spWhole:=ok_whole FW B
 have GS:FnOk P w K mg base CX0 1 fS fdS ["n"] spSide:=ok_side FS
 refine F.ok scCell (λvs H Q E h=>?_) (λcdv A outer s H vs Q E hr h=>?_)
 ·obtain⟨n,x,y,rfl,_⟩:=h
  rfl
 ·obtain⟨n,r,c,rfl,hn,q⟩:=h
  refine⟨_,pss_cons (ps_set (i:=3) scCell.nd rfl (Or.inl rfl) (pe_call GS hr (by rfl) hS FS.kp bS .nil pass0 (pa_cons (pv 0) pa_nil)))
   (pss_one (ps_ret (pe_and (pe_call GW hr (by rfl) hW FW.kp bW .nil pass0 (pa_cons (pv 1) pa_nil))
    (pe_and (pe_call GW hr (by rfl) hW FW.kp bW .nil pass0 (pa_cons (pv 2) pa_nil))
    (pe_and (pe_chain op_le op_lt pe_int (pv 1) (pv 3)) (pe_one (pe_chain op_le op_lt pe_int (pv 2) (pv 3)))))))),?_⟩
  refine⟨_,rfl,n,rfl,hn,?_⟩
  refine⟨_,rfl,r,rfl,_,rfl,iteT ?_⟩
  refine⟨_,rfl,c,rfl,_,rfl,iteT ?_⟩
  refine⟨_,rfl,_,_,rfl,rfl,_,rfl,?_⟩
  generalize ((2^n:Nat):Int)=m at q ⊢
  have q':Q (.bl ((decide (0<=r)&&decide (r<m))&&(decide (0<=c)&&decide (c<m)))) H:=by
   simpa only [Bool.decide_and] using q
  refine ite2 (λa1=>⟨_,rfl,_,_,rfl,rfl,_,rfl,?_⟩) (λa1=>⟨_,rfl,iteF ?_⟩)
  ·rw[a1,Bool.true_and] at q'
   refine ite2 (λa2=>⟨_,rfl,_,_,rfl,rfl,_,rfl,?_⟩) (λa2=>?_)
   ·rw[a2,Bool.true_and] at q'
    refine ite2 (λa3=>⟨_,rfl,_,_,rfl,rfl,?_⟩) (λa3=>?_)
    ·rw[a3,Bool.true_and] at q'
     exact q'
    ·rw[Bool.eq_false_iff.mpr a3,Bool.false_and] at q'
     exact q'
   ·rw[Bool.eq_false_iff.mpr a2,Bool.false_and] at q'
    exact q'
  ·rw[Bool.eq_false_iff.mpr a1,Bool.false_and,Bool.false_and] at q'
   exact q'
theorem scBoxAt:FnScope ["n", "address", "row", "column", "side", "figure"] ["n", "address"] (defScope sBoxAt):=⟨rfl,rfl,rfl,by decide +kernel,rfl,by decide +kernel,by decide +kernel⟩
abbrev rwo (n:Nat) (ds:List Nat):Nat:=cof (· / 2) n ds
abbrev clo (n:Nat) (ds:List Nat):Nat:=cof (·%2) n ds
def spBoxAt:Sp:=λvs H Q _=>∃(n:Nat) (ds:List Nat),vs=[.int (n:Nat),.str (txt ds)]/\n<=12/\(∀d∈ds,d<4)/\ds.length<=n /\
 ∀p,H p=none->Q (.ref p) (upd H p (.tup (vN [rwo n ds,clo n ds,2^(n-ds.length)])))
theorem ok_boxAt {f fS:Addr}{fd fdS:FuncData}(F:Fun K "box_at" "box_at" sBoxAt f fd) (B:Blt mg)
  (hS:mg "side_of" = some (.ref fS)) (FS:Fun K "side_of" "side_of" sSide fS fdS) (bS:Binds K fdS ["n"] []):FnOk P w K mg base CX0 2 f fd ["n", "address"] spBoxAt:=by
 have GS:FnOk P w K mg base CX0 1 fS fdS ["n"] spSide:=ok_side FS
 refine F.ok scBoxAt (λvs H Q E h=>?_) (λcdv A outer s H vs Q E hr h=>?_)
 ·obtain⟨m,ds,rfl,_⟩:=h
  rfl
 ·obtain⟨n,ds,rfl,hn,hds,hl,q⟩:=h
  refine⟨_,(pss_cons (ps_asg2 pe_int (pg_name (i:=2) scBoxAt.nd rfl (Or.inl rfl)) (pg_name (i:=3) scBoxAt.nd rfl (Or.inl rfl)))
   (pss_cons (ps_set (i:=4) scBoxAt.nd rfl (Or.inl rfl) (pe_call GS hr (by rfl) hS FS.kp bS .nil pass0 (pa_cons (pv 0) pa_nil)))
   (pss_cons (ps_for PassesOwn.never rfl (pi_str (pv 1)) (pg_name (i:=5) scBoxAt.nd rfl (Or.inl rfl))
    (pss_cons (ps_set (i:=4) scBoxAt.nd rfl (Or.inl rfl) (pe_op op_fdiv (pv 4) pe_int))
    (pss_cons (ps_aug (i:=2) scBoxAt.nd rfl (Or.inl rfl) (pe_op op_mul (pv 4) (pe_op op_fdiv (pe_callTy call_intS (by rfl) B.int PyProof.Rows.boot_int (pa_cons (pv 5) pa_nil)) pe_int)) iop_add)
    (pss_one (ps_aug (i:=3) scBoxAt.nd rfl (Or.inl rfl) (pe_op op_mul (pv 4) (pe_op op_and (pe_callTy call_intS (by rfl) B.int PyProof.Rows.boot_int (pa_cons (pv 5) pa_nil)) pe_int)) iop_add)))))
   (pss_one (ps_ret (pe_tup (pa_cons (pv 2) (pa_cons (pv 3) (pa_cons (pv 4) pa_nil)))))))) ),?_⟩
  refine⟨_,rfl,n,rfl,hn,?_⟩
  have c0:∀g:Nat->Nat,cof g n []=0:=λg=>by cases n<;>rfl
  refine⟨_,rfl,txt ds,rfl,for_str (λi σ H2=>H2=H/\∃v,σ=[some (.int (n:Nat)),some (.str (txt ds)),some (.int ((rwo n (ds.take i):Nat):Int)),some (.int ((clo n (ds.take i):Nat):Int)),some (.int ((2^(n-i):Nat):Int)),v]) ⟨rfl,none,by
   rw[List.take_zero]
   show _=[some (V.int (n:Nat)),some (.str (txt ds)),some (.int ((cof (· / 2) n []:Nat):Int)),some (.int ((cof (·%2) n []:Nat):Int)),some (.int ((2^(n-0):Nat):Int)),none]
   rw[c0,c0]
   rfl⟩ ?_ ?_⟩
  ·rintro i c σ H2 hc ⟨rfl,v,rfl⟩
   obtain⟨d,hd,rfl⟩:=txt_at hc
   have hi:=(List.getElem?_eq_some_iff.mp hd).1
   have hd4:d<4:=hds d (List.mem_of_getElem? hd)
   have h1:rwo n (ds.take (i+1))=rwo n (ds.take i)+2^(n-i-1)*(d/2):=cof_step hd hl
   have h2:clo n (ds.take (i+1))=clo n (ds.take i)+2^(n-i-1)*(d%2):=cof_step hd hl
   have h3:=half_pow (n:=n) (i:=i) (by lia)
   have h4:2^(n-i-1)<=4096:=pow_4096 (by lia)
   have hb4:-(2^64)<((2^(n-i):Nat):Int)/2/\((2^(n-i):Nat):Int)/2<2^64:=by
    rw[h3]
    generalize 2^(n-i-1)=x at h4
    lia
   refine⟨_,rfl,_,_,rfl,rfl,⟨by decide,by decide⟩,?_⟩
   refine⟨_,rfl,_,rfl,_,rfl,_,d,rfl,int_fig hd4,(by show 1<=640;decide),_,_,rfl,rfl,⟨by decide,by decide⟩,_,_,rfl,rfl,.inl hb4,_,_,rfl,rfl,?_⟩
   refine⟨_,rfl,_,rfl,_,rfl,_,d,rfl,int_fig hd4,(by show 1<=640;decide),_,_,rfl,rfl,_,_,rfl,rfl,.inl hb4,_,_,rfl,rfl,?_⟩
   refine⟨rfl,some (.str ⟨#[48+d]⟩),?_⟩
   rw[h1,h2]
   have e1:((rwo n (ds.take i):Nat):Int)+((2^(n-i-1):Nat):Int)*((d:Int)/2)=((rwo n (ds.take i)+2^(n-i-1)*(d/2):Nat):Int):=by
    rw[Int.natCast_add,Int.natCast_mul,Int.natCast_ediv]
    rfl
   have e2:((clo n (ds.take i):Nat):Int)+((2^(n-i-1):Nat):Int)*Builtin.bitAnd (d:Int) 1=((clo n (ds.take i)+2^(n-i-1)*(d%2):Nat):Int):=by
    rw[PyProof.Rows.bitAnd_m1,Int.natCast_add,Int.natCast_mul,Int.natCast_emod]
    rfl
   rw[<- e1,<- e2,show n-(i+1)=n-i-1 from by lia,<- h3]
   rfl
  ·rintro σ H2 ⟨rfl,v,rfl⟩
   refine⟨_,rfl,_,rfl,_,rfl,(by show 3<=sizeLine;decide),λp hpn=>?_⟩
   have e:ds.take (txt ds).cps.size=ds:=List.take_of_length_le (by simp[txt])
   rw[e,txt_size]
   exact q p hpn
theorem scAddrAt:FnScope ["n", "row", "column", "size"] ["n", "row", "column", "size"] (defScope sAddrAt):=⟨rfl,rfl,rfl,by decide +kernel,rfl,by decide +kernel,by decide +kernel⟩
def spAddrAt:Sp:=λvs H Q _=>∃n k r c:Nat,vs=[.int (n:Nat),.int (r:Nat),.int (c:Nat),.int (k:Nat)]/\n<=12/\k<=n/\∀H',Same H H'->Q (.str (txt (dgp r c k (n-k)))) H'
theorem ok_addrAt {f fQ:Addr}{fd fdQ:FuncData}(F:Fun K "address_at" "address_at" sAddrAt f fd) (B:Blt mg) (hst:mg "str" = none)
  (hQ:mg "quarter_of" = some (.ref fQ)) (FQ:Fun K "quarter_of" "quarter_of" sQuart fQ fdQ) (bQ:Binds K fdQ ["row", "column", "k"] []):FnOk P w K mg base CX0 2 f fd ["n", "row", "column", "size"] spAddrAt:=by
 have GQ:FnOk P w K mg base CX0 1 fQ fdQ ["row", "column", "k"] spQuart:=ok_quart FQ
 refine F.ok scAddrAt (λvs H Q E h=>?_) (λcdv A outer s H vs Q E hr h=>?_)
 ·obtain⟨m,j,r,c,rfl,_⟩:=h
  rfl
 ·obtain⟨n,k,r,c,rfl,hn,hk,q⟩:=h
  refine⟨_,pss_one (ps_ret (pe_bm PySem.F.plainAttrs_str PySem.F.slot_str_join PySem.F.type_str_join mt_join pe_str (pa_cons (pe_compB ["n", "row", "column", "size"] (defScope sAddrAt) rfl rfl rfl scAddrAt.nd
    (pi_down (by rfl) B.range (pa_cons (pe_op op_sub (pv 0) pe_int) (pa_cons (pe_op op_sub (pv 3) pe_int) (pa_cons (pe_un un_neg pe_int) pa_nil))))
    (λcl C fp s₀ H₀=>pe_callTy call_str_int (by rfl) hst PyProof.Rows.boot_str (pa_cons (pe_call GQ hr (by rfl) hQ FQ.kp bQ .nil pass0 (pa_cons (pv 2) (pa_cons (pv 3) (pa_cons (pv 0) pa_nil)))) pa_nil))) pa_nil))),?_⟩
  refine⟨rfl,?_⟩
  refine⟨_,rfl,_,_,rfl,rfl,_,rfl,_,_,rfl,rfl,_,rfl,(n:Int)-1,(k:Int)-1,rfl,⟨by lia,by lia,by lia,by lia⟩,λD hD=>?_⟩
  have eN:((n:Int)-1-((k:Int)-1)).toNat=n-k:=by lia
  rw[eN]
  rw[dgp_range] at q
  generalize hNn:n-k=NN at q ⊢
  have eq0:∀i,i<NN->qd r c (k+NN-1-i)=qd r c ((n:Int)-1-(i:Int)).toNat:=λi hi=>by congr 1;lia
  refine⟨λi cnt xs H2=>i<=NN/\cnt=NN-i/\xs=((List.range i).map λi=>qd r c (k+NN-1-i)).map (λd=>V.str ⟨#[48+d]⟩)/\H2=upd H D (.lst xs),⟨_,Nat.zero_le _,rfl,rfl,rfl⟩,?_⟩
  rintro i cnt xs H2 ⟨hi,rfl,rfl,rfl⟩
  refine⟨upd_same,small1000 (by simp;lia),?_⟩
  by_cases he:i=NN
  ·subst he
   refine .inl ⟨Nat.le_refl _, "",D,((List.range i).map λj=>qd r c (k+i-1-j)).map (λd=>(⟨#[48+d]⟩:Str)),rfl,rfl,?_,?_,?_⟩
   ·rw[upd_same]
    simp only[List.map_map]
    rfl
   ·have e1:∀l:List Nat,((l.map (λd=>(⟨#[48+d]⟩:Str))).map (·.length)).sum=l.length:=λl=>by
     induction l with
     |nil=>rfl
     |cons a l ih=>
      rw[List.map_cons,List.map_cons,List.sum_cons,ih,List.length_cons]
      show 1+l.length=l.length+1
      lia
    rw[e1]
    have e3:("" : Str).length=0:=by decide +kernel
    rw[e3,List.length_map,List.length_range]
    lia
   ·rw[join_txt]
    exact q _ λb o e=>by rw[upd_ne (ne_of_none e hD)];exact e
  ·refine .inr ⟨show i<NN by lia,?_⟩
   rintro yv H3 ⟨rfl,rfl⟩
   have hk0:(n:Int)-1-(i:Int)=(((n:Int)-1-(i:Int)).toNat:Int):=by lia
   refine⟨_,rfl,_,rfl,_,rfl,r,c,((n:Int)-1-(i:Int)).toNat,by rw[<- hk0];rfl,_,rfl,?_,upd_same,NN-(i+1),by lia,by lia,rfl,?_,upd_upd⟩
   ·have:=qd_lt r c ((n:Int)-1-(i:Int)).toNat
    generalize qd r c ((n:Int)-1-(i:Int)).toNat=d at this
    match d,this with
    |0,_|1,_|2,_|3,_=>decide +kernel
   ·rw[fig_text (qd_lt _ _ _),List.range_succ,List.map_append,List.map_append,<- eq0 i (by lia)]
    rfl
end
end Pr
namespace Qf
open Tr
theorem lvs_any (a b:Nat):∀(k k':Nat) (t:Tr),a<4->b<4->dep t<=k->dep t<=k'->lvs a b k t=lvs a b k' t
 |_,_,.z,_,_,_,_=>by rw[lvs_plain (.inl rfl),lvs_plain (.inl rfl)]
 |_,_,.o,_,_,_,_=>by rw[lvs_plain (.inr rfl),lvs_plain (.inr rfl)]
 |0,_,.nd p q r s,_,_,h,_=>by rcases dep0 h with z|z<;>cases z
 |_+1,0,.nd p q r s,_,_,_,h=>by rcases dep0 h with z|z<;>cases z
 |k+1,k'+1,.nd p q r s,ha,hb,h,h'=>by
  show (lvs a b k (qr a (.nd p q r s))).map (a::·)++(lvs a b k (qr b (.nd p q r s))).map (b::·)=(lvs a b k' (qr a (.nd p q r s))).map (a::·)++(lvs a b k' (qr b (.nd p q r s))).map (b::·)
  rw[lvs_any a b k k' _ ha hb (dep_qr ha _ h) (dep_qr ha _ h'),lvs_any a b k k' _ ha hb (dep_qr hb _ h) (dep_qr hb _ h')]
theorem dep_wdn2:∀(t:Tr) (ds:List Nat) (k:Nat),(∀d∈ds,d<4)->dep t<=k+ds.length->(wdn t ds).2=ds->dep (wdn t ds).1<=k
 |t,[],k,_,h,_=>by rw[wdn_nil];exact h
 |.z,x::ds,k,_,_,e=>by cases e
 |.o,x::ds,k,_,_,e=>by cases e
 |.nd a b c e,x::ds,k,hd,h,h2=>by
  have h3:(wdn (qr x (.nd a b c e)) ds).2=ds:=by
   have:x::(wdn (qr x (.nd a b c e)) ds).2=x::ds:=h2
   injection this
  exact dep_wdn2 (qr x (.nd a b c e)) ds k (λd hm=>hd d (List.mem_cons_of_mem _ hm)) (dep_qr (k:=k+ds.length) (hd x (by simp)) _ h) h3
theorem cof_mul {f:Nat->Nat}(hf:∀d,d<4->f d<=1):∀(ds:List Nat) (n:Nat),(∀d∈ds,d<4)->ds.length<=n->∃q,cof f n ds=2^(n-ds.length)*q/\q<2^ds.length
 |[],n,_,_=>⟨0,by cases n<;>rfl,by simp⟩
 |d::ds,0,_,h=>by simp at h
 |d::ds,n+1,hd,h=>by
  have h':ds.length<=n:=by simpa using h
  obtain⟨q,e,hq⟩:=cof_mul hf ds n (λx hx=>hd x (List.mem_cons_of_mem _ hx)) h'
  refine⟨2^ds.length*f d+q,?_,?_⟩
  ·show 2^n*f d+cof f n ds=2^(n+1-(ds.length+1))*_
   rw[e,Nat.add_sub_add_right,Nat.mul_add,<- Nat.mul_assoc,<- Nat.pow_add,Nat.sub_add_cancel h']
  ·have:=hf d (hd d (by simp))
   show _<2^(ds.length+1)
   rw[Nat.pow_succ]
   have h2:2^ds.length*f d<=2^ds.length*1:=Nat.mul_le_mul_left _ this
   lia
theorem cof_in {f:Nat->Nat}(hf:∀d,d<4->f d<=1){ds:List Nat}{n:Nat}(hd:∀d∈ds,d<4) (h:ds.length<=n):cof f n ds+2^(n-ds.length)<=2^n:=by
 obtain⟨q,e,hq⟩:=cof_mul hf ds n hd h
 have e2:2^n=2^(n-ds.length)*2^ds.length:=by rw[<- Nat.pow_add,Nat.sub_add_cancel h]
 rw[e,e2,<- Nat.mul_succ]
 exact Nat.mul_le_mul_left _ hq
theorem half_le:∀d,d<4->d/2<=1:=λd h=>by lia
theorem odd_le:∀d,d<4->d%2<=1:=λd h=>by lia
theorem bit_low {k i:Nat}(c y:Nat) (h:i<k):(2^k*c+y)/2^i%2=y/2^i%2:=by
 obtain⟨j,rfl⟩:∃j,k=i+(j+1):=⟨k-i-1,by lia⟩
 have e:2^(i+(j+1))*c+y=y+2^i*(2*(2^j*c)):=by
  rw[Nat.pow_add,Nat.pow_succ,Nat.add_comm]
  congr 1
  rw[Nat.mul_assoc,Nat.mul_comm (2^j) 2,Nat.mul_assoc]
 rw[e,Nat.add_mul_div_left _ _ (Nat.pow_pos (by decide))]
 lia
theorem bit_ones {k i:Nat}(h:i<k):(2^k-1)/2^i%2=1:=by
 have h1:=Nat.testBit_two_pow_sub_one k i
 rw[decide_eq_true h,Nat.testBit_eq_decide_div_mod_eq] at h1
 exact of_decide_eq_true h1
theorem bit_high {k:Nat}(c y:Nat) (h:y<2^k):(2^k*c+y)/2^k=2^k*c/2^k:=by
 rw[Nat.mul_add_div (Nat.pow_pos (by decide)),Nat.div_eq_of_lt h,Nat.add_zero,Nat.mul_div_cancel_left _ (Nat.pow_pos (by decide))]
theorem dgp_low (k r c x y:Nat):∀j,j<=k->dgp (2^k*r+x) (2^k*c+y) 0 j=dgp x y 0 j
 |0,_=>rfl
 |j+1,h=>by
  show (2*((2^k*r+x)/2^(0+j)%2)+(2^k*c+y)/2^(0+j)%2)::dgp (2^k*r+x) (2^k*c+y) 0 j=(2*(x/2^(0+j)%2)+y/2^(0+j)%2)::dgp x y 0 j
  rw[Nat.zero_add,bit_low r x (by lia),bit_low c y (by lia),dgp_low k r c x y j (by lia)]
theorem dgp_cell {k m r c x y:Nat}(hx:x<2^k) (hy:y<2^k):dgp (2^k*r+x) (2^k*c+y) 0 (k+m)=dgp (2^k*r) (2^k*c) k m++dgp x y 0 k:=by
 rw[dgp_app,dgp_low k r c x y k (Nat.le_refl _),dgp_congr (bit_high r x hx) (bit_high c y hy)]
theorem zero_bit (i:Nat):0/2^i%2=0:=by rw[Nat.zero_div]
theorem low_0 (k j:Nat):dgp (2^k-1) j 0 k=bd 2 3 k j:=dgp_bdh (ρ:=1) k (λi hi=>bit_ones hi) (λi _=>rfl)
theorem low_2 (k j:Nat):dgp 0 j 0 k=bd 0 1 k j:=dgp_bdh (ρ:=0) k (λi _=>zero_bit i) (λi _=>rfl)
theorem low_1 (k j:Nat):dgp j 0 0 k=bd 0 2 k j:=dgp_bdv (γ:=0) k (λi _=>zero_bit i) (λi _=>rfl)
theorem low_3 (k j:Nat):dgp j (2^k-1) 0 k=bd 1 3 k j:=dgp_bdv (γ:=1) k (λi hi=>bit_ones hi) (λi _=>rfl)
theorem row_next {k m r c:Nat}(hr:r<2^m):cof (· / 2) (k+m) (dgp (2^k*r) (2^k*c) k m)=2^k*r:=by
 rw[cof_dgp (g:=λx _=>x) (λx y hx hy=>by show (2*x+y)/2=x;lia) (2^k*r) (2^k*c) k (2^k*r) (λj=>rfl) m]
 rw[Nat.mul_div_cancel_left _ (Nat.pow_pos (by decide)),Nat.mod_eq_of_lt hr,Nat.mul_comm]
theorem col_next {k m r c:Nat}(hc:c<2^m):cof (·%2) (k+m) (dgp (2^k*r) (2^k*c) k m)=2^k*c:=by
 rw[cof_dgp (g:=λ_ y=>y) (λx y hx hy=>by show (2*x+y)%2=y;lia) (2^k*r) (2^k*c) k (2^k*c) (λj=>rfl) m]
 rw[Nat.mul_div_cancel_left _ (Nat.pow_pos (by decide)),Nat.mod_eq_of_lt hc,Nat.mul_comm]
theorem leaf_at {t:Tr}{q l:List Nat}:(wdn t (q++l)).2=(wdn t q).2++(wdn (wdn t q).1 l).2:=by
 rcases wdn_app t q l with ⟨h1,h2⟩|⟨h1,h2⟩
 ·rw[h2,h1]
 ·rw[h2,wdn_plain h1];simp
end Qf
namespace L2
open PySem PySem.Spec PyProof.Rows
def ItEs (z:Str):It:=⟨λi _=>i<z.cps.size,λi H y H'=>∃p c,H p=none/\z.cps[i]?=some c/\H'=upd H p (.tup [.int i,.str ⟨#[c]⟩])/\y=.ref p,λi _=>z.cps.size<=i⟩
theorem turn_enumS {P:Program}{w:World}{K:PySem.W.Frag}{elts:List Expr}{x1:Nat}{tpos:Pos}(z:Str) (t:Tok) (e it:Addr) (hne:e≠it) :
  Turn P w K (.Tuple elts x1 tpos) (ItEs z) [e,it] e (λi h=>i<=z.cps.size/\(∃old,IsEnum h e it i old)/\h.IsStrIter it "str_ascii_iterator" z t i) where
 mem:=by simp
 obj:=λi h st b hb=>by
  rcases List.mem_cons.mp hb with rfl|hb
  ·obtain⟨_,⟨old,z⟩,_⟩:=st
   exact⟨_,z,λv q=>by
    have q':Data.fields _=Data.cell v:=q
    cases q'⟩
  ·have:b=it:=by simpa using hb
   subst this
   obtain⟨_,_,o,z,_,d⟩:=st
   exact⟨o,z,λv q=>by rw[d] at q;cases q⟩
 keep:=λi h h' st k=>by
  obtain⟨hi,⟨old,z⟩,o,q,r⟩:=st
  exact⟨hi,⟨old,k e (by simp) _ z⟩,o,k it (by simp) o q,r⟩
 item:=by
  intro X hP hw hK hc i pins s σ H E I hf st hg
  subst hP hw hK
  obtain⟨hi,⟨old,he⟩,st2⟩:=st
  obtain⟨e0,e1,e2,e3,e4,e5⟩:=hf e (by simp)
  obtain⟨f0,f1,f2,f3,f4,f5⟩:=hf it (by simp)
  have hg':i<z.cps.size:=hg
  have D:=Draws.strAscii (prog:=X.prog) (w:=X.w) (A:=X.A.in1) (show X.A.in1.handled=none from I.ok.hd hc) it z t
  refine wpAny_pyNext_enum_itemD D he st2 hg' hne (by simpa using hne) λx h' tk hx ho st3 ht hsz kp=>?_
  obtain⟨c,u,hcc,rfl⟩:=hx
  refine⟨_,rfl,wpAny_letOwnedTupleGo_enum ho λh2 he2 sb2=>?_⟩
  have elt:e<s.heap.objs.size:=Heap.lt_size he
  have ilt:it<s.heap.objs.size:=by obtain⟨o,z,_⟩:=st2;exact Heap.lt_size z
  have fresh:H s.heap.objs.size=none:=I.hok.fresh (Nat.le_refl _)
  have J0:Inv X pins σ (upd H s.heap.objs.size (.tup [.int i,.str ⟨#[c]⟩])) { s with heap:=s.heap.push { cls:=.type "tuple",data:=.seq #[.int i tk,.str ⟨#[c]⟩ u] },toks:=tk+1 }:=
   I.laid (λb o q=>Heap.get?_push_of_some _ q) (Nat.le_refl _) ⟨by show 2<=sizeLine;decide,[.int i tk,.str ⟨#[c]⟩ u],.cons ⟨_,rfl⟩ (.cons ⟨_,rfl⟩ .nil),_,Heap.get?_push_size _ rfl,rfl,⟨_,rfl⟩,rfl⟩
  have ne1:(upd H s.heap.objs.size (.tup [.int i,.str ⟨#[c]⟩])) it=none:=by rw[upd_ne (Nat.ne_of_lt ilt)];exact f0
  have ne2:(upd H s.heap.objs.size (.tup [.int i,.str ⟨#[c]⟩])) e=none:=by rw[upd_ne (Nat.ne_of_lt elt)];exact e0
  have J1:=J0.turned (it:=it) (h':=h'.update e λ_=>{ cls:=.type "enumerate",dict:=none,data:=.fields #[.none,.bool false,.ref it,rawInt i,.none,old],slots:=#[] }) (t':=tk+1) (λb o hb q=>by
    have q:(s.heap.push { cls:=.type "tuple",data:=.seq #[.int i tk,.str ⟨#[c]⟩ u] }).get? b=some o:=q
    by_cases hbe:b=e
    ·subst hbe
     have q':s.heap.get? b=some o:=push_lt q elt
     rw[he] at q'
     cases q'
     exact Heap.get?_update_self _ ho rfl
    ·refine ((Heap.SameBut.update ..).2 b hbe).trans ?_
     by_cases hlt:b<s.heap.objs.size
     ·exact kp b o hbe hb (push_lt q hlt)
     ·have hb2:b<s.heap.objs.size+1:=by have:=Heap.lt_size q;rw[Heap.size_push] at this;exact this
      have eb:b=s.heap.objs.size:=Nat.le_antisymm (Nat.le_of_lt_succ hb2) (Nat.le_of_not_lt hlt)
      subst eb
      rw[Heap.get?_push_size _ rfl] at q
      cases q
      exact ht) ne1 f1 f3 f4 f5
  have J2:=J1.turned (it:=e) (h':=h') (t':=tk+1) (λb o hb q=>by
    rw[<- q]
    exact ((Heap.SameBut.update ..).2 b hb).symm) ne2 e1 e3 e4 e5
  have J3:=J2.turned (it:=e) (h':=h2) (t':=tk+1) (λb o hb q=>(sb2.2 b hb).trans q) ne2 e1 e3 e4 e5
  refine⟨.ref s.heap.objs.size,_,J3,rfl,⟨_,c,fresh,hcc,rfl,rfl⟩,⟨hg',⟨_,by
   have:(((i+1:Nat)):Int)=(i:Int)+1:=by lia
   rw[this];exact he2⟩,?_⟩,λb hb=>?_⟩
  ·obtain⟨o,q,r⟩:=st3
   exact⟨o,(sb2.2 it (Ne.symm hne)).trans q,r⟩
  ·rcases List.mem_cons.mp hb with rfl|hb
   ·exact ne2
   ·have:b=it:=by simpa using hb
    subst this
    exact ne1
 done:=by
  intro X hP hw hK hc i pins s σ H E I hf st hg
  subst hP hw hK
  obtain⟨hi,⟨old,he⟩,st2⟩:=st
  obtain⟨f0,f1,f2,f3,f4,f5⟩:=hf it (by simp)
  have hi:i=z.cps.size:=Nat.le_antisymm hi hg
  subst hi
  have D:=Draws.strAscii (prog:=X.prog) (w:=X.w) (A:=X.A.in1) (show X.A.in1.handled=none from I.ok.hd hc) it z t
  exact wpAny_pyNext_enum_endD D he st2 λh' eb=>⟨rfl,I.turned (t':=s.toks) (λb o hb e=>eb b o hb e) f0 f1 f3 f4 f5⟩
 self:=λ_ _ _ _ _ st h=>by
  obtain⟨_,⟨old,he⟩,_⟩:=st
  exact wpAny_pyIter_enum he h
section
variable {X:Cx}{elts:List Expr}{x1:Nat}{tpos:Pos}
def iEnumS (ta:TA):TI:=λσ H R=>ta σ H λvs H1=>∃z:Str,vs=[.str z]/\z.cps.all (·<128)=true/\R (ItEs z) H1
theorem pi_enumS {e:Expr}{ta:TA}{p pos:Pos}(hg:Gl X "enumerate") (hm:X.mg "enumerate" = none) (ha:PA X [e] ta) (hs:starEach [e] X.env=[(false,eval e X.env)]:=by rfl):PI X (.Tuple elts x1 tpos) (.Call (.Name "enumerate" p) [e] [] pos) (iEnumS ta):=by
 intro pins s σ H R I h
 refine Call_ (ld_blt I hg hm PyProof.Rows.boot_enumerate (PyProof.Rows.callWith_type1 (thn (ha pos pins s σ H _ I h) λus s1 ⟨vs,H1,I1,r1,q1⟩=>?_) hs rfl))
 obtain⟨z,rfl,hz,q⟩:=q1
 obtain⟨u,rfl,ru⟩:=vals1 r1
 obtain⟨t,rfl⟩:=ru
 refine call_enumerate_str λh' he st _ kp=>?_
 have ek:strIterType z = "str_ascii_iterator":=by unfold strIterType;rw[if_pos hz]
 rw[ek] at st
 refine wpAny_pyIter_enum he ?_
 have J:Inv X pins σ H1 { s1 with heap:=h' }:=I1.kept (t':=s1.toks) kp
 refine⟨s1.heap.objs.size+1,[s1.heap.objs.size+1,s1.heap.objs.size],_,_,H1,rfl,J,turn_enumS z t _ _ (Nat.succ_ne_self _),⟨Nat.zero_le _,⟨.none,he⟩,st⟩,λb hb=>?_,q⟩
 rcases List.mem_cons.mp hb with rfl|hb
 ·exact I1.fpOk (Nat.le_succ _) (I1.hok.fresh (Nat.le_succ _))
 ·have:b=s1.heap.objs.size:=by simpa using hb
  subst this
  exact I1.fpOk (Nat.le_refl _) (I1.hok.fresh (Nat.le_refl _))
theorem mt_starts:MtR X "str.startswith" (λx xs H Q=>∃(a y:Str),x=.str a/\xs=[.str y]/\Q (.bl (Txt.startswith a y)) H):=by
 intro pins s σ H x xs v us Q I rx rv h
 obtain⟨a,y,rfl,rfl,q⟩:=h
 obtain⟨t,rfl⟩:=rx
 obtain⟨u,rfl,ru⟩:=rv.one
 obtain⟨t2,rfl⟩:=ru
 exact SC.startswith ⟨.bl _,H,I,rfl,q⟩
theorem sl_strTo:SlR X (λx lo hi H Q=>∃(z:Str) (j:Int),x=.str z/\lo=none/\hi=some j/\z.length<=sizeLine/\Q (.str (Txt.slice z none (some j))) H):=by
 intro pins s σ H x v vl vu lo hi sl Q I rx hs pl pu h
 obtain⟨z,j,rfl,rfl,rfl,hz,q⟩:=h
 obtain⟨t,rfl⟩:=rx
 cases pl
 cases pu with
 |int i uj=>
  refine⟨"str",_,F.slot_str_getitem.lookup,typeIs_str _ _ _,wpAny_getItem_str_slice (l:=none) (u:=some (j,uj)) (st:=none) hs rfl (post_val_or_str ⟨Nat.le_trans (Txt.slice_le z _ _) hz,λt' k=>?_⟩)⟩
  exact⟨.str _,H,I.tok _,⟨_,rfl⟩,q⟩
end
theorem for_enumS {z:Str}{g:TG}{tb:TS}{D:Ends}{σ:St}{H:Hp}(Pv:Nat->St->Hp->Prop) (h0:Pv 0 σ H)
  (hs:∀i c σ H p,z.cps[i]?=some c->Pv i σ H->H p=none->g (.ref p) σ (upd H p (.tup [.int i,.str ⟨#[c]⟩])) λσ2 H2=>tb { D with nx:=Pv (i+1),ct:=Pv (i+1),bk:=D.nx } σ2 H2) (hd:∀σ H,Pv z.cps.size σ H->D.nx σ H) :
  ∃W:Nat->Nat->St->Hp->Prop,(∃m,W 0 m σ H)/\∀i m σ H,W i m σ H ->
   ((ItEs z).stop i H/\D.nx σ H)\/((ItEs z).go i H/\∃N:St->Hp->Prop,(∀σ' H',N σ' H'->∃m',m'<m/\W (i+1) m' σ' H')/\∀x H',(ItEs z).yld i H x H'->g x σ H' λσ2 H2=>tb { D with nx:=N,ct:=N,bk:=D.nx } σ2 H2):=by
 refine⟨λi m σ H=>m=z.cps.size-i/\i<=z.cps.size/\Pv i σ H,⟨z.cps.size,by simp,Nat.zero_le _,h0⟩,?_⟩
 rintro i m σ H ⟨rfl,hi,p⟩
 by_cases hlt:i<z.cps.size
 ·refine .inr ⟨hlt,Pv (i+1),λσ' H' p'=>⟨z.cps.size-(i+1),by lia,rfl,hlt,p'⟩,λx H' y=>?_⟩
  obtain⟨b,c,e0,e1,e2,e3⟩:=y
  subst e2 e3
  exact hs i c σ _ b e1 p e0
 ·have e:i=z.cps.size:=by lia
  subst e
  exact .inl ⟨Nat.le_refl _,hd σ H p⟩
end L2
namespace Pr
open PySem L2 Qf
def KTup (K:PySem.W.Frag) (a:Addr) (xs:List V):Prop:=∃(o:Obj) (its:Array Value) (n:Nat),K.lookup a=some o/\o.cls=.type "tuple" /\ o.data=.seq its n/\its.size<=sizeLine/\Vals xs its.toList
end Pr
namespace Sp
open PySem PySem.StrLaws Builtin Builtin.Str
def ofL (l:List Nat):Str:=⟨l.toArray⟩
theorem toL_ofL (l:List Nat):(ofL l).cps.toList=l:=by simp[ofL]
end Sp
namespace Pr
open PySem L2 Qf Sp
theorem txt_of (ds:List Nat):txt ds=ofL (ds.map (48+·)):=rfl
theorem ofL_len' (l:List Nat):(ofL l).length=l.length:=by simp[ofL,Str.length]
theorem slice_to (l:List Nat){j:Nat}(h:j<=l.length):Txt.slice (ofL l) none (some (j:Int))=ofL (l.take j):=by
 have h:=PyProof.Rows.slice_closes_toL (x:=ofL l) (j:=(j:Int)) (by lia) (by rw[ofL_len'];lia)
 rw[eq_of_beq h,toL_ofL]
 unfold ofL
 congr 2
theorem slice_txt (ds:List Nat){j:Nat}(h:j<=ds.length):Txt.slice (txt ds) none (some (j:Int))=txt (ds.take j):=by
 rw[txt_of,slice_to _ (by rw[List.length_map];exact h),<- List.map_take]
 rfl
theorem txt_app (a b:List Nat):txt a++txt b=txt (a++b):=by
 show (⟨(txt a).cps++(txt b).cps⟩:Str)=_
 simp[txt]
theorem txt_inj {a b:List Nat}(h:txt a=txt b):a=b:=by
 have h2:(txt a).cps.toList=(txt b).cps.toList:=by rw[h]
 simp only[txt] at h2
 have:∀(l m:List Nat),l.map (48+·)=m.map (48+·)->l=m:=λl=>by
  induction l with
  |nil=>intro m e;cases m with
   |nil=>rfl
   |cons _ _=>simp at e
  |cons x l ih=>intro m e;cases m with
   |nil=>simp at e
   |cons y m=>
    simp only[List.map_cons,List.cons.injEq] at e
    rw[ih m e.2,show x=y by lia]
 exact this a b h2
theorem starts_txt (a b:List Nat):Txt.startswith (txt a) (txt b)=decide (b <+: a):=by
 show (decide (0+(txt b).length<=(txt a).length)&&Builtin.Str.subAt (txt a) (txt b) 0)=_
 rw[PySem.StrLaws.subAt_eq,txt_len,txt_len]
 have e1:((txt a).cps.toList.drop 0).take b.length=(txt (a.take b.length)).cps.toList:=by simp[txt]
 rw[e1]
 by_cases hp:b <+: a
 ·have e2:b=a.take b.length:=List.prefix_iff_eq_take.mp hp
  rw[decide_eq_true hp,<- e2,decide_eq_true (by have:=hp.length_le;lia)]
  simp
 ·rw[decide_eq_false hp]
  have:((txt (a.take b.length)).cps.toList==(txt b).cps.toList)=false:=by
   rw[beq_eq_false_iff_ne]
   intro z
   have z2:txt (a.take b.length)=txt b:=by
    have:(txt (a.take b.length)).cps=(txt b).cps:=Array.toList_inj.mp z
    show Str.mk _=Str.mk _
    exact congrArg Str.mk this
   exact hp (List.prefix_iff_eq_take.mpr (txt_inj z2).symm)
  rw[this,Bool.and_false]
theorem txt_asc {ds:List Nat}(h:∀d∈ds,d<4):(txt ds).cps.all (·<128)=true:=by
 simp only[txt,List.all_toArray,List.all_map,List.all_eq_true]
 intro d hd
 have:=h d hd
 simp only[Function.comp_apply,decide_eq_true_eq]
 lia
theorem wdn_stop {t:Tr}{ds:List Nat}{i:Nat}(h:(wdn t (ds.take i)).2=ds.take i) (hp:(wdn t (ds.take i)).1=.z\/(wdn t (ds.take i)).1=.o):wdn t ds=((wdn t (ds.take i)).1,ds.take i):=by
 have e:ds=ds.take i++ds.drop i:=(List.take_append_drop i ds).symm
 have hw:wdn t ds=wdn t (ds.take i++ds.drop i):=by rw[<- e]
 rw[hw]
 rcases wdn_app t (ds.take i) (ds.drop i) with ⟨_,h2⟩|⟨_,h2⟩
 ·rw[h2,wdn_plain hp]
  simp
 ·rw[h2]
  exact Prod.ext rfl h
theorem wdn_next {t:Tr}{ds:List Nat}{i d:Nat}{a b c e:Tr}(hd:ds[i]?=some d) (h:(wdn t (ds.take i)).2=ds.take i) (hp:(wdn t (ds.take i)).1=.nd a b c e):(wdn t (ds.take (i+1))).1=qr d (.nd a b c e)/\(wdn t (ds.take (i+1))).2=ds.take (i+1):=by
 rw[ds_take hd]
 rcases wdn_app t (ds.take i) [d] with ⟨_,h2⟩|⟨z,_⟩
 ·rw[h2,hp]
  show (wdn (qr d (.nd a b c e)) []).1=_/\_++d::(wdn (qr d (.nd a b c e)) []).2=_
  rw[wdn_nil]
  exact⟨rfl,rfl⟩
 ·rw[hp] at z
  rcases z with z|z<;>cases z
section
variable {P:Program}{w:World}{K:PySem.W.Frag}{mg:Str->Option Value}{base:Heap}
abbrev nWD:List Str:=["rows", "top", "address", "number", "at", "figure"]
theorem scWD:FnScope nWD ["rows", "top", "address"] (defScope sWayD):=⟨rfl,rfl,rfl,by decide +kernel,rfl,by decide +kernel,by decide +kernel⟩
def spWD:Sp:=λvs H Q _=>∃(rp:Addr) (x:Nat) (ds:List Nat) (rows:List Row),vs=[.ref rp,.int (x:Nat),.str (txt ds)]/\RowsAt H rp rows/\RowsOk rows/\x<rows.length+2/\(∀d∈ds,d<4)/\ds.length<=12 /\
 ∀(H':Hp) (p:Addr) (y:Nat),Same H H'->H' p=some (.tup [.int (y:Nat),.str (txt (wdn (T rows x) ds).2)])->y<rows.length+2->T rows y=(wdn (T rows x) ds).1->Q (.ref p) H'
theorem ok_WD {f:Addr}{fd:FuncData}(F:Fun K "way_down" "way_down" sWayD f fd) (B:Blt mg) (Tc:Cst mg) (hen:mg "enumerate" = none):FnOk P w K mg base CX0 1 f fd ["rows", "top", "address"] spWD:=by
 obtain⟨tf,hfi⟩:=Tc.first
 refine F.ok scWD (λvs H Q E h=>?_) (λcdv A outer s H vs Q E hr h=>?_)
 ·obtain⟨rp,x,ds,rows,rfl,_⟩:=h
  rfl
 ·obtain⟨rp,x,ds,rows,rfl,hR,ok,hx,hds,hl,q⟩:=h
  refine seqE ⟨_,⟨ps_set (i:=3) scWD.nd rfl (by first|exact Or.inl rfl|exact Or.inr rfl) (pv 1)⟩,?_⟩
  refine seqE ⟨_,⟨ps_for PassesOwn.never rfl (pi_enumS (by rfl) hen (pa_cons (pv 2) pa_nil)) (pg_tup rfl (pgs_cons (pg_name (i:=4) scWD.nd rfl (by first|exact Or.inl rfl|exact Or.inr rfl)) (pgs_cons (pg_name (i:=5) scWD.nd rfl (by first|exact Or.inl rfl|exact Or.inr rfl)) pgs_nil)))
   (StB.go (.cons ⟨ps_if (pt_cmpR op_lt (pv 3) (pe_glob (v:=.int 2) (by rfl) hfi ⟨_,rfl⟩) (nomark _)) (pss_one (ps_ret (pe_tup (Ars2.go (.cons ⟨pv 3⟩ (.cons ⟨pe_slice sl_strTo (pv 2) po_none (po_some (pv 4))⟩ .nil rfl) rfl))))) pss_nil⟩
    (.one ⟨ps_set (i:=3) scWD.nd rfl (by first|exact Or.inl rfl|exact Or.inr rfl) (pe_ix ix_tup (PEb.go ⟨pe_ix ix_tup (pv 0) (pe_op op_sub (pv 3) (pe_glob (v:=.int 2) (by rfl) hfi ⟨_,rfl⟩)) (λ_ _=>rfl)⟩) (PEb.go ⟨pe_callTy call_intS (by rfl) B.int PyProof.Rows.boot_int (pa_cons (pv 5) pa_nil)⟩) (λ_ _=>rfl))⟩)))⟩,?_⟩
  refine lastE ⟨_,⟨ps_ret (pe_tup (Ars2.go (.cons ⟨pv 3⟩ (.cons ⟨pv 2⟩ .nil rfl) rfl)))⟩,?_⟩
  refine⟨_,rfl,_,rfl,txt ds,rfl,txt_asc hds,?_⟩
  refine for_enumS (λi σ H2=>∃(y:Nat) (v4 v5:Option V),Same H H2/\σ=[some (.ref rp),some (.int (x:Nat)),some (.str (txt ds)),some (.int (y:Nat)),v4,v5]/\y<rows.length+2/\T rows y=(wdn (T rows x) (ds.take i)).1/\(wdn (T rows x) (ds.take i)).2=ds.take i) ?_ ?_ ?_
  ·refine⟨x,none,none,Same.refl _,rfl,hx,?_,?_⟩
   ·rw[List.take_zero,wdn_nil]
   ·rw[List.take_zero,wdn_nil]
  ·rintro i c σ H2 p hc ⟨y,v4,v5,s2,rfl,hy,hT,hw⟩ hp
   obtain⟨d,hd,rfl⟩:=txt_at hc
   have hi:=(List.getElem?_eq_some_iff.mp hd).1
   have hd4:=hds d (List.mem_of_getElem? hd)
   have s3:=s2.trans (sameU (o:=.tup [.int i,.str ⟨#[48+d]⟩]) hp)
   refine⟨p,_,rfl,SqT.of upd_same,rfl,_,_,rfl,_,_,rfl,rfl,?_⟩
   generalize upd H2 p (.tup [.int i,.str ⟨#[48+d]⟩])=H3 at s3 ⊢
   refine⟨_,rfl,_,_,rfl,rfl,_,rfl,?_⟩
   refine ite2 (λhc=>?_) (λhc=>?_)
   ·have y2:y<2:=by have:=of_decide_eq_true hc;lia
    have hpl:T rows y=.z\/T rows y=.o:=by
     have:y=0\/y=1:=by lia
     rcases this with rfl|rfl
     ·exact .inl (T_zero _)
     ·exact .inr (T_one _)
    have hst:=wdn_stop hw (by rw[<- hT];exact hpl)
    refine⟨_,rfl,_,rfl,_,rfl,(i:Int),rfl,txt ds,(i:Int),rfl,rfl,rfl,by rw[txt_len];exact Nat.le_of_lt (small1000 (by lia)),(by show 2<=sizeLine;decide),λp2 hp2=>?_⟩
    rw[slice_txt ds (by lia)]
    refine q _ p2 y (s3.trans (sameU hp2)) ?_ hy ?_
    ·rw[upd_same,hst]
    ·rw[hst];exact hT
   ·have y2:¬y<2:=λz=>hc (decide_eq_true (by lia))
    obtain⟨pl,a0,a1,a2,a3,rfl,hpl⟩:=row_at ok hy y2
    obtain⟨bs,hrp,hbl,hrow⟩:=id (hR.same s3)
    have hpr1:=(List.getElem?_eq_some_iff.mp hpl).1
    have hbp:bs[pl]?=some (bs[pl]'(by lia)):=List.getElem?_eq_getElem (by lia)
    have hra:=hrow pl _ _ hbp hpl
    generalize bs[pl]'(by lia)=ra at hbp hra
    obtain⟨m,hm⟩:∃m,[a0,a1,a2,a3][d]?=some m:=⟨_,List.getElem?_eq_getElem (show d<[a0,a1,a2,a3].length from hd4)⟩
    refine⟨_,rfl,_,rfl,_,_,rfl,rfl,rp,_,((pl:Nat):Int),.ref ra,rfl,congrArg V.int (by lia),SqT.of hrp,atI_nat (by rw[List.getElem?_map,hbp];rfl),_,rfl,_,(d:Int),rfl,int_fig hd4,(by show 1<=640;decide),ra,_,(d:Int),.int (m:Nat),rfl,rfl,SqT.of hra,vN_atI hm,?_⟩
    have hT2:=T_qr ok hpl hd4 hm
    obtain⟨w1,w2⟩:=wdn_next hd hw (by rw[<- hT,T_row ok hpl])
    have hml:m<rows.length+2:=by
     have:=(ok pl _ hpl).2 m (List.mem_of_getElem? hm)
     lia
    refine⟨m,_,_,s3,rfl,hml,?_,w2⟩
    rw[hT2,w1,T_row ok hpl]
  ·rintro σ H2 ⟨y,v4,v5,s2,rfl,hy,hT,hw⟩
   have e:ds.take (txt ds).cps.size=ds:=List.take_of_length_le (by simp[txt])
   rw[e] at hT hw
   refine⟨_,rfl,_,rfl,(by show 2<=sizeLine;decide),λp2 hp2=>?_⟩
   refine q _ p2 y (s2.trans (sameU hp2)) ?_ hy hT
   rw[upd_same,hw]
abbrev nAl:List Str:=["rows", "number", "address", "along", "addresses", "at"]
abbrev nAl5:List Str:=["rows", "number", "address", "along", "addresses"]
theorem scAl:FnScope nAl nAl5 (defScope sAlong):=⟨rfl,rfl,rfl,by decide +kernel,rfl,by decide +kernel,by decide +kernel⟩
def vT (L:List (List Nat)):List V:=L.map λe=>V.str (txt e)
def spAl (K:PySem.W.Frag) (d:Nat):Sp:=λvs H Q _=>∃(rp al lp:Addr) (x a b:Nat) (ad:List Nat) (L:List (List Nat)) (rows:List Row),vs=[.ref rp,.int (x:Nat),.str (txt ad),.ref al,.ref lp]/\RowsAt H rp rows/\RowsOk rows/\KTup K al (vN [a,b])/\x<rows.length+2/\Tr.dep (T rows x)<=d/\a<4/\b<4/\H lp=some (.lst (vT L))/\ad.length+d<=100/\d<=12/\L.length+2^d<=100000 /\
 ∀(H':Hp),But lp H H'->H' lp=some (.lst (vT (L++(lvs a b d (T rows x)).map (ad++·))))->Q .non H'
theorem lvs_few (a b:Nat):∀(d:Nat) (t:Tr),(lvs a b d t).length<=2^d
 |0,t=>by cases t<;>exact Nat.le_refl _
 |d+1,.z=>Nat.pow_pos (by decide)
 |d+1,.o=>Nat.pow_pos (by decide)
 |d+1,.nd p q r s=>by
  show ((lvs a b d (qr a (.nd p q r s))).map (a::·)++(lvs a b d (qr b (.nd p q r s))).map (b::·)).length<=_
  have h1:=lvs_few a b d (qr a (.nd p q r s))
  have h2:=lvs_few a b d (qr b (.nd p q r s))
  rw[List.length_append,List.length_map,List.length_map,Nat.pow_succ]
  lia
theorem ok_Al {f:Addr}{fd:FuncData}(F:Fun K "gather_along" "gather_along" sAlong f fd) (Tc:Cst mg) (hst:mg "str" = none) (hG:mg "gather_along" = some (.ref f)) (bG:Binds K fd nAl5 []):∀d,FnOk P w K mg base CX0 (d+1) f fd nAl5 (spAl K d):=by
 obtain⟨tf,hfi⟩:=Tc.first
 have early:∀{x a b d lp:Nat}{ad:List Nat}{L:List (List Nat)}{rows:List Row}{H:Hp}{Q:VK},x<2->(∀(H':Hp),But lp H H'->H' lp=some (.lst (vT (L++(lvs a b d (T rows x)).map (ad++·))))->Q .non H')->Q .non (upd H lp (.lst (vT L++[.str (txt ad)]))):=λ{x a b d lp ad L rows H Q} x2 q=>by
  have hpl:T rows x=.z\/T rows x=.o:=by
   have:x=0\/x=1:=by lia
   rcases this with rfl|rfl
   ·exact .inl (T_zero _)
   ·exact .inr (T_one _)
  refine q _ But.upd ?_
  rw[upd_same,lvs_plain hpl]
  unfold vT
  rw[List.map_append]
  simp
 intro d
 induction d with
 |zero=>
  refine F.ok scAl (λvs H Q E h=>?_) (λcdv A outer s H vs Q E hr h=>?_)
  ·obtain⟨rp,al,lp,x,a,b,ad,L,rows,rfl,_⟩:=h
   rfl
  ·obtain⟨rp,al,lp,x,a,b,ad,L,rows,rfl,hR,ok,hK,hx,hd,ha,hb,hlp,hal,hdd,hL,q⟩:=h
   have x2:x<2:=by
    rcases dep0 hd with z|z
    ·have:=(T_plain ok hx).1.mp z;lia
    ·have:=(T_plain ok hx).2.mp z;lia
   refine seqE ⟨_,⟨ps_if (pt_cmpR op_lt (pv 1) (pe_glob (v:=.int 2) (by rfl) hfi ⟨_,rfl⟩) (nomark _)) (StB.go (.cons ⟨ps_expr (pe_bm PySem.F.plainAttrs_list PySem.F.slot_list_append PySem.F.type_list_append mt_append (pv 4) (pa_cons (pv 2) pa_nil))⟩ (.one ⟨ps_retN⟩))) pss_nil⟩,?_⟩
   refine⟨_,pss_never,?_⟩
   refine⟨_,rfl,_,_,rfl,rfl,_,rfl,?_⟩
   rw[decide_eq_true (show (x:Int)<2 by lia)]
   refine iteT ?_
   refine⟨_,rfl,.inl ⟨rfl,_,SqL.of hlp⟩,_,rfl,lp,_,_,rfl,rfl,hlp,?_,early x2 q⟩
   unfold vT
   rw[List.length_map]
   exact smallM (by lia)
 |succ d ih=>
  refine F.ok scAl (λvs H Q E h=>?_) (λcdv A outer s H vs Q E hr h=>?_)
  ·obtain⟨rp,al,lp,x,a,b,ad,L,rows,rfl,_⟩:=h
   rfl
  ·obtain⟨rp,al,lp,x,a,b,ad,L,rows,rfl,hR,ok,hK,hx,hd,ha,hb,hlp,hal,hdd,hL,q⟩:=h
   refine seqE ⟨_,⟨ps_if (pt_cmpR op_lt (pv 1) (pe_glob (v:=.int 2) (by rfl) hfi ⟨_,rfl⟩) (nomark _)) (StB.go (.cons ⟨ps_expr (pe_bm PySem.F.plainAttrs_list PySem.F.slot_list_append PySem.F.type_list_append mt_append (pv 4) (pa_cons (pv 2) pa_nil))⟩ (.one ⟨ps_retN⟩))) pss_nil⟩,?_⟩
   refine lastE ⟨_,⟨ps_for PassesOwn.never rfl (pi_tup (pv 3)) (pg_name (i:=5) scAl.nd rfl (by first|exact Or.inl rfl|exact Or.inr rfl))
    (StB.go (.one ⟨ps_expr (pe_call ih hr (by rfl) hG F.kp bG .nil pass0 (Ars2.go (.cons ⟨pv 0⟩ (.cons ⟨pe_ix ix_tup (PEb.go ⟨pe_ix ix_tup (pv 0) (pe_op op_sub (pv 1) (pe_glob (v:=.int 2) (by rfl) hfi ⟨_,rfl⟩)) (λ_ _=>rfl)⟩) (pv 5) (λ_ _=>rfl)⟩ (.cons ⟨pe_op op_add_str (pv 2) (PEb.go ⟨pe_callTy call_str_int (by rfl) hst PyProof.Rows.boot_str (pa_cons (pv 5) pa_nil)⟩)⟩ (.cons ⟨pv 3⟩ (.cons ⟨pv 4⟩ .nil rfl) rfl) rfl) rfl) rfl)))⟩))⟩,?_⟩
   refine⟨_,rfl,_,_,rfl,rfl,_,rfl,?_⟩
   refine ite2 (λhc=>?_) (λhc=>?_)
   ·have x2:x<2:=by have:=of_decide_eq_true hc;lia
    refine⟨_,rfl,.inl ⟨rfl,_,SqL.of hlp⟩,_,rfl,lp,_,_,rfl,rfl,hlp,?_,early x2 q⟩
    unfold vT
    rw[List.length_map]
    have hp0:0<2^(d+1):=Nat.pow_pos (by decide)
    exact smallM (by generalize 2^(d+1)=z at hL hp0;lia)
   ·have x2:¬x<2:=λz=>hc (decide_eq_true (by lia))
    obtain⟨pl,a0,a1,a2,a3,rfl,hpl⟩:=row_at ok hx x2
    have eT:T rows (pl+2)=.nd (T rows a0) (T rows a1) (T rows a2) (T rows a3):=T_row ok hpl
    have hpos:0<2^d:=Nat.pow_pos (by decide)
    have e2:2^(d+1)=2^d+2^d:=by rw[Nat.pow_succ];lia
    let LA:=(lvs a b d (qr a (T rows (pl+2)))).map λe=>ad++a::e
    let LB:=(lvs a b d (qr b (T rows (pl+2)))).map λe=>ad++b::e
    have hlA:LA.length<=2^d:=by show (List.map _ _).length<=_;rw[List.length_map];exact lvs_few ..
    have elv:(lvs a b (d+1) (T rows (pl+2))).map (ad++·)=LA++LB:=by
     show _=(lvs a b d (qr a (T rows (pl+2)))).map (λe=>ad++a::e)++(lvs a b d (qr b (T rows (pl+2)))).map λe=>ad++b::e
     rw[eT]
     show ((lvs a b d (qr a _)).map (a::·)++(lvs a b d (qr b _)).map (b::·)).map (ad++·)=_
     rw[List.map_append,List.map_map,List.map_map]
     rfl
    rw[elv] at q
    refine⟨_,rfl,al,rfl,⟨_,.inr hK⟩,for_tup (K:=K) (a:=al) (xs:=vN [a,b]) (λi σ H2=>∃v5,But lp H H2/\H2 lp=some (.lst (vT (L++(if i=0 then [] else if i=1 then LA else LA++LB))))/\σ=[some (.ref rp),some (.int ((pl+2:Nat):Int)),some (.str (txt ad)),some (.ref al),some (.ref lp),v5]) ?_ (λi σ H2 _ _=>.inr hK) ?_ ?_⟩
    ·exact⟨none,But.refl _ _,by simpa using hlp,rfl⟩
    ·rintro i y σ H2 hy ⟨v5,B2,hl2,rfl⟩
     obtain⟨m,hm,rfl⟩:=vN_get hy
     have T2:Tups H H2:=B2.tups hlp (λu z=>by cases z)
     have hm4:m<4:=by
      match i,hm with
      |0,hm=>cases hm;exact ha
      |1,hm=>cases hm;exact hb
     obtain⟨bs,hrp,hbl,hrow⟩:=id (hR.mono T2)
     have hpr1:=(List.getElem?_eq_some_iff.mp hpl).1
     have hbp:bs[pl]?=some (bs[pl]'(by lia)):=List.getElem?_eq_getElem (by lia)
     have hra:=hrow pl _ _ hbp hpl
     generalize bs[pl]'(by lia)=ra at hbp hra
     obtain⟨k,hk⟩:∃k,[a0,a1,a2,a3][m]?=some k:=⟨_,List.getElem?_eq_getElem (show m<[a0,a1,a2,a3].length from hm4)⟩
     have hTk:=T_qr ok hpl hm4 hk
     have hkl:k<rows.length+2:=by
      have:=(ok pl _ hpl).2 k (List.mem_of_getElem? hk)
      lia
     refine⟨_,rfl,_,rfl,_,rfl,_,_,rfl,rfl,rp,_,((pl:Nat):Int),.ref ra,rfl,congrArg V.int (by lia),SqT.of hrp,atI_nat (by rw[List.getElem?_map,hbp];rfl),_,rfl,ra,_,(m:Int),.int (k:Nat),rfl,rfl,SqT.of hra,vN_atI hk,_,rfl,_,rfl,(m:Int),rfl,?_,_,_,rfl,rfl,?_,_,rfl,_,rfl,?_⟩
     ·match m,hm4 with
      |0,_|1,_|2,_|3,_=>decide +kernel
     ·rw[fig_text hm4,txt_len]
      show ad.length+1<=sizeLine
      exact Nat.le_of_lt (small1000 (by lia))
     ·rw[fig_text hm4]
      refine⟨rp,al,lp,k,a,b,ad++[m],L++(if i=0 then [] else if i=1 then LA else LA++LB),rows,?_,hR.mono T2,ok,hK,hkl,?_,ha,hb,hl2,?_,by lia,?_,λH3 B3 hl3=>?_⟩
      ·rw[<- txt_app];rfl
      ·rw[hTk];exact dep_qr hm4 _ hd
      ·rw[List.length_append]
       show ad.length+1+d<=100
       lia
      ·match i,hm with
       |0,_=>show (L++[]).length+_<=_;rw[List.append_nil];lia
       |1,_=>show (L++LA).length+_<=_;rw[List.length_append];lia
      ·refine⟨_,B2.trans B3,?_,rfl⟩
       rw[hl3,hTk]
       congr 2
       match i,hm with
       |0,hm=>
        cases hm
        show vT (L++[]++_)=vT (L++LA)
        rw[List.append_nil]
        congr 2
        refine List.map_congr_left λe _=>?_
        simp
       |1,hm=>
        cases hm
        show vT (L++LA++_)=vT (L++(LA++LB))
        rw[List.append_assoc]
        congr 3
        refine List.map_congr_left λe _=>?_
        simp
    ·rintro σ H2 ⟨v5,B2,hl2,rfl⟩
     exact q H2 B2 hl2
end
end Pr
namespace L2
open PySem PySem.Spec PyProof.Rows
theorem for_down {lo:Int}{n:Nat}{g:TG}{tb:TS}{D:Ends}{σ:St}{H:Hp}(Pv:Nat->St->Hp->Prop) (h0:Pv 0 σ H)
  (hs:∀i σ H,i<n->Pv i σ H->g (.int (lo-i)) σ H λσ2 H2=>tb { D with nx:=Pv (i+1),ct:=Pv (i+1),bk:=D.nx } σ2 H2) (hd:∀σ H,Pv n σ H->D.nx σ H) :
  ∃W:Nat->Nat->St->Hp->Prop,(∃m,W 0 m σ H)/\∀i m σ H,W i m σ H ->
   ((Itd lo n).stop i H/\D.nx σ H)\/((Itd lo n).go i H/\∃N:St->Hp->Prop,(∀σ' H',N σ' H'->∃m',m'<m/\W (i+1) m' σ' H')/\∀x H',(Itd lo n).yld i H x H'->g x σ H' λσ2 H2=>tb { D with nx:=N,ct:=N,bk:=D.nx } σ2 H2):=by
 refine⟨λi m σ H=>m=n-i/\i<=n/\Pv i σ H,⟨n,by simp,Nat.zero_le _,h0⟩,?_⟩
 rintro i m σ H ⟨rfl,hi,p⟩
 by_cases hlt:i<n
 ·refine .inr ⟨hlt,Pv (i+1),λσ' H' p'=>⟨n-(i+1),by lia,rfl,hlt,p'⟩,λx H' y=>?_⟩
  obtain⟨e,y⟩:=y
  subst e y
  exact hs i σ _ hlt p
 ·have e:i=n:=by lia
  subst e
  exact .inl ⟨Nat.le_refl _,hd σ H p⟩
end L2
namespace Pr
open PySem L2 Qf
theorem fig_at {d:Nat}(h:d<4):atI ("0123" : Str).cps.toList (d:Int)=some (48+d):=by
 match d,h with
 |0,_|1,_|2,_|3,_=>decide +kernel
theorem four_len:("0123" : Str).length<=sizeLine:=by decide +kernel
theorem txt_nil:("" : Str)=txt []:=by decide +kernel
theorem in23 {d:Nat}(h:d<4):(if (!(Builtin.Str.occurrences "23" ⟨#[48+d]⟩ 0 ("23" : Str).length 1).isEmpty)=true then (1:Int) else 0)=((d/2:Nat):Int):=by
 match d,h with
 |0,_|1,_|2,_|3,_=>decide +kernel
theorem in13 {d:Nat}(h:d<4):(if (!(Builtin.Str.occurrences "13" ⟨#[48+d]⟩ 0 ("13" : Str).length 1).isEmpty)=true then (1:Int) else 0)=((d%2:Nat):Int):=by
 match d,h with
 |0,_|1,_|2,_|3,_=>decide +kernel
theorem dgp_at {r c n i:Nat}(h:i<n):(dgp r c 0 n)[i]?=some (qd r c (n-1-i)):=by
 rw[dgp_range,List.getElem?_map,List.getElem?_range h]
 show some (qd r c (0+n-1-i))=_
 rw[Nat.zero_add]
theorem wdn_keep {t:Tr}{l m:List Nat}(h:(wdn t l).1=.z\/(wdn t l).1=.o):wdn t (l++m)=wdn t l:=by
 rcases wdn_app t l m with ⟨h1,h2⟩|⟨_,h2⟩
 ·rw[h2,wdn_plain h]
  exact Prod.ext rfl (by show l++[]=_;rw[List.append_nil,h1])
 ·exact h2
theorem wdn_full {t:Tr}{l:List Nat}{a b c d:Tr}(h:(wdn t l).1=.nd a b c d):(wdn t l).2=l:=by
 rcases wdn_app t l [] with ⟨h1,_⟩|⟨h1,_⟩
 ·exact h1
 ·rw[h] at h1;rcases h1 with z|z<;>cases z
section
variable {P:Program}{w:World}{K:PySem.W.Frag}{mg:Str->Option Value}{base:Heap}
abbrev nLf:List Str:=["_law_told", "_law_row", "_law_column", "_law_n", "_law_number_here", "_law_rows", "_law_address_here", "_law_k", "_law_quarter"]
abbrev nLf3:List Str:=["_law_told", "_law_row", "_law_column"]
theorem scLf:FnScope nLf nLf3 (defScope lLeaf):=⟨rfl,rfl,rfl,by decide +kernel,rfl,by decide +kernel,by decide +kernel⟩
def spLf:Sp:=λvs H Q _=>∃(t:Addr) (n tp r c:Nat) (rows:List Row),vs=[.ref t,.int (r:Nat),.int (c:Nat)]/\ShapeAt H t n tp rows/\n<=12 /\
 ∀(H':Hp) (p:Addr) (y:Nat),Same H H'->H' p=some (.tup [.str (txt (wdn (T rows tp) (dgp r c 0 n)).2),.int (y:Nat)])->Q (.ref p) H'
theorem ok_Lf {f:Addr}{fd:FuncData}(F:Fun K "_law_leaf" "_law_leaf" lLeaf f fd) (B:Blt mg):FnOk P w K mg base CX0 1 f fd nLf3 spLf:=by
 refine F.ok scLf (λvs H Q E h=>?_) (λcdv A outer s H vs Q E hr h=>?_)
 ·obtain⟨t,n,tp,r,c,rows,rfl,_⟩:=h
  rfl
 ·obtain⟨t,n,tp,r,c,rows,rfl,hS,hn,q⟩:=h
  obtain⟨⟨rp,ht,hR⟩,cn,hrl⟩:=id hS
  have ok:=cn.rok
  refine seqE ⟨_,⟨ps_asg (pv 0) (pg_tup rfl (pgs_cons (pg_name (i:=3) scLf.nd rfl (by first|exact Or.inl rfl|exact Or.inr rfl)) (pgs_cons (pg_name (i:=4) scLf.nd rfl (by first|exact Or.inl rfl|exact Or.inr rfl)) (pgs_cons (pg_name (i:=5) scLf.nd rfl (by first|exact Or.inl rfl|exact Or.inr rfl)) pgs_nil))))⟩,?_⟩
  refine seqE ⟨_,⟨ps_set (i:=6) scLf.nd rfl (by first|exact Or.inl rfl|exact Or.inr rfl) pe_str⟩,?_⟩
  refine seqE ⟨_,⟨ps_for PassesOwn.never rfl (pi_down (by rfl) B.range (pa_cons (pe_op op_sub (pv 3) pe_int) (pa_cons (pe_un un_neg pe_int) (pa_cons (pe_un un_neg pe_int) pa_nil)))) (pg_name (i:=7) scLf.nd rfl (by first|exact Or.inl rfl|exact Or.inr rfl))
   (StB.go (.one ⟨ps_if (pt_cmpR op_gt (pv 4) pe_int (nomark _)) (StB.go (.cons ⟨ps_set (i:=8) scLf.nd rfl (by first|exact Or.inl rfl|exact Or.inr rfl) (pe_op op_add (pe_op op_mul pe_int (pe_op op_and (pe_op op_shr (pv 1) (pv 7)) pe_int)) (pe_op op_and (pe_op op_shr (pv 2) (pv 7)) pe_int))⟩
    (.cons ⟨ps_set (i:=4) scLf.nd rfl (by first|exact Or.inl rfl|exact Or.inr rfl) (pe_ix ix_tup (PEb.go ⟨pe_ix ix_tup (pv 5) (pe_op op_sub (pv 4) pe_int) (λ_ _=>rfl)⟩) (pv 8) (λ_ _=>rfl))⟩
    (.one ⟨ps_set (i:=6) scLf.nd rfl (by first|exact Or.inl rfl|exact Or.inr rfl) (pe_op op_add_str (pv 6) (PEb.go ⟨pe_ix ix_str pe_str (pv 8) (λ_ _=>rfl)⟩))⟩)))) pss_nil⟩))⟩,?_⟩
  refine lastE ⟨_,⟨ps_ret (pe_tup (Ars2.go (.cons ⟨pv 6⟩ (.cons ⟨pv 4⟩ .nil rfl) rfl)))⟩,?_⟩
  refine⟨_,rfl,t,_,rfl,SqT.of ht,rfl,_,_,rfl,_,_,rfl,_,_,rfl,rfl,?_⟩
  refine⟨_,rfl,_,_,rfl,rfl,_,rfl,_,rfl,(n:Int)-1,-1,rfl,⟨by lia,by lia,by lia,by lia⟩,?_⟩
  have eN:((n:Int)-1-(-1)).toNat=n:=by lia
  rw[eN]
  have hDl:(dgp r c 0 n).length=n:=dgp_len r c 0 n
  have hD4:=dgp_lt r c 0 n
  have hDa:∀i,i<n->(dgp r c 0 n)[i]?=some (qd r c (n-1-i)):=λi hi=>dgp_at hi
  generalize dgp r c 0 n=D at q hDl hD4 hDa
  refine for_down (lo:=(n:Int)-1) (n:=n) (λi σ H2=>H2=H/\∃(y:Nat) (v7 v8:Option V),σ=[some (.ref t),some (.int (r:Nat)),some (.int (c:Nat)),some (.int (n:Nat)),some (.int (y:Nat)),some (.ref rp),some (.str (txt (wdn (T rows tp) (D.take i)).2)),v7,v8]/\y<rows.length+2/\T rows y=(wdn (T rows tp) (D.take i)).1) ?_ ?_ ?_
  ·refine⟨rfl,tp,none,none,?_,cn.inn,?_⟩
   ·rw[List.take_zero,wdn_nil,<- txt_nil];rfl
   ·rw[List.take_zero,wdn_nil]
  ·rintro i σ H2 hi ⟨rfl,y,v7,v8,rfl,hy,hT⟩
   have hd:=hDa i hi
   have ek:(n:Int)-1-(i:Int)=((n-1-i:Nat):Int):=by lia
   refine⟨_,rfl,_,_,rfl,rfl,_,rfl,?_⟩
   refine ite2 (λhc=>?_) (λhc=>?_)
   ·have y2:¬y<2:=by have:=of_decide_eq_true hc;lia
    obtain⟨pl,a0,a1,a2,a3,rfl,hpl⟩:=row_at ok hy y2
    obtain⟨bs,hrp,hbl,hrow⟩:=id hR
    have hpr1:=(List.getElem?_eq_some_iff.mp hpl).1
    have hbp:bs[pl]?=some (bs[pl]'(by lia)):=List.getElem?_eq_getElem (by lia)
    have hra:=hrow pl _ _ hbp hpl
    generalize bs[pl]'(by lia)=ra at hbp hra
    have hq4:=qd_lt r c (n-1-i)
    have eT:T rows (pl+2)=.nd (T rows a0) (T rows a1) (T rows a2) (T rows a3):=T_row ok hpl
    have hw:=wdn_full (by rw[<- hT,eT])
    obtain⟨w1,w2⟩:=wdn_next hd hw (by rw[<- hT,eT])
    have hlt:(wdn (T rows tp) (D.take i)).2.length<=12:=by rw[hw,List.length_take];lia
    have eq1:(2:Int)*Builtin.bitAnd ((r:Int)/2^((n:Int)-1-(i:Int)).toNat) 1+Builtin.bitAnd ((c:Int)/2^((n:Int)-1-(i:Int)).toNat) 1=((qd r c (n-1-i):Nat):Int):=by
     rw[ek,bit_nat,bit_nat];unfold qd;lia
    generalize hqq:qd r c (n-1-i)=d at hq4 eq1 hd w1 w2
    obtain⟨m,hm⟩:∃m,[a0,a1,a2,a3][d]?=some m:=⟨_,List.getElem?_eq_getElem (show d<[a0,a1,a2,a3].length from hq4)⟩
    refine⟨_,rfl,_,rfl,_,_,rfl,rfl,by lia,_,_,rfl,rfl,_,_,rfl,rfl,.inl ⟨by decide,by decide⟩,_,rfl,_,rfl,_,_,rfl,rfl,by lia,_,_,rfl,rfl,_,_,rfl,rfl,?_⟩
    refine⟨_,rfl,_,rfl,_,_,rfl,rfl,rp,_,((pl:Nat):Int),.ref ra,rfl,congrArg V.int (by lia),SqT.of hrp,atI_nat (by rw[List.getElem?_map,hbp];rfl),_,rfl,ra,_,(d:Int),.int (m:Nat),rfl,congrArg V.int eq1,SqT.of hra,vN_atI hm,?_⟩
    refine⟨_,rfl,_,rfl,_,(d:Int),48+d,rfl,congrArg V.int eq1,four_len,fig_at hq4,_,_,rfl,rfl,?_,?_⟩
    ·rw[txt_len]
     show _+1<=sizeLine
     exact Nat.le_of_lt (small1000 (by lia))
    ·refine⟨rfl,m,some (.int ((n:Int)-1-(i:Int))),some (.int ((2:Int)*Builtin.bitAnd ((r:Int)/2^((n:Int)-1-(i:Int)).toNat) 1+Builtin.bitAnd ((c:Int)/2^((n:Int)-1-(i:Int)).toNat) 1)),?_,?_,?_⟩
     ·rw[w2,ds_take hd,<- txt_app,hw];rfl
     ·have:=(ok pl _ hpl).2 m (List.mem_of_getElem? hm)
      lia
     ·rw[w1,T_qr ok hpl hq4 hm,eT]
   ·have y2:y<2:=by
     have:¬(1:Int)<(y:Int):=λz=>hc (decide_eq_true z)
     lia
    have hpl:(wdn (T rows tp) (D.take i)).1=.z\/(wdn (T rows tp) (D.take i)).1=.o:=by
     rw[<- hT]
     have:y=0\/y=1:=by lia
     rcases this with rfl|rfl
     ·exact .inl (T_zero _)
     ·exact .inr (T_one _)
    refine⟨rfl,y,some (.int ((n:Int)-1-(i:Int))),v8,?_,hy,?_⟩
    ·rw[ds_take hd,wdn_keep hpl];rfl
    ·rw[ds_take hd,wdn_keep hpl];exact hT
  ·rintro σ H2 ⟨rfl,y,v7,v8,rfl,hy,hT⟩
   have e:D.take n=D:=List.take_of_length_le (by lia)
   rw[e]
   refine⟨_,rfl,_,rfl,(by show 2<=sizeLine;decide),λp2 hp2=>q _ p2 y (sameU hp2) upd_same⟩
abbrev nSq:List Str:=["_law_n", "_law_address_here", "_law_row", "_law_column", "_law_side", "_law_figure"]
theorem scSq:FnScope nSq ["_law_n", "_law_address_here"] (defScope lSquare):=⟨rfl,rfl,rfl,by decide +kernel,rfl,by decide +kernel,by decide +kernel⟩
theorem ok_Sq {f:Addr}{fd:FuncData}(F:Fun K "_law_square" "_law_square" lSquare f fd) (B:Blt mg):FnOk P w K mg base CX0 1 f fd ["_law_n", "_law_address_here"] spBoxAt:=by
 refine F.ok scSq (λvs H Q E h=>?_) (λcdv A outer s H vs Q E hr h=>?_)
 ·obtain⟨m,ds,rfl,_⟩:=h
  rfl
 ·obtain⟨n,ds,rfl,hn,hds,hl,q⟩:=h
  refine seqE ⟨_,⟨ps_set (i:=2) scSq.nd rfl (by first|exact Or.inl rfl|exact Or.inr rfl) pe_int⟩,?_⟩
  refine seqE ⟨_,⟨ps_set (i:=3) scSq.nd rfl (by first|exact Or.inl rfl|exact Or.inr rfl) pe_int⟩,?_⟩
  refine seqE ⟨_,⟨ps_set (i:=4) scSq.nd rfl (by first|exact Or.inl rfl|exact Or.inr rfl) (pe_op op_shl pe_int (pv 0))⟩,?_⟩
  refine seqE ⟨_,⟨ps_for PassesOwn.never rfl (pi_str (pv 1)) (pg_name (i:=5) scSq.nd rfl (by first|exact Or.inl rfl|exact Or.inr rfl))
   (StB.go (.cons ⟨ps_set (i:=4) scSq.nd rfl (by first|exact Or.inl rfl|exact Or.inr rfl) (pe_op op_fdiv (pv 4) pe_int)⟩
   (.cons ⟨ps_set (i:=2) scSq.nd rfl (by first|exact Or.inl rfl|exact Or.inr rfl) (pe_op op_add (pv 2) (pe_op op_mul (pv 4) (PEb.go ⟨pe_callTy call_int1 (by rfl) B.int PyProof.Rows.boot_int (pa_cons (pe_cmpR op_in_str (pv 5) pe_str (by first|exact nomark _|rfl|decide)) pa_nil)⟩)))⟩
   (.one ⟨ps_set (i:=3) scSq.nd rfl (by first|exact Or.inl rfl|exact Or.inr rfl) (pe_op op_add (pv 3) (pe_op op_mul (pv 4) (PEb.go ⟨pe_callTy call_int1 (by rfl) B.int PyProof.Rows.boot_int (pa_cons (pe_cmpR op_in_str (pv 5) pe_str (by first|exact nomark _|rfl|decide)) pa_nil)⟩)))⟩))))⟩,?_⟩
  refine lastE ⟨_,⟨ps_ret (pe_tup (Ars2.go (.cons ⟨pv 2⟩ (.cons ⟨pv 3⟩ (.cons ⟨pv 4⟩ .nil rfl) rfl) rfl)))⟩,?_⟩
  have e1n:(1:Int)*2^((n:Nat):Int).toNat=((2^n:Nat):Int):=by rw[Int.one_mul,Int.toNat_natCast];simp
  refine⟨_,rfl,_,_,rfl,rfl,⟨by lia,by lia,by decide⟩,?_⟩
  have c0:∀g:Nat->Nat,cof g n []=0:=λg=>by cases n<;>rfl
  refine⟨_,rfl,txt ds,rfl,for_str (λi σ H2=>H2=H/\∃v,σ=[some (.int (n:Nat)),some (.str (txt ds)),some (.int ((rwo n (ds.take i):Nat):Int)),some (.int ((clo n (ds.take i):Nat):Int)),some (.int ((2^(n-i):Nat):Int)),v]) ⟨rfl,none,?_⟩ ?_ ?_⟩
  ·rw[List.take_zero]
   show _=[some (V.int (n:Nat)),some (.str (txt ds)),some (.int ((cof (· / 2) n []:Nat):Int)),some (.int ((cof (·%2) n []:Nat):Int)),some (.int ((2^n:Nat):Int)),none]
   rw[c0,c0,<- e1n]
   rfl
  ·rintro i c σ H2 hc ⟨rfl,v,rfl⟩
   obtain⟨d,hd,rfl⟩:=txt_at hc
   have hi:=(List.getElem?_eq_some_iff.mp hd).1
   have hd4:d<4:=hds d (List.mem_of_getElem? hd)
   have h1:rwo n (ds.take (i+1))=rwo n (ds.take i)+2^(n-i-1)*(d/2):=cof_step hd hl
   have h2:clo n (ds.take (i+1))=clo n (ds.take i)+2^(n-i-1)*(d%2):=cof_step hd hl
   have h3:=half_pow (n:=n) (i:=i) (by lia)
   have h4:2^(n-i-1)<=4096:=pow_4096 (by lia)
   have hb4:-(2^64)<((2^(n-i):Nat):Int)/2/\((2^(n-i):Nat):Int)/2<2^64:=by
    rw[h3]
    generalize 2^(n-i-1)=x at h4
    lia
   refine⟨_,rfl,_,_,rfl,rfl,⟨by decide,by decide⟩,?_⟩
   refine⟨_,rfl,_,rfl,_,rfl,_,_,rfl,rfl,.inr ⟨_,rfl,_,_,rfl,rfl,.inl hb4,_,_,rfl,rfl,?_⟩⟩
   refine⟨_,rfl,_,rfl,_,rfl,_,_,rfl,rfl,.inr ⟨_,rfl,_,_,rfl,rfl,.inl hb4,_,_,rfl,rfl,?_⟩⟩
   refine⟨rfl,some (.str ⟨#[48+d]⟩),?_⟩
   rw[h1,h2]
   have e1:((rwo n (ds.take i):Nat):Int)+((2^(n-i-1):Nat):Int)*((d/2:Nat):Int)=((rwo n (ds.take i)+2^(n-i-1)*(d/2):Nat):Int):=by
    rw[Int.natCast_add,Int.natCast_mul]
   have e2:((clo n (ds.take i):Nat):Int)+((2^(n-i-1):Nat):Int)*((d%2:Nat):Int)=((clo n (ds.take i)+2^(n-i-1)*(d%2):Nat):Int):=by
    rw[Int.natCast_add,Int.natCast_mul]
   rw[<- e1,<- e2,show n-(i+1)=n-i-1 from by lia,<- h3,<- in23 hd4,<- in13 hd4]
   rfl
  ·rintro σ H2 ⟨rfl,v,rfl⟩
   refine⟨_,rfl,_,rfl,_,rfl,(by show 3<=sizeLine;decide),λp hpn=>?_⟩
   have e:ds.take (txt ds).cps.size=ds:=List.take_of_length_le (by simp[txt])
   rw[e,txt_size]
   exact q p hpn
end
end Pr
namespace Pr
open PySem L2 Qf
theorem clamp_in (v M:Int) (h:0<=M):0<=(if M<(if 0>v then 0 else v) then M else (if 0>v then 0 else v))/\(if M<(if 0>v then 0 else v) then M else (if 0>v then 0 else v))<=M:=by
 split<;>split at *<;>lia
section
variable {P:Program}{w:World}{K:PySem.W.Frag}{mg:Str->Option Value}{base:Heap}
abbrev nNr:List Str:=["_law_pot_here", "_law_boxes_here", "_law_n", "_law_row", "_law_column", "_law_box_here"]
abbrev nNr3:List Str:=["_law_pot_here", "_law_boxes_here", "_law_n"]
theorem scNr:FnScope nNr nNr3 (defScope lNear):=⟨rfl,rfl,rfl,by decide +kernel,rfl,by decide +kernel,by decide +kernel⟩
def spNr:Sp:=λvs H Q _=>∃(p bp:Addr) (n:Nat) (boxes:List Row),vs=[.ref p,.ref bp,.int (n:Nat)]/\PurseAt H p/\RowsL H bp boxes/\bp≠p/\(∀b∈boxes,BoxIn n b)/\boxes.length<=900/\n<=12 /\
 ∀(H':Hp) (q:Addr) (r c:Nat),But p H H'->PurseAt H' p->r<2^n->c<2^n->H' q=some (.tup (vN [r,c]))->Q (.ref q) H'
theorem ok_Nr {f fD:Addr}{fd fdD:FuncData}(F:Fun K "_law_near_box" "_law_near_box" lNear f fd) (B:Blt mg) (hD:mg "_law_digit" = some (.ref fD)) (FD:Fun K "_law_digit" "_law_digit" lDigit fD fdD) (bD:Binds K fdD ["_law_pot_here", "_law_many"] []) :
  FnOk P w K mg base CX0 2 f fd nNr3 spNr:=by
 have GD:FnOk P w K mg base CX0 1 fD fdD ["_law_pot_here", "_law_many"] spDigit:=ok_digit FD
 refine F.ok scNr (λvs H Q E h=>?_) (λcdv A outer s H vs Q E hr h=>?_)
 ·obtain⟨p,bp,n,boxes,rfl,_⟩:=h
  rfl
 ·obtain⟨p,bp,n,boxes,rfl,hp,hR,hbp,hin,hbl,hn,q⟩:=h
  refine seqE ⟨_,⟨ps_set (i:=3) scNr.nd rfl (by first|exact Or.inl rfl|exact Or.inr rfl) (PEb.go ⟨pe_call GD hr (by rfl) hD FD.kp bD .nil pass0 (pa_cons (pv 0) (pa_cons (pe_op op_shl pe_int (pv 2)) pa_nil))⟩)⟩,?_⟩
  refine seqE ⟨_,⟨ps_set (i:=4) scNr.nd rfl (by first|exact Or.inl rfl|exact Or.inr rfl) (PEb.go ⟨pe_call GD hr (by rfl) hD FD.kp bD .nil pass0 (pa_cons (pv 0) (pa_cons (pe_op op_shl pe_int (pv 2)) pa_nil))⟩)⟩,?_⟩
  refine seqE ⟨_,⟨ps_if (PW.pt (pw_and (pt_cmpR (op_neD hr) (pv 1) (pe_lst pa_nil) (nomark _)) (pw_and1 (pt_cmpR op_gt (PEb.go ⟨pe_call GD hr (by rfl) hD FD.kp bD .nil pass0 (pa_cons (pv 0) (pa_cons pe_int pa_nil))⟩) pe_int (nomark _)))))
   (StB.go (.cons ⟨ps_set (i:=5) scNr.nd rfl (by first|exact Or.inl rfl|exact Or.inr rfl) (PEb.go ⟨pe_ix ix_list (pv 1) (PEb.go ⟨pe_call GD hr (by rfl) hD FD.kp bD .nil pass0 (Ars2.go (.cons ⟨pv 0⟩ (.cons ⟨pe_callB call_len_seq (by rfl) B.len PySem.boot_len (pa_cons (pv 1) pa_nil)⟩ .nil rfl) rfl))⟩) (λ_ _=>rfl)⟩)⟩
   (.cons ⟨ps_set (i:=3) scNr.nd rfl (by first|exact Or.inl rfl|exact Or.inr rfl) (PEb.go ⟨pe_callB (call_min2 rfl) (by rfl) B.min PyProof.Rows.boot_min (Ars2.go (.cons ⟨pe_callB (call_max2 rfl) (by rfl) B.max PyProof.Rows.boot_max (Ars2.go (.cons ⟨pe_op op_sub (PEb.go ⟨pe_op op_add (PEb.go ⟨pe_ix ix_tup (pv 5) pe_int (λ_ _=>rfl)⟩) (PEb.go ⟨pe_ix ix_list (PEb.go ⟨pe_lst (Ars2.go (.cons ⟨pe_int⟩ (.cons ⟨pe_ix ix_tup (pv 5) pe_int (λ_ _=>rfl)⟩ .nil rfl) rfl))⟩) (PEb.go ⟨pe_call GD hr (by rfl) hD FD.kp bD .nil pass0 (pa_cons (pv 0) (pa_cons pe_int pa_nil))⟩) (λ_ _=>rfl)⟩)⟩) (PEb.go ⟨pe_call GD hr (by rfl) hD FD.kp bD .nil pass0 (pa_cons (pv 0) (pa_cons pe_int pa_nil))⟩)⟩ (.cons ⟨pe_int⟩ .nil rfl) rfl))⟩ (.cons ⟨pe_op op_sub (pe_op op_shl pe_int (pv 2)) pe_int⟩ .nil rfl) rfl))⟩)⟩
   (.one ⟨ps_set (i:=4) scNr.nd rfl (by first|exact Or.inl rfl|exact Or.inr rfl) (PEb.go ⟨pe_callB (call_min2 rfl) (by rfl) B.min PyProof.Rows.boot_min (Ars2.go (.cons ⟨pe_callB (call_max2 rfl) (by rfl) B.max PyProof.Rows.boot_max (Ars2.go (.cons ⟨pe_op op_sub (PEb.go ⟨pe_op op_add (PEb.go ⟨pe_ix ix_tup (pv 5) pe_int (λ_ _=>rfl)⟩) (PEb.go ⟨pe_ix ix_list (PEb.go ⟨pe_lst (Ars2.go (.cons ⟨pe_int⟩ (.cons ⟨pe_ix ix_tup (pv 5) pe_int (λ_ _=>rfl)⟩ .nil rfl) rfl))⟩) (PEb.go ⟨pe_call GD hr (by rfl) hD FD.kp bD .nil pass0 (pa_cons (pv 0) (pa_cons pe_int pa_nil))⟩) (λ_ _=>rfl)⟩)⟩) (PEb.go ⟨pe_call GD hr (by rfl) hD FD.kp bD .nil pass0 (pa_cons (pv 0) (pa_cons pe_int pa_nil))⟩)⟩ (.cons ⟨pe_int⟩ .nil rfl) rfl))⟩ (.cons ⟨pe_op op_sub (pe_op op_shl pe_int (pv 2)) pe_int⟩ .nil rfl) rfl))⟩)⟩)))) pss_nil⟩,?_⟩
  refine lastE ⟨_,⟨ps_ret (pe_tup (Ars2.go (.cons ⟨pv 3⟩ (.cons ⟨pv 4⟩ .nil rfl) rfl)))⟩,?_⟩
  have h2n:=pow_4096 hn
  have h2p:0<2^n:=Nat.pow_pos (by decide)
  have e1n:(1:Int)*2^((n:Nat):Int).toNat=((2^n:Nat):Int):=by rw[Int.one_mul,Int.toNat_natCast];simp
  have eD:∀p:Addr,[V.ref p,V.int ((1:Int)*2^((n:Nat):Int).toNat)]=[V.ref p,V.int ((2^n:Nat):Int)]:=λp=>by rw[e1n]
  have hpt:∀{H1 H2:Hp},PurseAt H1 p->But p H1 H2->Tups H1 H2:=λ{H1 H2} h b=>by
   obtain⟨x,y,h1,_⟩:=h
   exact b.tups h1 (λu z=>by cases z)
  have hps:∀{H1 H2:Hp},PurseAt H1 p->Same H1 H2->PurseAt H2 p:=λ{H1 H2} h s=>by
   obtain⟨x,y,h1,h2⟩:=h
   exact⟨x,y,s _ _ h1,h2⟩
  have hpr:∀{H1 H2:Hp},RowsL H1 bp boxes->PurseAt H1 p->But p H1 H2->RowsL H2 bp boxes:=λ{H1 H2} hR h b=>by
   obtain⟨x,y,h1,_⟩:=h
   exact hR.but b hbp h1 (λu z=>by cases z)
  have fin:∀(H':Hp) (r c:Int) (q':Addr),But p H H'->PurseAt H' p->0<=r->r<=((2^n:Nat):Int)-1->0<=c->c<=((2^n:Nat):Int)-1->H' q'=none->Q (.ref q') (upd H' q' (.tup [.int r,.int c])):=λH' r c q' b hp' r0 r1 c0 c1 hq=>by
   refine q _ q' r.toNat c.toNat (b.trans (But.of (sameU hq))) (hps hp' (sameU hq)) (by lia) (by lia) ?_
   rw[upd_same]
   show some (HO.tup [.int r,.int c])=some (HO.tup [.int (r.toNat:Int),.int (c.toNat:Int)])
   rw[show ((r.toNat:Nat):Int)=r by lia,show ((c.toNat:Nat):Int)=c by lia]
  refine⟨_,rfl,_,rfl,_,_,rfl,rfl,⟨by lia,by lia,by decide⟩,p,2^n,eD p,hp,h2p,by lia,λr H1 hr1 b1 hp1=>?_⟩
  refine⟨_,rfl,_,rfl,_,_,rfl,rfl,⟨by lia,by lia,by decide⟩,p,2^n,eD p,hp1,h2p,by lia,λc H2 hc2 b2 hp2=>?_⟩
  have B2:=b1.trans b2
  have hR2:=hpr (hpr hR hp b1) hp1 b2
  refine⟨_,rfl,(by show 0<=sizeLine;decide),λl hl=>?_⟩
  have B3:But p H (upd H2 l (.lst [])):=B2.trans (But.of (sameU hl))
  have hp3:=hps hp2 (sameU (o:=.lst []) hl)
  have hR3:=hR2.same (sameU (o:=.lst []) hl)
  have hl3:upd H2 l (.lst []) l=some (.lst []):=upd_same
  generalize upd H2 l (.lst [])=H3 at B3 hp3 hR3 hl3 ⊢
  refine⟨_,_,rowsL_data hR3,.lst hl3 .nil,rows_lay _,rfl,rowsL_depth _,_,rfl,?_⟩
  rw[eqv_nil]
  cases boxes with
  |nil=>exact iteF (iteF ⟨_,rfl,_,rfl,(by show 2<=sizeLine;decide),λq' hq=>fin H3 _ _ q' B3 hp3 (by lia) (by lia) (by lia) (by lia) hq⟩)
  |cons b0 bs0=>
   refine iteT ?_
   refine⟨_,rfl,p,4,rfl,hp3,by decide,by decide,λd4 H4 hd4 b4 hp4=>?_⟩
   refine⟨_,_,rfl,rfl,_,rfl,?_⟩
   have B4:=B3.trans b4
   refine ite2 (λhc=>?_) (λhc=>⟨_,rfl,_,rfl,(by show 2<=sizeLine;decide),λq' hq=>fin H4 _ _ q' B4 hp4 (by lia) (by lia) (by lia) (by lia) hq⟩)
   have hR4:=hpr hR3 hp3 b4
   obtain⟨as,ha,hal,hrow⟩:=id hR4
   refine⟨_,rfl,_,rfl,_,rfl,bp,_,rfl,.inl (SqL.of ha),p,(as.map V.ref).length,rfl,hp4,?_,?_,λj H5 hj b5 hp5=>?_⟩
   ·rw[List.length_map,hal];exact Nat.succ_pos _
   ·rw[List.length_map,hal];exact Nat.lt_of_le_of_lt hbl (by decide)
   ·rw[List.length_map] at hj
    have haj:as[j]?=some as[j]:=List.getElem?_eq_getElem hj
    have hbj:(b0::bs0)[j]?=some ((b0::bs0)[j]'(by rw[<- hal];exact hj)):=List.getElem?_eq_getElem _
    have hbt:=hrow j _ _ haj hbj
    obtain⟨x0,x1,x2,x3,eb,_⟩:=hin _ (List.mem_of_getElem? hbj)
    rw[eb] at hbt
    generalize as[j]=ba at haj hbt
    have t5:=hpt hp4 b5
    have hbt5:=t5 _ _ hbt
    have B5:=B4.trans b5
    have ha5:=b5 _ _ ha hbp
    refine⟨bp,_,(j:Int),.ref ba,rfl,rfl,SqL.of ha5,atI_nat (by rw[List.getElem?_map,haj];rfl),?_⟩
    refine⟨_,rfl,ba,_,0,_,rfl,rfl,SqT.of hbt5,rfl,_,rfl,ba,_,2,_,rfl,rfl,SqT.of hbt5,rfl,(by show 2<=sizeLine;decide),λl6 hl6=>?_⟩
    have B6:=B5.trans (But.of (sameU (o:=.lst [.int 0,.int (x2:Nat)]) hl6))
    have hp6:=hps hp5 (sameU (o:=.lst [.int 0,.int (x2:Nat)]) hl6)
    have hb6:=keepU (u:=.lst [.int 0,.int (x2:Nat)]) hbt5 hl6
    have hl6':upd H5 l6 (.lst [.int 0,.int (x2:Nat)]) l6=some (.lst [.int 0,.int (x2:Nat)]):=upd_same
    have nl6:l6≠p:=λz=>by
     obtain⟨u,v,h1,_⟩:=hp5
     rw[z] at hl6
     rw[hl6] at h1;cases h1
    generalize upd H5 l6 (.lst [.int 0,.int (x2:Nat)])=H6 at B6 hp6 hb6 hl6' ⊢
    have two:∀(d x:Nat),d<2->atI [V.int 0,V.int (x:Nat)] (d:Int)=some (.int (if d=0 then 0 else (x:Int))):=λd x h=>by
     match d,h with
     |0,_=>rfl
     |1,_=>rfl
    refine⟨_,rfl,p,2,rfl,hp6,by decide,by decide,λd7 H7 hd7 b7 hp7=>?_⟩
    refine⟨l6,_,(d7:Int),_,rfl,rfl,SqL.of (b7 _ _ hl6' nl6),two d7 x2 hd7,_,_,rfl,rfl,?_⟩
    refine⟨_,rfl,p,2,rfl,hp7,by decide,by decide,λd8 H8 hd8 b8 hp8=>?_⟩
    refine⟨_,_,rfl,rfl,_,_,rfl,_,rfl,_,_,rfl,rfl,⟨by lia,by lia,by decide⟩,_,_,rfl,rfl,_,_,rfl,?_⟩
    have t7:=hpt hp6 b7
    have t8:=hpt hp7 b8
    have hb8:=t8 _ _ (t7 _ _ hb6)
    have B8:=(B6.trans b7).trans b8
    rw[e1n]
    generalize hz1:(((x0:Nat):Int)+(if d7=0 then 0 else (x2:Int))-((d8:Nat):Int))=z1
    refine⟨_,rfl,ba,_,1,_,rfl,rfl,SqT.of hb8,rfl,_,rfl,ba,_,3,_,rfl,rfl,SqT.of hb8,rfl,(by show 2<=sizeLine;decide),λl9 hl9=>?_⟩
    have B9:=B8.trans (But.of (sameU (o:=.lst [.int 0,.int (x3:Nat)]) hl9))
    have hp9:=hps hp8 (sameU (o:=.lst [.int 0,.int (x3:Nat)]) hl9)
    have hl9':upd H8 l9 (.lst [.int 0,.int (x3:Nat)]) l9=some (.lst [.int 0,.int (x3:Nat)]):=upd_same
    have nl9:l9≠p:=λz=>by
     obtain⟨u,v,h1,_⟩:=hp8
     rw[z] at hl9
     rw[hl9] at h1;cases h1
    generalize upd H8 l9 (.lst [.int 0,.int (x3:Nat)])=H9 at B9 hp9 hl9' ⊢
    refine⟨_,rfl,p,2,rfl,hp9,by decide,by decide,λda Ha hda ba' hpa=>?_⟩
    refine⟨l9,_,(da:Int),_,rfl,rfl,SqL.of (ba' _ _ hl9' nl9),two da x3 hda,_,_,rfl,rfl,?_⟩
    refine⟨_,rfl,p,2,rfl,hpa,by decide,by decide,λdb Hb hdb bb hpb=>?_⟩
    refine⟨_,_,rfl,rfl,_,_,rfl,_,rfl,_,_,rfl,rfl,⟨by lia,by lia,by decide⟩,_,_,rfl,rfl,_,_,rfl,?_⟩
    rw[e1n]
    have hM:(0:Int)<=((2^n:Nat):Int)-1:=by lia
    refine⟨_,rfl,_,rfl,(by show 2<=sizeLine;decide),λq' hq=>fin Hb _ _ q' ((B9.trans ba').trans bb) hpb (clamp_in _ _ hM).1 (clamp_in _ _ hM).2 (clamp_in _ _ hM).1 (clamp_in _ _ hM).2 hq⟩
abbrev nAd:List Str:=["_law_pot_here", "_law_boxes_here", "_law_n", "_law_row", "_law_column", "_law_size"]
theorem scAd:FnScope nAd nNr3 (defScope lAddress):=⟨rfl,rfl,rfl,by decide +kernel,rfl,by decide +kernel,by decide +kernel⟩
def spAd:Sp:=λvs H Q _=>∃(p bp:Addr) (n:Nat) (boxes:List Row),vs=[.ref p,.ref bp,.int (n:Nat)]/\PurseAt H p/\RowsL H bp boxes/\bp≠p/\(∀b∈boxes,BoxIn n b)/\boxes.length<=900/\n<=12 /\
 ∀(H':Hp) (ds:List Nat),But p H H'->PurseAt H' p->(∀d∈ds,d<4)->ds.length<=n->Q (.str (txt ds)) H'
theorem ok_Ad {f fD fN:Addr}{fd fdD fdN:FuncData}(F:Fun K "_law_address" "_law_address" lAddress f fd) (B:Blt mg) (hD:mg "_law_digit" = some (.ref fD)) (FD:Fun K "_law_digit" "_law_digit" lDigit fD fdD) (bD:Binds K fdD ["_law_pot_here", "_law_many"] [])
  (hN:mg "_law_near_box" = some (.ref fN)) (FN:Fun K "_law_near_box" "_law_near_box" lNear fN fdN) (bN:Binds K fdN nNr3 []) (GN:FnOk P w K mg base CX0 2 fN fdN nNr3 spNr):FnOk P w K mg base CX0 3 f fd nNr3 spAd:=by
 have GD:FnOk P w K mg base CX0 1 fD fdD ["_law_pot_here", "_law_many"] spDigit:=ok_digit FD
 refine F.ok scAd (λvs H Q E h=>?_) (λcdv A outer s H vs Q E hr h=>?_)
 ·obtain⟨p,bp,n,boxes,rfl,_⟩:=h
  rfl
 ·obtain⟨p,bp,n,boxes,rfl,hp,hR,hbp,hin,hbl,hn,q⟩:=h
  have hr1:Room 1 _:=hr.mono (by decide)
  refine seqE ⟨_,⟨ps_asg (PEb.go ⟨pe_call GN hr (by rfl) hN FN.kp bN .nil pass0 (pa_cons (pv 0) (pa_cons (pv 1) (pa_cons (pv 2) pa_nil)))⟩) (pg_tup rfl (pgs_cons (pg_name (i:=3) scAd.nd rfl (by first|exact Or.inl rfl|exact Or.inr rfl)) (pgs_cons (pg_name (i:=4) scAd.nd rfl (by first|exact Or.inl rfl|exact Or.inr rfl)) pgs_nil)))⟩,?_⟩
  refine seqE ⟨_,⟨ps_set (i:=5) scAd.nd rfl (by first|exact Or.inl rfl|exact Or.inr rfl) (PEb.go ⟨pe_call GD hr1 (by rfl) hD FD.kp bD .nil pass0 (pa_cons (pv 0) (pa_cons (pe_op op_add (pv 2) pe_int) pa_nil))⟩)⟩,?_⟩
  refine lastE ⟨_,⟨ps_ret (pe_bm PySem.F.plainAttrs_str PySem.F.slot_str_join PySem.F.type_str_join mt_join pe_str (pa_cons (PEb.go ⟨pe_compB nAd (defScope lAddress) rfl rfl rfl scAd.nd
    (pi_down (by rfl) B.range (pa_cons (pe_op op_sub (pv 2) pe_int) (pa_cons (pe_op op_sub (pv 5) pe_int) (pa_cons (pe_un un_neg pe_int) pa_nil))))
    (λcl C fp s₀ H₀=>pe_ix ix_str pe_str (PEb.go ⟨pe_op op_add (pe_op op_mul pe_int (pe_op op_and (pe_op op_shr (pv 4) (pv 0)) pe_int)) (pe_op op_and (pe_op op_shr (pv 5) (pv 0)) pe_int)⟩) (λ_ _=>rfl))⟩) pa_nil))⟩,?_⟩
  refine⟨_,rfl,_,rfl,_,rfl,p,bp,n,boxes,rfl,hp,hR,hbp,hin,hbl,hn,λH1 q1 r c b1 hp1 hr2 hc2 hq1=>?_⟩
  refine⟨q1,_,rfl,SqT.of hq1,rfl,_,_,rfl,_,_,rfl,rfl,?_⟩
  refine⟨_,rfl,_,rfl,_,_,rfl,rfl,p,n+1,rfl,hp1,by lia,by lia,λk H2 hk b2 hp2=>?_⟩
  refine⟨rfl,?_⟩
  refine⟨_,rfl,_,_,rfl,rfl,_,rfl,_,_,rfl,rfl,_,rfl,(n:Int)-1,(k:Int)-1,rfl,⟨by lia,by lia,by lia,by lia⟩,λD hD=>?_⟩
  have eN:((n:Int)-1-((k:Int)-1)).toNat=n-k:=by lia
  rw[eN]
  have q2:∀H',Same H2 H'->Q (.str (txt (dgp r c k (n-k)))) H':=λH' s'=>q H' _ ((b1.trans b2).trans (But.of s')) (hp2.same s') (dgp_lt _ _ _ _) (by rw[dgp_len];lia)
  rw[dgp_range] at q2
  generalize hNn:n-k=NN at q2 ⊢
  have eq0:∀i,i<NN->qd r c (k+NN-1-i)=qd r c (n-1-i):=λi hi=>by congr 1;lia
  refine⟨λi cnt xs H3=>i<=NN/\cnt=NN-i/\xs=((List.range i).map λi=>qd r c (k+NN-1-i)).map (λd=>V.str ⟨#[48+d]⟩)/\H3=upd H2 D (.lst xs),⟨_,Nat.zero_le _,rfl,rfl,rfl⟩,?_⟩
  rintro i cnt xs H3 ⟨hi,rfl,rfl,rfl⟩
  refine⟨upd_same,small1000 (by simp;lia),?_⟩
  by_cases he:i=NN
  ·subst he
   refine .inl ⟨Nat.le_refl _, "",D,((List.range i).map λj=>qd r c (k+i-1-j)).map (λd=>(⟨#[48+d]⟩:Str)),rfl,rfl,?_,?_,?_⟩
   ·rw[upd_same]
    simp only[List.map_map]
    rfl
   ·have e1:∀l:List Nat,((l.map (λd=>(⟨#[48+d]⟩:Str))).map (·.length)).sum=l.length:=λl=>by
     induction l with
     |nil=>rfl
     |cons a l ih=>
      rw[List.map_cons,List.map_cons,List.sum_cons,ih,List.length_cons]
      show 1+l.length=l.length+1
      lia
    rw[e1]
    have e3:("" : Str).length=0:=by decide +kernel
    rw[e3,List.length_map,List.length_range]
    lia
   ·rw[join_txt]
    exact q2 _ λb o e=>by rw[upd_ne (ne_of_none e hD)];exact e
  ·refine .inr ⟨show i<NN by lia,?_⟩
   rintro yv H4 ⟨rfl,rfl⟩
   have ek:(n:Int)-1-(i:Int)=((n-1-i:Nat):Int):=by lia
   have eq1:(2:Int)*Builtin.bitAnd ((r:Int)/2^((n:Int)-1-(i:Int)).toNat) 1+Builtin.bitAnd ((c:Int)/2^((n:Int)-1-(i:Int)).toNat) 1=((qd r c (k+NN-1-i):Nat):Int):=by
    rw[ek,bit_nat,bit_nat,eq0 i (by lia)];unfold qd;lia
   refine⟨_,rfl,_,rfl,_,_,rfl,rfl,by lia,_,_,rfl,rfl,_,_,rfl,rfl,.inl ⟨by decide,by decide⟩,_,rfl,_,rfl,_,_,rfl,rfl,by lia,_,_,rfl,rfl,_,_,rfl,rfl,_,((qd r c (k+NN-1-i):Nat):Int),_,rfl,congrArg V.int eq1,four_len,fig_at (qd_lt _ _ _),upd_same,NN-(i+1),by lia,by lia,rfl,?_,upd_upd⟩
   rw[List.range_succ,List.map_append,List.map_append]
   rfl
end
end Pr
namespace L2
open PySem
section
variable {X:Cx}
theorem preSum_ints (ns:List Int):∀n,n<=ns.length->preSum (λi=>ns.getD i 0) n=(ns.take n).sum:=by
 intro n
 induction n with
 |zero=>intro _;simp[preSum]
 |succ n ih=>
  intro h
  have hn:n<ns.length:=h
  rw[preSum,ih (Nat.le_of_lt hn),List.take_succ_eq_append_getElem hn,List.sum_append]
  simp[List.getD,hn]
theorem call_sumL (hc:X.calm=true):CallR X (.builtin "sum") (λxs H Q=>∃(p:Addr) (ns:List Int),xs=[.ref p]/\H p=some (.lst (ns.map V.int))/\Q (.int ns.sum) H):=by
 intro pins s σ H xs us Q I r h
 obtain⟨p,ns,rfl,hp,q⟩:=h
 obtain⟨u,rfl,rx⟩:=vals1 r
 cases rx
 obtain⟨z,its,n,rv,hl⟩:=I.hok p _ hp
 have isl:s.heap.IsList p its.toArray:=⟨_,hl,rfl,_,rfl⟩
 have hlen:its.length=ns.length:=by have:=rv.length;simpa using this.symm
 have np:p≠s.heap.objs.size:=Nat.ne_of_lt (Heap.lt_size hl)
 refine call_sum_walkAnyB (wpAny_pyIter_list isl ?_)
 refine⟨s.heap.objs.size,_,_,_,_,_,_,λi=>ns.getD i 0,rfl,(Walks.list (A:=X.A.in1) (I.ok.hd hc) s.heap.objs.size p np its.toArray).toS,⟨⟨_,Heap.get?_push_size _ rfl,rfl,rfl⟩,isl.at λo e=>Heap.get?_push_of_some _ e⟩,?_,?_,?_⟩
 ·intro b hb
  rw[Heap.size_push]
  rcases List.mem_cons.mp hb with rfl|hb
  ·exact Nat.lt_succ_self _
  ·have:b=p:=by simpa using hb
   subst this
   exact Nat.lt_succ_of_lt (Heap.lt_size hl)
 ·intro i v hv
  have hv':its[i]?=some v:=by simpa using hv
  have hi:i<ns.length:=by rw[<- hlen];exact (List.getElem?_eq_some_iff.mp hv').1
  obtain⟨w',e1,t,e2⟩:=rv.get (x:=V.int (ns[i])) (i:=i) (by simp[hi])
  rw[hv'] at e1;cases e1
  exact .inl ⟨t,by rw[e2];simp[List.getD,hi]⟩
 ·intro s' t' mv
  have es:its.toArray.size=ns.length:=by simpa using hlen
  refine⟨.int ns.sum,H,moved_inv I mv λb o e hb=>?_,⟨t',?_⟩,q⟩
  ·have:b=s.heap.objs.size:=by simpa using hb
   exact Nat.lt_irrefl _ (by rw[this] at e;exact Heap.lt_size e)
  ·rw[es,preSum_ints ns _ (Nat.le_refl _),List.take_length]
end
end L2
namespace Qf
open Tr
def nlf:Tr->Nat
 |.nd a b c d=>nlf a+nlf b+nlf c+nlf d
 |_=>1
def cntL (rows:List Row) (i:Nat):List Nat:=1::1::(List.range i).map λp=>nlf (T rows (p+2))
theorem cntL_len (rows:List Row) (i:Nat):(cntL rows i).length=i+2:=by simp[cntL]
theorem cntL_at {rows:List Row}{i x:Nat}(h:x<i+2):(cntL rows i)[x]?=some (nlf (T rows x)):=by
 match x,h with
 |0,_=>rw[T_zero];rfl
 |1,_=>rw[T_one];rfl
 |x+2,h=>
  show ((List.range i).map λp=>nlf (T rows (p+2)))[x]?=_
  rw[List.getElem?_map,List.getElem?_range (by lia)]
  rfl
theorem cntL_succ {rows:List Row}(ok:RowsOk rows){i:Nat}{r:Row}(h:rows[i]?=some r):cntL rows (i+1)=cntL rows i++[(r.map λx=>nlf (T rows x)).sum]:=by
 obtain⟨a,b,c,d,rfl⟩:=four_of (ok i r h).1
 unfold cntL
 rw[List.range_succ,List.map_append]
 show 1::1::(_++[nlf (T rows (i+2))])=_
 rw[T_row ok h]
 show 1::1::(_++[nlf (T rows a)+nlf (T rows b)+nlf (T rows c)+nlf (T rows d)])=_
 have:([a,b,c,d].map λx=>nlf (T rows x)).sum=nlf (T rows a)+nlf (T rows b)+nlf (T rows c)+nlf (T rows d):=by simp;lia
 rw[this]
 rfl
theorem sum_int (l:List Nat):(l.map λn:Nat=>(n:Int)).sum=((l.sum:Nat):Int):=by
 induction l with
 |nil=>rfl
 |cons a l ih=>rw[List.map_cons,List.sum_cons,List.sum_cons,ih];lia
end Qf
namespace Pr
open PySem L2 Qf
section
variable {P:Program}{w:World}{K:PySem.W.Frag}{mg:Str->Option Value}{base:Heap}
abbrev nCo:List Str:=["top", "rows", "counts", "row"]
theorem scCo:FnScope nCo ["top", "rows"] (defScope sCountL):=⟨rfl,rfl,rfl,by decide +kernel,rfl,by decide +kernel,by decide +kernel⟩
def spCo:Sp:=λvs H Q _=>∃(p:Addr) (x:Nat) (rows:List Row),vs=[.int (x:Nat),.ref p]/\RowsAt H p rows/\RowsOk rows/\rows.length<=900/\x<rows.length+2/\∀H',Same H H'->Q (.int (nlf (T rows x):Nat)) H'
theorem ok_Co {f:Addr}{fd:FuncData}(F:Fun K "count_leaves" "count_leaves" sCountL f fd) (hsm:mg "sum" = none):FnOk P w K mg base CX0 1 f fd ["top", "rows"] spCo:=by
 refine F.ok scCo (λvs H Q E h=>?_) (λcdv A outer s H vs Q E hr h=>?_)
 ·obtain⟨p,x,rows,rfl,_⟩:=h
  rfl
 ·obtain⟨p,x,rows,rfl,hR,ok,hn,hx,q⟩:=h
  refine⟨_,pss_cons (ps_set (i:=2) scCo.nd rfl (by first|exact Or.inl rfl|exact Or.inr rfl) (pe_lst (pa_cons pe_int (pa_cons pe_int pa_nil))))
   (pss_cons (ps_for PassesOwn.never rfl (pi_tup (pv 1)) (pg_name (i:=3) scCo.nd rfl (by first|exact Or.inl rfl|exact Or.inr rfl))
    (pss_one (ps_expr (pe_bm PySem.F.plainAttrs_list PySem.F.slot_list_append PySem.F.type_list_append mt_append (pv 2) (pa_cons (pe_callB (call_sumL rfl) (by rfl) hsm PyProof.Rows.boot_sum
     (pa_cons (pe_compB nCo (defScope sCountL) rfl rfl rfl scCo.nd (pi_tup (pv 3)) (λcl C fp s₀ H₀=>pe_ix (ixL K rfl) (pv 3) (pv 0) (λ_ _=>rfl))) pa_nil)) pa_nil)))))
   (pss_one (ps_ret (pe_ix (ixL K rfl) (pv 2) (pv 0) (λ_ _=>rfl))))),?_⟩
  refine⟨(by show 2<=sizeLine;decide),λD hD=>?_⟩
  obtain⟨bs,hp,hlen,hrow⟩:=id hR
  have hp1:=keepU (u:=.lst [.int 1,.int 1]) hp hD
  have hlb:(bs.map V.ref).length=rows.length:=by rw[List.length_map];exact hlen
  refine⟨_,rfl,p,rfl,⟨_,SqT.of hp1⟩,for_tup (K:=K) (a:=p) (xs:=bs.map V.ref) (λi σ H2=>Same H H2/\H2 D=some (.lst (vN (cntL rows i)))/\∃v2,σ=[some (.int (x:Nat)),some (.ref p),some (.ref D),v2])
   ⟨sameU hD,upd_same,none,rfl⟩ (λi σ H2 _ ⟨s2,_⟩=>SqT.of (s2 _ _ hp)) ?_ ?_⟩
  ·rintro i y σ H2 hy ⟨s2,hd2,v2,rfl⟩
   have hi:i<rows.length:=by rw[<- hlb];exact (List.getElem?_eq_some_iff.mp hy).1
   rw[List.getElem?_map] at hy
   obtain⟨b,hb,rfl⟩:=Option.map_eq_some_iff.mp hy
   have hr1:rows[i]?=some rows[i]:=by simp[hi]
   have hbt:=s2 _ _ (hrow i b rows[i] hb hr1)
   have rk:=ok i _ hr1
   generalize rows[i]=r at hr1 hbt rk
   refine⟨_,rfl,.inl ⟨rfl,_,SqL.of hd2⟩,_,rfl,b,rfl,⟨_,SqT.of hbt⟩,λD2 hD2=>comp_walk hD2 (λj z _=>∃x,r[j]?=some x/\z=.int (nlf (T rows x):Nat)) (goes_tup (K:=K) hbt) (by rw[vN_len,rk.1];decide) (λ_ _ _ _ _ _ h=>h) ?_ ?_⟩
   ·intro j x H3 hj hx s3 Q' hq
    obtain⟨m,hm,rfl⟩:=vN_get hx
    have hlt:=rk.2 m (List.mem_of_getElem? hm)
    exact⟨_,rfl,_,rfl,D,_,(m:Int),.int (nlf (T rows m):Nat),rfl,rfl,SqL.of (s3 _ _ hd2),vN_atI (cntL_at hlt),hq _ _ (Same.refl _) ⟨m,hm,rfl⟩⟩
   ·intro ys H3 s3 hd3 hly hys
    have ey:ys=(r.map λx=>nlf (T rows x)).map (λn:Nat=>V.int (n:Int)):=by
     refine list_ext (by rw[hly,vN_len,List.length_map,List.length_map]) λj x hx=>?_
     obtain⟨m,hm,rfl⟩:=hys j x hx
     rw[List.getElem?_map,List.getElem?_map,hm];rfl
    have e2:ys=((r.map λx=>nlf (T rows x)).map (λn:Nat=>(n:Int))).map V.int:=ey.trans (vN_int _)
    refine⟨D2,(r.map λx=>nlf (T rows x)).map (λn:Nat=>(n:Int)),rfl,e2▸hd3,?_⟩
    rw[sum_int]
    have hd4:=s3 _ _ hd2
    refine⟨D,_,_,rfl,rfl,hd4,?_,?_⟩
    ·rw[vN_len,cntL_len];exact small1000 (by lia)
    ·have nD:∀b o,H b=some o->b≠D:=λb o e=>ne_of_none e hD
     refine⟨λb o e=>by rw[upd_ne (nD b o e)];exact s3 _ _ (s2 _ _ e),?_,_,rfl⟩
     rw[upd_same,cntL_succ ok hr1]
     unfold vN
     rw[List.map_append]
     rfl
  ·rintro σ H2 ⟨s2,hd2,v2,rfl⟩
   rw[hlb] at hd2
   exact⟨_,rfl,_,rfl,D,_,(x:Int),.int (nlf (T rows x):Nat),rfl,rfl,SqL.of hd2,vN_atI (cntL_at hx),q H2 s2⟩
theorem scWL:FnScope ["shape", "most"] ["shape", "most"] (defScope sWantL):=⟨rfl,rfl,rfl,by decide +kernel,rfl,by decide +kernel,by decide +kernel⟩
def spWL:Sp:=λvs H Q _=>∃(t:Addr) (n tp m:Nat) (rows:List Row),vs=[.ref t,.int (m:Nat)]/\ShapeAt H t n tp rows/\nlf (T rows tp)<=m/\∀H',Same H H'->Q .non H'
theorem ok_WL {f fC:Addr}{fd fdC:FuncData}(F:Fun K "want_leaves" "want_leaves" sWantL f fd) (hC:mg "count_leaves" = some (.ref fC)) (FC:Fun K "count_leaves" "count_leaves" sCountL fC fdC) (bC:Binds K fdC ["top", "rows"] []) (GC:FnOk P w K mg base CX0 1 fC fdC ["top", "rows"] spCo) :
  FnOk P w K mg base CX0 2 f fd ["shape", "most"] spWL:=by
 refine F.ok scWL (λvs H Q E h=>?_) (λcdv A outer s H vs Q E hr h=>?_)
 ·obtain⟨t,n,tp,m,rows,rfl,_⟩:=h
  rfl
 ·obtain⟨t,n,tp,m,rows,rfl,hS,hm,q⟩:=h
  obtain⟨⟨p,ht,hR⟩,cn,hl⟩:=id hS
  refine lastE ⟨_,⟨ps_if (pt_cmpR op_gt (PEb.go ⟨pe_call GC hr (by rfl) hC FC.kp bC .nil pass0 (Ars2.go (.cons ⟨pe_ix ix_tup (pv 0) pe_int (λ_ _=>rfl)⟩ (.cons ⟨pe_ix ix_tup (pv 0) pe_int (λ_ _=>rfl)⟩ .nil rfl) rfl))⟩) (pv 1) (nomark _)) pss_never pss_nil⟩,?_⟩
  refine⟨_,rfl,t,_,1,.int (tp:Nat),rfl,rfl,SqT.of ht,rfl,_,rfl,t,_,2,.ref p,rfl,rfl,SqT.of ht,rfl,p,tp,rows,rfl,hR,cn.rok,hl,cn.inn,λH1 s1=>?_⟩
  refine⟨_,rfl,_,_,rfl,rfl,_,rfl,?_⟩
  rw[decide_eq_false (show ¬((m:Int)<(nlf (T rows tp):Nat)) by lia)]
  exact iteF (q H1 s1)
theorem scCs:FnScope ["shape"] ["shape"] (defScope sCoarse):=⟨rfl,rfl,rfl,by decide +kernel,rfl,by decide +kernel,by decide +kernel⟩
def spCs:Sp:=λvs H Q _=>∃(t:Addr) (n tp:Nat) (rows:List Row),vs=[.ref t]/\ShapeAt H t n tp rows/\nlf (T rows tp)<=2000/\∀H',Same H H'->Q .non H'
theorem ok_Cs {f fC:Addr}{fd fdC:FuncData}(F:Fun K "want_coarse" "want_coarse" sCoarse f fd) (hmo:∃t,mg "MOST_LEAVES" = some (.int 2000 t)) (hC:mg "want_leaves" = some (.ref fC)) (FC:Fun K "want_leaves" "want_leaves" sWantL fC fdC) (bC:Binds K fdC ["shape", "most"] []) (GC:FnOk P w K mg base CX0 2 fC fdC ["shape", "most"] spWL) :
  FnOk P w K mg base CX0 3 f fd ["shape"] spCs:=by
 obtain⟨tm,hmo⟩:=hmo
 refine F.ok scCs (λvs H Q E h=>?_) (λcdv A outer s H vs Q E hr h=>?_)
 ·obtain⟨t,n,tp,rows,rfl,_⟩:=h
  rfl
 ·obtain⟨t,n,tp,rows,rfl,hS,hm,q⟩:=h
  refine⟨_,pss_one (ps_expr (pe_call GC hr (by rfl) hC FC.kp bC .nil pass0 (pa_cons (pv 0) (pa_cons (pe_glob (v:=.int 2000) (by rfl) hmo ⟨_,rfl⟩) pa_nil)))),?_⟩
  exact⟨_,rfl,t,n,tp,2000,rows,rfl,hS,hm,q⟩
end
end Pr
namespace L2
open PySem PySem.Spec PyProof.Rows PySem.W
section
variable {X:Cx}{st:Stmt}{rest:List Stmt}{t u:TS}
end
section
variable {X:Cx}{e:Expr}{te:TE}
end
end L2
namespace Pr
open PySem L2 Qf
end Pr
namespace Qf
def dnw:Nat->Int
 |0=>-1
 |2=>1
 |_=>0
def rgt:Nat->Int
 |1=>1
 |3=>-1
 |_=>0
def sa:Nat->Nat
 |0=>2
 |3=>1
 |_=>0
def sb:Nat->Nat
 |0=>3
 |1=>2
 |2=>1
 |_=>3
theorem sab_lt {s:Nat}(h:s<4):sa s<4/\sb s<4:=by
 match s,h with
 |0,_|1,_|2,_|3,_=>exact⟨by decide,by decide⟩
theorem dep_wdn:∀(t:Tr) (ds:List Nat) (n:Nat),(∀d∈ds,d<4)->Tr.dep t<=n->Tr.dep (wdn t ds).1<=n
 |.z,ds,n,_,h=>by rw[wdn_plain (.inl rfl)];exact h
 |.o,ds,n,_,h=>by rw[wdn_plain (.inr rfl)];exact h
 |.nd a b c e,[],n,_,h=>h
 |.nd a b c e,x::ds,0,_,h=>by
  have:=dep0 h
  rcases this with z|z<;>cases z
 |.nd a b c e,x::ds,n+1,hd,h=>Nat.le_succ_of_le (dep_wdn (qr x (.nd a b c e)) ds n (λd hm=>hd d (List.mem_cons_of_mem _ hm)) (dep_qr (hd x (by simp)) _ h))
end Qf
namespace Pr
open PySem L2 Qf
theorem at_st {f:St->Hp->Prop}{σ σ':St}{H:Hp}(e:σ=σ') (h:f σ' H):f σ H:=by rw[e];exact h
def nxr (n:Nat) (ds:List Nat) (s:Nat):Int:=(rwo n ds:Nat)+dnw s*((2^(n-ds.length):Nat):Int)
def nxc (n:Nat) (ds:List Nat) (s:Nat):Int:=(clo n ds:Nat)+rgt s*((2^(n-ds.length):Nat):Int)
def inFl (n:Nat) (r c:Int):Prop:=(0<=r/\r<((2^n:Nat):Int))/\0<=c/\c<((2^n:Nat):Int)
instance (n:Nat) (r c:Int):Decidable (inFl n r c):=inferInstanceAs (Decidable (_/\_))
def nxa (n:Nat) (ds:List Nat) (s:Nat):List Nat:=dgp (nxr n ds s).toNat (nxc n ds s).toNat (n-ds.length) (n-(n-ds.length))
def bsd (n:Nat) (t:Tr) (ds:List Nat) (s:Nat):List (List Nat):=
 if inFl n (nxr n ds s) (nxc n ds s) then if (wdn t (nxa n ds s)).2 <+: ds then [] else (lvs (sa s) (sb s) n (wdn t (nxa n ds s)).1).map ((wdn t (nxa n ds s)).2++·) else []
structure Sides (K:PySem.W.Frag) (mg:Str->Option Value) (S:Addr) (SD AL:Nat->Addr):Prop where
 at_:mg "SIDES" = some (.ref S)
 all:KTup K S [.ref (SD 0),.ref (SD 1),.ref (SD 2),.ref (SD 3)]
 one:∀s,s<4->KTup K (SD s) [.int (dnw s),.int (rgt s),.ref (AL s)]
 alo:∀s,s<4->KTup K (AL s) (vN [sa s,sb s])
section
variable {P:Program}{w:World}{K:PySem.W.Frag}{mg:Str->Option Value}{base:Heap}
theorem scWSd:FnScope ["side"] ["side"] (defScope sWantSd):=⟨rfl,rfl,rfl,by decide +kernel,rfl,by decide +kernel,by decide +kernel⟩
def spWSd:Sp:=λvs H Q _=>∃s:Nat,vs=[.int (s:Nat)]/\s<4/\Q .non H
theorem ok_WSd {f fW S:Addr}{SD AL:Nat->Addr}{fd fdW:FuncData}(F:Fun K "want_side" "want_side" sWantSd f fd) (B:Blt mg) (SS:Sides K mg S SD AL) (hW:mg "is_whole" = some (.ref fW)) (FW:Fun K "is_whole" "is_whole" sWhole fW fdW) (bW:Binds K fdW ["thing"] []):FnOk P w K mg base CX0 2 f fd ["side"] spWSd:=by
 have GW:FnOk P w K mg base CX0 1 fW fdW ["thing"] spWhole:=ok_whole FW B
 refine F.ok scWSd (λvs H Q E h=>?_) (λcdv A outer s H vs Q E hr h=>?_)
 ·obtain⟨s,rfl,_⟩:=h
  rfl
 ·obtain⟨s,rfl,hs,q⟩:=h
  refine lastE ⟨_,⟨ps_if (PW.pt (pw_or (pt_not (pt_val (pe_call GW hr (by rfl) hW FW.kp bW .nil pass0 (pa_cons (pv 0) pa_nil)))) (pw_or1 (pt_not (pt_chain op_le op_lt pe_int (pv 0) (PEb.go ⟨pe_callB call_len_seq (by rfl) B.len PySem.boot_len (pa_cons (pe_glob (v:=.ref S) (by rfl) SS.at_ rfl) pa_nil)⟩)))))) pss_never pss_nil⟩,?_⟩
  refine⟨_,rfl,(s:Int),rfl,_,rfl,iteF ?_⟩
  refine⟨_,rfl,_,_,rfl,rfl,_,rfl,?_⟩
  rw[decide_eq_true (show (0:Int)<=(s:Int) by lia)]
  refine iteT ?_
  refine⟨S,_,rfl,.inr (.inr SS.all),_,_,rfl,rfl,_,rfl,?_⟩
  rw[decide_eq_true (show (s:Int)<([V.ref (SD 0),V.ref (SD 1),V.ref (SD 2),V.ref (SD 3)].length:Nat) by show (s:Int)<4;lia)]
  exact iteF q
abbrev nLB:List Str:=["shape", "address", "side", "n", "top", "rows", "down", "right", "along", "row", "column", "cells", "next_row", "next_column", "number", "there", "addresses"]
theorem scLB:FnScope nLB ["shape", "address", "side"] (defScope sLvsB):=⟨rfl,rfl,rfl,by decide +kernel,rfl,by decide +kernel,by decide +kernel⟩
def spLB:Sp:=λvs H Q _=>∃(t:Addr) (n tp s:Nat) (ds:List Nat) (rows:List Row),vs=[.ref t,.str (txt ds),.int (s:Nat)]/\ShapeAt H t n tp rows/\n<=12/\(∀d∈ds,d<4)/\ds.length<=n/\s<4 /\
 ∀(H':Hp) (l:Addr),Same H H'->H l=none->H' l=some (.lst (vT (bsd n (T rows tp) ds s)))->Q (.ref l) H'
theorem ok_LB {f fB fC fW fA fG S:Addr}{SD AL:Nat->Addr}{fd fdB fdC fdW fdA fdG:FuncData}(F:Fun K "leaves_beside" "leaves_beside" sLvsB f fd) (B:Blt mg) (SS:Sides K mg S SD AL)
  (hB:mg "box_at" = some (.ref fB)) (FB:Fun K "box_at" "box_at" sBoxAt fB fdB) (bB:Binds K fdB ["n", "address"] []) (GB:FnOk P w K mg base CX0 2 fB fdB ["n", "address"] spBoxAt)
  (hC:mg "is_cell" = some (.ref fC)) (FC:Fun K "is_cell" "is_cell" sCell fC fdC) (bC:Binds K fdC ["n", "row", "column"] []) (GC:FnOk P w K mg base CX0 2 fC fdC ["n", "row", "column"] spCell)
  (hW:mg "way_down" = some (.ref fW)) (FW:Fun K "way_down" "way_down" sWayD fW fdW) (bW:Binds K fdW ["rows", "top", "address"] []) (GW:FnOk P w K mg base CX0 1 fW fdW ["rows", "top", "address"] spWD)
  (hA:mg "address_at" = some (.ref fA)) (FA:Fun K "address_at" "address_at" sAddrAt fA fdA) (bA:Binds K fdA ["n", "row", "column", "size"] []) (GA:FnOk P w K mg base CX0 2 fA fdA ["n", "row", "column", "size"] spAddrAt)
  (hG:mg "gather_along" = some (.ref fG)) (FG:Fun K "gather_along" "gather_along" sAlong fG fdG) (bG:Binds K fdG nAl5 []) (GG:∀d,FnOk P w K mg base CX0 (d+1) fG fdG nAl5 (spAl K d)) :
  FnOk P w K mg base CX0 14 f fd ["shape", "address", "side"] spLB:=by
 refine F.ok scLB (λvs H Q E h=>?_) (λcdv A outer st H vs Q E hr h=>?_)
 ·obtain⟨t,n,tp,s,ds,rows,rfl,_⟩:=h
  rfl
 ·obtain⟨t,n,tp,s,ds,rows,rfl,hS,hn,hds,hl,hs,q⟩:=h
  have hr2:Room 2 _:=hr.mono (by decide)
  have hr1:Room 1 _:=hr.mono (by decide)
  have hr3:Room (n+1) _:=hr.mono (by lia)
  obtain⟨⟨rp,ht,hR⟩,cn,hrl⟩:=id hS
  refine seqE ⟨_,⟨ps_asg (pv 0) (pg_tup rfl (pgs_cons (pg_name (i:=3) scLB.nd rfl (by first|exact Or.inl rfl|exact Or.inr rfl)) (pgs_cons (pg_name (i:=4) scLB.nd rfl (by first|exact Or.inl rfl|exact Or.inr rfl)) (pgs_cons (pg_name (i:=5) scLB.nd rfl (by first|exact Or.inl rfl|exact Or.inr rfl)) pgs_nil))))⟩,?_⟩
  refine seqE ⟨_,⟨ps_asg (PEb.go ⟨pe_ix ix_tup (pe_glob (v:=.ref S) (by rfl) SS.at_ rfl) (pv 2) (λ_ _=>rfl)⟩) (pg_tup rfl (pgs_cons (pg_name (i:=6) scLB.nd rfl (by first|exact Or.inl rfl|exact Or.inr rfl)) (pgs_cons (pg_name (i:=7) scLB.nd rfl (by first|exact Or.inl rfl|exact Or.inr rfl)) (pgs_cons (pg_name (i:=8) scLB.nd rfl (by first|exact Or.inl rfl|exact Or.inr rfl)) pgs_nil))))⟩,?_⟩
  refine seqE ⟨_,⟨ps_asg (PEb.go ⟨pe_call GB hr2 (by rfl) hB FB.kp bB .nil pass0 (pa_cons (pv 3) (pa_cons (pv 1) pa_nil))⟩) (pg_tup rfl (pgs_cons (pg_name (i:=9) scLB.nd rfl (by first|exact Or.inl rfl|exact Or.inr rfl)) (pgs_cons (pg_name (i:=10) scLB.nd rfl (by first|exact Or.inl rfl|exact Or.inr rfl)) (pgs_cons (pg_name (i:=11) scLB.nd rfl (by first|exact Or.inl rfl|exact Or.inr rfl)) pgs_nil))))⟩,?_⟩
  refine seqE ⟨_,⟨ps_set (i:=12) scLB.nd rfl (by first|exact Or.inl rfl|exact Or.inr rfl) (pe_op op_add (pv 9) (pe_op op_mul (pv 6) (pv 11)))⟩,?_⟩
  refine seqE ⟨_,⟨ps_set (i:=13) scLB.nd rfl (by first|exact Or.inl rfl|exact Or.inr rfl) (pe_op op_add (pv 10) (pe_op op_mul (pv 7) (pv 11)))⟩,?_⟩
  refine seqE ⟨_,⟨ps_if (pt_not (pt_val (pe_call GC hr2 (by rfl) hC FC.kp bC .nil pass0 (pa_cons (pv 3) (pa_cons (pv 12) (pa_cons (pv 13) pa_nil)))))) (pss_one (ps_ret (pe_lst pa_nil))) pss_nil⟩,?_⟩
  refine seqE ⟨_,⟨ps_asg (PEb.go ⟨pe_call GW hr1 (by rfl) hW FW.kp bW .nil pass0 (Ars2.go (.cons ⟨pv 5⟩ (.cons ⟨pv 4⟩ (.cons ⟨pe_call GA hr2 (by rfl) hA FA.kp bA .nil pass0 (Ars2.go (.cons ⟨pv 3⟩ (.cons ⟨pv 12⟩ (.cons ⟨pv 13⟩ (.cons ⟨pe_op op_sub (pv 3) (PEb.go ⟨pe_callB call_len_str (by rfl) B.len PySem.boot_len (pa_cons (pv 1) pa_nil)⟩)⟩ .nil rfl) rfl) rfl) rfl))⟩ .nil rfl) rfl) rfl))⟩) (pg_tup rfl (pgs_cons (pg_name (i:=14) scLB.nd rfl (by first|exact Or.inl rfl|exact Or.inr rfl)) (pgs_cons (pg_name (i:=15) scLB.nd rfl (by first|exact Or.inl rfl|exact Or.inr rfl)) pgs_nil)))⟩,?_⟩
  refine seqE ⟨_,⟨ps_if (pt_val (pe_bm PySem.F.plainAttrs_str PySem.F.slot_str_startswith PySem.F.type_str_startswith mt_starts (pv 1) (pa_cons (pv 15) pa_nil))) (pss_one (ps_ret (pe_lst pa_nil))) pss_nil⟩,?_⟩
  refine seqE ⟨_,⟨ps_set (i:=16) scLB.nd rfl (by first|exact Or.inl rfl|exact Or.inr rfl) (pe_lst pa_nil)⟩,?_⟩
  refine seqE ⟨_,⟨ps_expr (pe_call (GG n) hr3 (by rfl) hG FG.kp bG .nil pass0 (Ars2.go (.cons ⟨pv 5⟩ (.cons ⟨pv 14⟩ (.cons ⟨pv 15⟩ (.cons ⟨pv 8⟩ (.cons ⟨pv 16⟩ .nil rfl) rfl) rfl) rfl) rfl)))⟩,?_⟩
  refine lastE ⟨_,⟨ps_ret (pv 16)⟩,?_⟩
  refine⟨_,rfl,t,_,rfl,SqT.of ht,rfl,_,_,rfl,_,_,rfl,_,_,rfl,rfl,?_⟩
  refine at_st (σ':=[some (V.ref t),some (V.str (txt ds)),some (V.int ((s:Nat):Int)),some (V.int ((n:Nat):Int)),some (V.int ((tp:Nat):Int)),some (V.ref rp),none,none,none,none,none,none,none,none,none,none,none]) rfl ?_
  have hat:atI [V.ref (SD 0),.ref (SD 1),.ref (SD 2),.ref (SD 3)] (s:Int)=some (.ref (SD s)):=atI_nat (by
   match s,hs with
   |0,_|1,_|2,_|3,_=>rfl)
  refine⟨_,rfl,S,_,(s:Int),.ref (SD s),rfl,rfl,.inr SS.all,hat,SD s,_,rfl,.inr (SS.one s hs),rfl,_,_,rfl,_,_,rfl,_,_,rfl,rfl,?_⟩
  refine at_st (σ':=[some (V.ref t),some (V.str (txt ds)),some (V.int ((s:Nat):Int)),some (V.int ((n:Nat):Int)),some (V.int ((tp:Nat):Int)),some (V.ref rp),some (V.int (dnw s)),some (V.int (rgt s)),some (V.ref (AL s)),none,none,none,none,none,none,none,none]) rfl ?_
  refine⟨_,rfl,_,rfl,n,ds,rfl,hn,hds,hl,λp hp=>?_⟩
  refine⟨p,_,rfl,SqT.of upd_same,rfl,_,_,rfl,_,_,rfl,_,_,rfl,rfl,?_⟩
  refine at_st (σ':=[some (V.ref t),some (V.str (txt ds)),some (V.int ((s:Nat):Int)),some (V.int ((n:Nat):Int)),some (V.int ((tp:Nat):Int)),some (V.ref rp),some (V.int (dnw s)),some (V.int (rgt s)),some (V.ref (AL s)),some (V.int ((rwo n ds:Nat):Int)),some (V.int ((clo n ds:Nat):Int)),some (V.int ((2^(n-ds.length):Nat):Int)),none,none,none,none,none]) rfl ?_
  have s1:=sameU (o:=.tup (vN [rwo n ds,clo n ds,2^(n-ds.length)])) hp
  have hpn:H p=none:=hp
  generalize upd H p (.tup (vN [rwo n ds,clo n ds,2^(n-ds.length)]))=H1 at s1 ⊢
  have h4:2^(n-ds.length)<=4096:=pow_4096 (by lia)
  have hm4:CMul (dnw s) ((2^(n-ds.length):Nat):Int)/\CMul (rgt s) ((2^(n-ds.length):Nat):Int):=by
   generalize 2^(n-ds.length)=z at h4
   exact⟨.inr ⟨by lia,by lia⟩,.inr ⟨by lia,by lia⟩⟩
  refine⟨_,rfl,_,rfl,_,rfl,_,_,rfl,rfl,hm4.1,_,_,rfl,rfl,?_⟩
  refine⟨_,rfl,_,rfl,_,rfl,_,_,rfl,rfl,hm4.2,_,_,rfl,rfl,?_⟩
  refine at_st (σ':=[some (V.ref t),some (V.str (txt ds)),some (V.int ((s:Nat):Int)),some (V.int ((n:Nat):Int)),some (V.int ((tp:Nat):Int)),some (V.ref rp),some (V.int (dnw s)),some (V.int (rgt s)),some (V.ref (AL s)),some (V.int ((rwo n ds:Nat):Int)),some (V.int ((clo n ds:Nat):Int)),some (V.int ((2^(n-ds.length):Nat):Int)),some (V.int (nxr n ds s)),some (V.int (nxc n ds s)),none,none,none]) rfl ?_
  refine⟨_,rfl,_,rfl,_,rfl,n,nxr n ds s,nxc n ds s,rfl,hn,_,rfl,?_⟩
  have fresh:∀{H2:Hp}{l:Addr},Same H1 H2->H2 l=none->H l=none:=λ{H2 l} s2 e=>by
   cases e0:H l with
   |none=>rfl
   |some o=>rw[s2 _ _ (s1 _ _ e0)] at e;cases e
  unfold bsd at q
  refine ite2 (λhc=>?_) (λhc=>?_)
  ·have hno:¬inFl n (nxr n ds s) (nxc n ds s):=λz=>by
    have:decide (inFl n (nxr n ds s) (nxc n ds s))=true:=decide_eq_true z
    have hc':(!decide (inFl n (nxr n ds s) (nxc n ds s)))=true:=hc
    rw[this] at hc';cases hc'
   rw[if_neg hno] at q
   refine⟨(by show 0<=sizeLine;decide),λl hl1=>q _ l (s1.trans (sameU hl1)) (fresh (Same.refl _) hl1) upd_same⟩
  ·have hyes:inFl n (nxr n ds s) (nxc n ds s):=by
    by_cases z:inFl n (nxr n ds s) (nxc n ds s)
    ·exact z
    ·refine absurd ?_ hc
     show (!decide (inFl n (nxr n ds s) (nxc n ds s)))=true
     rw[decide_eq_false z];rfl
   rw[if_pos hyes] at q
   obtain⟨⟨r0,r1⟩,c0,c1⟩:=id hyes
   have er:nxr n ds s=(((nxr n ds s).toNat:Nat):Int):=by lia
   have ec:nxc n ds s=(((nxc n ds s).toNat:Nat):Int):=by lia
   have en:(n:Int)-((txt ds).length:Nat)=((n-ds.length:Nat):Int):=by rw[txt_len];lia
   have hna:∀d∈nxa n ds s,d<4:=dgp_lt _ _ _ _
   have hnl:(nxa n ds s).length<=12:=by unfold nxa;rw[dgp_len];lia
   refine⟨_,rfl,_,rfl,_,rfl,_,rfl,_,rfl,_,rfl,_,rfl,txt ds,rfl,by rw[txt_len];exact Nat.le_of_lt (small1000 (by lia)),_,_,rfl,rfl,n,n-ds.length,(nxr n ds s).toNat,(nxc n ds s).toNat,?_,hn,by lia,λH2 s2=>?_⟩
   ·rw[<- er,<- ec,<- en];rfl
   ·have s12:=s1.trans s2
    refine⟨rp,tp,nxa n ds s,rows,rfl,hR.same s12,cn.rok,cn.inn,hna,hnl,λH3 p3 y s3 hp3 hy hTy=>?_⟩
    have s13:=s12.trans s3
    refine⟨p3,_,rfl,SqT.of hp3,rfl,_,_,rfl,_,_,rfl,rfl,?_⟩
    refine at_st (σ':=[some (V.ref t),some (V.str (txt ds)),some (V.int ((s:Nat):Int)),some (V.int ((n:Nat):Int)),some (V.int ((tp:Nat):Int)),some (V.ref rp),some (V.int (dnw s)),some (V.int (rgt s)),some (V.ref (AL s)),some (V.int ((rwo n ds:Nat):Int)),some (V.int ((clo n ds:Nat):Int)),some (V.int ((2^(n-ds.length):Nat):Int)),some (V.int (nxr n ds s)),some (V.int (nxc n ds s)),some (V.int ((y:Nat):Int)),some (V.str (txt (wdn (T rows tp) (nxa n ds s)).2)),none]) rfl ?_
    refine⟨_,rfl,rfl,_,rfl,_,_,rfl,rfl,_,rfl,?_⟩
    rw[starts_txt]
    refine ite2 (λhc=>?_) (λhc=>?_)
    ·rw[if_pos (of_decide_eq_true hc)] at q
     refine⟨(by show 0<=sizeLine;decide),λl hl1=>q _ l (s13.trans (sameU hl1)) (fresh (s2.trans s3) hl1) upd_same⟩
    ·rw[if_neg (λz=>hc (decide_eq_true z))] at q
     refine⟨(by show 0<=sizeLine;decide),λl hl1=>?_⟩
     refine at_st (σ':=[some (V.ref t),some (V.str (txt ds)),some (V.int ((s:Nat):Int)),some (V.int ((n:Nat):Int)),some (V.int ((tp:Nat):Int)),some (V.ref rp),some (V.int (dnw s)),some (V.int (rgt s)),some (V.ref (AL s)),some (V.int ((rwo n ds:Nat):Int)),some (V.int ((clo n ds:Nat):Int)),some (V.int ((2^(n-ds.length):Nat):Int)),some (V.int (nxr n ds s)),some (V.int (nxc n ds s)),some (V.int ((y:Nat):Int)),some (V.str (txt (wdn (T rows tp) (nxa n ds s)).2)),some (V.ref l)]) rfl ?_
     have s4:=s13.trans (sameU (o:=.lst []) hl1)
     have hdn:Tr.dep (T rows y)<=n:=by rw[hTy];exact dep_wdn _ _ _ hna (canon_dep cn)
     have hpl:(wdn (T rows tp) (nxa n ds s)).2.length<=12:=Nat.le_trans (wdn_pre _ _).length_le hnl
     have h2n:2^n<=4096:=pow_4096 hn
     refine⟨_,rfl,_,rfl,_,rfl,_,rfl,_,rfl,rp,AL s,l,y,sa s,sb s,(wdn (T rows tp) (nxa n ds s)).2,[],rows,rfl,hR.same s4,cn.rok,SS.alo s hs,hy,hdn,(sab_lt hs).1,(sab_lt hs).2,upd_same,by lia,hn,by show 0+2^n<=100000;lia,λH5 B5 hl5=>?_⟩
     refine⟨_,rfl,q H5 l (λb o e=>B5 b o (s4 _ _ e) (λz=>?_)) (fresh (s2.trans s3) hl1) ?_⟩
     ·rw[z,fresh (s2.trans s3) hl1] at e;cases e
     ·rw[hl5,hTy,List.nil_append]
theorem scBs:FnScope ["shape", "address", "side"] ["shape", "address", "side"] (defScope sBesideP):=⟨rfl,rfl,rfl,by decide +kernel,rfl,by decide +kernel,by decide +kernel⟩
def spBs:Sp:=λvs H Q _=>∃(t:Addr) (n tp s:Nat) (ds:List Nat) (rows:List Row),vs=[.ref t,.str (txt ds),.int (s:Nat)]/\ShapeAt H t n tp rows/\n<=12/\(∀d∈ds,d<4)/\ds.length<=n/\s<4/\nlf (T rows tp)<=2000 /\
 ∀(H':Hp) (l:Addr),Same H H'->H l=none->H' l=some (.lst (vT (bsd n (T rows tp) ds s)))->Q (.ref l) H'
theorem ok_Bs {f fS fA fD fC fL:Addr}{fd fdS fdA fdD fdC fdL:FuncData}(F:Fun K "beside" "beside" sBesideP f fd)
  (hS:mg "want_shape" = some (.ref fS)) (FS:Fun K "want_shape" "want_shape" sWantS fS fdS) (bS:Binds K fdS ["shape"] []) (GS:FnOk P w K mg base CX0 16 fS fdS ["shape"] spWantS)
  (hA:mg "want_address" = some (.ref fA)) (FA:Fun K "want_address" "want_address" sWantA fA fdA) (bA:Binds K fdA ["n", "address"] []) (GA:FnOk P w K mg base CX0 3 fA fdA ["n", "address"] spWantA)
  (hD:mg "want_side" = some (.ref fD)) (FD:Fun K "want_side" "want_side" sWantSd fD fdD) (bD:Binds K fdD ["side"] []) (GD:FnOk P w K mg base CX0 2 fD fdD ["side"] spWSd)
  (hC:mg "want_coarse" = some (.ref fC)) (FC:Fun K "want_coarse" "want_coarse" sCoarse fC fdC) (bC:Binds K fdC ["shape"] []) (GC:FnOk P w K mg base CX0 3 fC fdC ["shape"] spCs)
  (hL:mg "leaves_beside" = some (.ref fL)) (FL:Fun K "leaves_beside" "leaves_beside" sLvsB fL fdL) (bL:Binds K fdL ["shape", "address", "side"] []) (GL:FnOk P w K mg base CX0 14 fL fdL ["shape", "address", "side"] spLB) :
  FnOk P w K mg base CX0 17 f fd ["shape", "address", "side"] spBs:=by
 refine F.ok scBs (λvs H Q E h=>?_) (λcdv A outer st H vs Q E hr h=>?_)
 ·obtain⟨t,n,tp,s,ds,rows,rfl,_⟩:=h
  rfl
 ·obtain⟨t,n,tp,s,ds,rows,rfl,hSh,hn,hds,hl,hs,hlf,q⟩:=h
  have hr3:Room 3 _:=hr.mono (by decide)
  have hr2:Room 2 _:=hr.mono (by decide)
  have hr14:Room 14 _:=hr.mono (by decide)
  refine seqE ⟨_,⟨ps_expr (pe_call GS hr (by rfl) hS FS.kp bS .nil pass0 (pa_cons (pv 0) pa_nil))⟩,?_⟩
  refine seqE ⟨_,⟨ps_expr (pe_call GA hr3 (by rfl) hA FA.kp bA .nil pass0 (pa_cons (pe_ix ix_tup (pv 0) pe_int (λ_ _=>rfl)) (pa_cons (pv 1) pa_nil)))⟩,?_⟩
  refine seqE ⟨_,⟨ps_expr (pe_call GD hr2 (by rfl) hD FD.kp bD .nil pass0 (pa_cons (pv 2) pa_nil))⟩,?_⟩
  refine seqE ⟨_,⟨ps_expr (pe_call GC hr3 (by rfl) hC FC.kp bC .nil pass0 (pa_cons (pv 0) pa_nil))⟩,?_⟩
  refine lastE ⟨_,⟨ps_ret (pe_call GL hr14 (by rfl) hL FL.kp bL .nil pass0 (pa_cons (pv 0) (pa_cons (pv 1) (pa_cons (pv 2) pa_nil))))⟩,?_⟩
  refine⟨_,rfl,t,n,tp,rows,rfl,hSh,λH1 s1=>?_⟩
  have sh1:ShapeAt H1 t n tp rows:=⟨hSh.1.mono s1.tups,hSh.2⟩
  obtain⟨⟨rp,ht,_⟩,_⟩:=id sh1
  refine⟨_,rfl,t,_,0,.int (n:Nat),rfl,rfl,SqT.of ht,rfl,_,rfl,n,ds,rfl,hn,hds,hl,λH2 s2=>?_⟩
  refine⟨_,rfl,s,rfl,hs,?_⟩
  have sh2:ShapeAt H2 t n tp rows:=⟨sh1.1.mono s2.tups,hSh.2⟩
  refine⟨_,rfl,t,n,tp,rows,rfl,sh2,hlf,λH3 s3=>?_⟩
  have sh3:ShapeAt H3 t n tp rows:=⟨sh2.1.mono s3.tups,hSh.2⟩
  refine⟨_,rfl,_,rfl,_,rfl,t,n,tp,s,ds,rows,rfl,sh3,hn,hds,hl,hs,λH4 l s4 hl3 hl4=>q H4 l (((s1.trans s2).trans s3).trans s4) ?_ hl4⟩
  cases e0:H l with
  |none=>rfl
  |some o=>rw[s3 _ _ (s2 _ _ (s1 _ _ e0))] at hl3;cases hl3
end
end Pr
namespace Qf
open Tr
theorem along {t:Tr}{q:List Nat}{a b k:Nat}(ht:dep t<=k+q.length) (hq:∀d∈q,d<4) (ha:a<4) (hb:b<4) :
  dep (wdn t q).1<=k/\∀(i:Nat) ds',(lvs a b k (wdn t q).1)[i]?=some ds'->(wdn t (q++bd a b k (pos k (lvs a b k (wdn t q).1) i))).2=(wdn t q).2++ds'/\pos k (lvs a b k (wdn t q).1) i<2^k/\(∀d∈(wdn t q).2++ds',d<4)/\((wdn t q).2++ds').length<=k+q.length /\
   ∀f:Nat->Nat,f a=0->f b=1->(∀d,d<4->f d<=1)->∃z,cof f (k+q.length) ((wdn t q).2++ds')+2^(k+q.length-((wdn t q).2++ds').length)=cof f (k+q.length) q+z/\(i+1<(lvs a b k (wdn t q).1).length->z=pos k (lvs a b k (wdn t q).1) (i+1))/\(i+1=(lvs a b k (wdn t q).1).length->2^k<=z):=by
 have hd:dep (wdn t q).1<=k:=by
  rcases wdn_app t q [] with ⟨h1,_⟩|⟨h1,_⟩
  ·exact dep_wdn2 t q k hq ht h1
  ·rcases h1 with z|z<;>rw[z]<;>exact Nat.zero_le _
 have A:=lvs_alg a b k (wdn t q).1 hd ha hb
 refine⟨hd,λi ds' hi=>?_⟩
 obtain⟨g1,g2,g3⟩:=A.lf i ds' hi
 have hpre:=wdn_pre t q
 have hmem:=List.mem_of_getElem? hi
 have hsh:=A.short ds' hmem
 have hlen:((wdn t q).2++ds').length<=k+q.length:=by
  rw[List.length_append]
  have:=hpre.length_le
  lia
 refine⟨by rw[leaf_at,g1],g2,λd hx=>?_,hlen,λf fa fb fl=>?_⟩
 ·rcases List.mem_append.mp hx with h|h
  ·exact hq d (hpre.subset h)
  ·rcases A.figs ds' hmem d h with rfl|rfl<;>assumption
 ·rcases wdn_app t q [] with ⟨h1,_⟩|⟨h1,_⟩
  ·rw[h1,cof_app f _ q ds' (by lia),List.length_append,Nat.add_sub_cancel,g3 f fa fb]
   refine⟨pos k (lvs a b k (wdn t q).1) i+2^(k+q.length-(q.length+ds'.length)),by lia,λ_=>?_,λhl=>?_⟩
   ·rw[pos_succ hi]
    congr 2
    lia
   ·have:=A.whole
    rw[<- hl,pos_succ hi] at this
    rw[show k+q.length-(q.length+ds'.length)=k-ds'.length by lia,this]
    exact Nat.le_refl _
  ·rw[lvs_plain h1] at hi ⊢
   match i,hi with
   |0,hi=>
    cases hi
    rw[List.append_nil]
    obtain⟨rest,hrest⟩:=hpre
    have hl:(wdn t q).2.length+rest.length=q.length:=by rw[<- hrest,List.length_append,hrest]
    have hin:cof f (k+q.length-(wdn t q).2.length) rest+2^(k+q.length-(wdn t q).2.length-rest.length)<=2^(k+q.length-(wdn t q).2.length):=cof_in fl (λd hx=>hq d (by rw[<- hrest];exact List.mem_append_right _ hx)) (by lia)
    rw[show k+q.length-(wdn t q).2.length-rest.length=k by lia] at hin
    have hq2:cof f (k+q.length) q=cof f (k+q.length) (wdn t q).2+cof f (k+q.length-(wdn t q).2.length) rest:=by
     rw[<- cof_app f _ _ _ (by lia),hrest]
    rw[hq2]
    exact⟨2^(k+q.length-(wdn t q).2.length)-cof f (k+q.length-(wdn t q).2.length) rest,by lia,λh=>absurd h (by simp),λ_=>by lia⟩
   |i+1,hi=>simp at hi
end Qf
namespace Pr
open PySem L2 Qf
def dv (s:Nat) (S:Int):Int:=
 match s with
 |0=>-1
 |2=>S
 |_=>0
def rv (s:Nat) (S:Int):Int:=
 match s with
 |1=>S
 |3=>-1
 |_=>0
def dn0 (n:Nat) (ds:List Nat) (s:Nat):Int:=((rwo n ds:Nat):Int)+dv s ((2^(n-ds.length):Nat):Int)
def rg0 (n:Nat) (ds:List Nat) (s:Nat):Int:=((clo n ds:Nat):Int)+rv s ((2^(n-ds.length):Nat):Int)
structure Geo (n:Nat) (ds:List Nat) (s:Nat):Prop where
 ni:inFl n (nxr n ds s) (nxc n ds s)
 di:inFl n (dn0 n ds s) (rg0 n ds s)
 cell:∀j:Nat,j<2^(n-ds.length)->∃r c:Nat,dn0 n ds s+(j:Int)*((s:Int)%2)=(r:Nat)/\rg0 n ds s+(j:Int)*(1-(s:Int)%2)=(c:Nat)/\dgp r c 0 n=nxa n ds s++bd (sa s) (sb s) (n-ds.length) j
 ev:s%2=0->clo n (nxa n ds s)=clo n ds
 od:s%2=1->rwo n (nxa n ds s)=rwo n ds
 ne:nxa n ds s≠ds
theorem geo {n s:Nat}{ds:List Nat}(hds:∀d∈ds,d<4) (hl:ds.length<=n) (hs:s<4):(¬inFl n (nxr n ds s) (nxc n ds s)/\¬inFl n (dn0 n ds s) (rg0 n ds s))\/Geo n ds s:=by
 obtain⟨r,er,hr⟩:=cof_mul half_le ds n hds hl
 obtain⟨c,ec,hc⟩:=cof_mul odd_le ds n hds hl
 obtain⟨k,hk⟩:∃k,n=k+ds.length:=⟨n-ds.length,by lia⟩
 have ek:n-ds.length=k:=by lia
 rw[ek] at er ec
 have er':rwo n ds=2^k*r:=er
 have ec':clo n ds=2^k*c:=ec
 have hSp:0<2^k:=Nat.pow_pos (by decide)
 have e2n:2^n=2^k*2^ds.length:=by rw[hk,Nat.pow_add]
 have hb:∀x,x<2^ds.length->2^k*x+2^k<=2^n:=λx hx=>by rw[e2n,<- Nat.mul_succ];exact Nat.mul_le_mul_left _ hx
 have hnb:∀x,¬x<2^ds.length->2^n<=2^k*x:=λx hx=>by rw[e2n];exact Nat.mul_le_mul_left _ (by lia)
 have nx:∀r0 c0:Nat,nxr n ds s=((2^k*r0:Nat):Int)->nxc n ds s=((2^k*c0:Nat):Int)->nxa n ds s=dgp (2^k*r0) (2^k*c0) k ds.length:=λr0 c0 h1 h2=>by
  unfold nxa
  rw[h1,h2,Int.toNat_natCast,Int.toNat_natCast,ek,show n-k=ds.length by lia]
 have rn:∀r0 c0:Nat,r0<2^ds.length->rwo n (dgp (2^k*r0) (2^k*c0) k ds.length)=2^k*r0:=λr0 c0 h=>by rw[hk];exact row_next h
 have cn:∀r0 c0:Nat,c0<2^ds.length->clo n (dgp (2^k*r0) (2^k*c0) k ds.length)=2^k*c0:=λr0 c0 h=>by rw[hk];exact col_next h
 have hbr:=hb r hr
 have hbc:=hb c hc
 match s,hs with
 |0,_=>
  have e1:nxr n ds 0=((2^k*r:Nat):Int)+(-1)*((2^k:Nat):Int):=by unfold nxr;rw[er',ek];rfl
  have e2:nxc n ds 0=((2^k*c:Nat):Int):=by unfold nxc;rw[ec',ek];show _+(0:Int)*_=_;rw[Int.zero_mul,Int.add_zero]
  have e3:dn0 n ds 0=((2^k*r:Nat):Int)+-1:=by unfold dn0;rw[er'];rfl
  have e4:rg0 n ds 0=((2^k*c:Nat):Int):=by unfold rg0;rw[ec'];show _+(0:Int)=_;rw[Int.add_zero]
  cases r with
  |zero=>
   left
   unfold inFl
   rw[e1,e3,Nat.mul_zero]
   generalize 2^k=S at hSp
   exact⟨λh=>by have:=h.1.1;lia,λh=>by have:=h.1.1;lia⟩
  |succ r=>
   right
   have hr':r<2^ds.length:=by lia
   have hm:2^k*(r+1)=2^k*r+2^k:=Nat.mul_succ _ _
   have e1':nxr n ds 0=((2^k*r:Nat):Int):=by rw[e1,hm];lia
   have enx:=nx r c e1' e2
   refine⟨?_,?_,λj hj=>⟨2^k*r+(2^k-1),2^k*c+j,?_,?_,?_⟩,λ_=>?_,λh=>(by cases h),λh=>?_⟩
   ·unfold inFl;rw[e1',e2];lia
   ·unfold inFl;rw[e3,e4,hm];lia
   ·rw[e3,hm];show _+(j:Int)*0=_;lia
   ·rw[e4];show _+(j:Int)*1=_;lia
   ·rw[ek] at hj ⊢
    rw[enx,hk,dgp_cell (by lia) hj,low_0]
    rfl
   ·rw[enx,cn _ _ hc,ec']
   ·have h1:=rn r c hr'
    rw[<- enx,h,er',hm] at h1
    lia
 |1,_=>
  have e1:nxr n ds 1=((2^k*r:Nat):Int):=by unfold nxr;rw[er',ek];show _+(0:Int)*_=_;rw[Int.zero_mul,Int.add_zero]
  have hm:2^k*(c+1)=2^k*c+2^k:=Nat.mul_succ _ _
  have e2:nxc n ds 1=((2^k*(c+1):Nat):Int):=by unfold nxc;rw[ec',ek,hm];show _+(1:Int)*_=_;lia
  have e3:dn0 n ds 1=((2^k*r:Nat):Int):=by unfold dn0;rw[er'];show _+(0:Int)=_;rw[Int.add_zero]
  have e4:rg0 n ds 1=((2^k*(c+1):Nat):Int):=by unfold rg0;rw[ec',ek,hm];show _+((2^k:Nat):Int)=_;lia
  by_cases hc':c+1<2^ds.length
  ·right
   have hbc':=hb _ hc'
   have enx:=nx r (c+1) e1 e2
   refine⟨?_,?_,λj hj=>⟨2^k*r+j,2^k*(c+1)+0,?_,?_,?_⟩,λh=>(by cases h),λ_=>?_,λh=>?_⟩
   ·unfold inFl;rw[e1,e2];lia
   ·unfold inFl;rw[e3,e4];lia
   ·rw[e3];show _+(j:Int)*1=_;lia
   ·rw[e4];show _+(j:Int)*0=_;lia
   ·rw[ek] at hj ⊢
    rw[enx,hk,dgp_cell hj hSp,low_1]
    rfl
   ·rw[enx,rn _ _ hr,er']
   ·have h1:=cn r (c+1) hc'
    rw[<- enx,h,ec',hm] at h1
    lia
  ·left
   have:=hnb _ hc'
   unfold inFl
   rw[e2,e4]
   exact⟨λh=>by have:=h.2.2;lia,λh=>by have:=h.2.2;lia⟩
 |2,_=>
  have e2:nxc n ds 2=((2^k*c:Nat):Int):=by unfold nxc;rw[ec',ek];show _+(0:Int)*_=_;rw[Int.zero_mul,Int.add_zero]
  have hm:2^k*(r+1)=2^k*r+2^k:=Nat.mul_succ _ _
  have e1:nxr n ds 2=((2^k*(r+1):Nat):Int):=by unfold nxr;rw[er',ek,hm];show _+(1:Int)*_=_;lia
  have e4:rg0 n ds 2=((2^k*c:Nat):Int):=by unfold rg0;rw[ec'];show _+(0:Int)=_;rw[Int.add_zero]
  have e3:dn0 n ds 2=((2^k*(r+1):Nat):Int):=by unfold dn0;rw[er',ek,hm];show _+((2^k:Nat):Int)=_;lia
  by_cases hr':r+1<2^ds.length
  ·right
   have hbr':=hb _ hr'
   have enx:=nx (r+1) c e1 e2
   refine⟨?_,?_,λj hj=>⟨2^k*(r+1)+0,2^k*c+j,?_,?_,?_⟩,λ_=>?_,λh=>(by cases h),λh=>?_⟩
   ·unfold inFl;rw[e1,e2];lia
   ·unfold inFl;rw[e3,e4];lia
   ·rw[e3];show _+(j:Int)*0=_;lia
   ·rw[e4];show _+(j:Int)*1=_;lia
   ·rw[ek] at hj ⊢
    rw[enx,hk,dgp_cell hSp hj,low_2]
    rfl
   ·rw[enx,cn _ _ hc,ec']
   ·have h1:=rn (r+1) c hr'
    rw[<- enx,h,er',hm] at h1
    lia
  ·left
   have:=hnb _ hr'
   unfold inFl
   rw[e1,e3]
   exact⟨λh=>by have:=h.1.2;lia,λh=>by have:=h.1.2;lia⟩
 |3,_=>
  have e2:nxc n ds 3=((2^k*c:Nat):Int)+(-1)*((2^k:Nat):Int):=by unfold nxc;rw[ec',ek];rfl
  have e1:nxr n ds 3=((2^k*r:Nat):Int):=by unfold nxr;rw[er',ek];show _+(0:Int)*_=_;rw[Int.zero_mul,Int.add_zero]
  have e4:rg0 n ds 3=((2^k*c:Nat):Int)+-1:=by unfold rg0;rw[ec'];rfl
  have e3:dn0 n ds 3=((2^k*r:Nat):Int):=by unfold dn0;rw[er'];show _+(0:Int)=_;rw[Int.add_zero]
  cases c with
  |zero=>
   left
   unfold inFl
   rw[e2,e4,Nat.mul_zero]
   generalize 2^k=S at hSp
   exact⟨λh=>by have:=h.2.1;lia,λh=>by have:=h.2.1;lia⟩
  |succ c=>
   right
   have hc':c<2^ds.length:=by lia
   have hm:2^k*(c+1)=2^k*c+2^k:=Nat.mul_succ _ _
   have e2':nxc n ds 3=((2^k*c:Nat):Int):=by rw[e2,hm];lia
   have enx:=nx r c e1 e2'
   refine⟨?_,?_,λj hj=>⟨2^k*r+j,2^k*c+(2^k-1),?_,?_,?_⟩,λh=>(by cases h),λ_=>?_,λh=>?_⟩
   ·unfold inFl;rw[e1,e2'];lia
   ·unfold inFl;rw[e3,e4,hm];lia
   ·rw[e3];show _+(j:Int)*1=_;lia
   ·rw[e4,hm];show _+(j:Int)*0=_;lia
   ·rw[ek] at hj ⊢
    rw[enx,hk,dgp_cell hj (by lia),low_3]
    rfl
   ·rw[enx,rn _ _ hr,er']
   ·have h1:=cn r c hc'
    rw[<- enx,h,ec',hm] at h1
    lia
end Pr
namespace Pr
open PySem L2 Qf
def vbe (n:Nat) (ds:List Nat) (s:Nat) (e:List Nat):Int:=
 if s%2=0 then ((clo n e:Nat):Int)+((2^(n-e.length):Nat):Int)-((clo n ds:Nat):Int) else ((rwo n e:Nat):Int)+((2^(n-e.length):Nat):Int)-((rwo n ds:Nat):Int)
structure Walk (n:Nat) (t:Tr) (ds:List Nat) (s:Nat) (M:List (List Nat)) (pl:Nat->Nat):Prop where
 few:M.length<=4096
 beg:pl 0=0
 stp:∀i e,M[i]?=some e->pl i<2^(n-ds.length)/\(∃r c:Nat,dn0 n ds s+(pl i:Int)*((s:Int)%2)=(r:Nat)/\rg0 n ds s+(pl i:Int)*(1-(s:Int)%2)=(c:Nat)/\(wdn t (dgp r c 0 n)).2=e)/\(∀d∈e,d<4)/\e.length<=n/\(e <+: ds->bsd n t ds s=[])/\(¬e <+: ds->bsd n t ds s=M) /\
  ∃z:Nat,vbe n ds s e=(z:Nat)/\(i+1<M.length->z=pl (i+1))/\(i+1=M.length->2^(n-ds.length)<=z)
 nil:M=[]->bsd n t ds s=[]
 inf:M≠[]<->inFl n (dn0 n ds s) (rg0 n ds s)
theorem lvs_ne (a b k:Nat) (t:Tr):lvs a b k t≠[]:=by
 induction k generalizing t with
 |zero=>cases t<;>exact λh=>nomatch h
 |succ k ih=>
  cases t with
  |z=>exact λh=>nomatch h
  |o=>exact λh=>nomatch h
  |nd p q r s=>exact λh=>ih (qr a (.nd p q r s)) (List.map_eq_nil_iff.mp (List.append_eq_nil_iff.mp h).1)
theorem sab_ev:∀s,s<4->s%2=0->sa s%2=0/\sb s%2=1:=by decide
theorem sab_od:∀s,s<4->¬s%2=0->sa s/2=0/\sb s/2=1:=by decide
theorem walk_ex {n s:Nat}{t:Tr}{ds:List Nat}(hn:n<=12) (ht:Tr.dep t<=n) (hds:∀d∈ds,d<4) (hl:ds.length<=n) (hs:s<4):∃M pl,Walk n t ds s M pl:=by
 rcases geo hds hl hs with ⟨h1,h2⟩|G
 ·refine⟨[],λ_=>0,by simp,rfl,λi e h=>by simp at h,λ_=>?_,?_⟩
  ·unfold bsd;rw[if_neg h1]
  ·exact⟨λh=>absurd rfl h,λh=>absurd h h2⟩
 ·have hna:∀d∈nxa n ds s,d<4:=dgp_lt _ _ _ _
  have hnl:(nxa n ds s).length=ds.length:=by unfold nxa;rw[dgp_len];lia
  have hkn:n-ds.length+(nxa n ds s).length=n:=by lia
  obtain⟨hd,hal⟩:=along (t:=t) (q:=nxa n ds s) (a:=sa s) (b:=sb s) (k:=n-ds.length) (by rw[hkn];exact ht) hna (sab_lt hs).1 (sab_lt hs).2
  rw[hkn] at hal
  have ebs:bsd n t ds s=if (wdn t (nxa n ds s)).2 <+: ds then [] else (lvs (sa s) (sb s) (n-ds.length) (wdn t (nxa n ds s)).1).map ((wdn t (nxa n ds s)).2++·):=by
   unfold bsd
   rw[if_pos G.ni,lvs_any (sa s) (sb s) n (n-ds.length) _ (sab_lt hs).1 (sab_lt hs).2 (Nat.le_trans hd (by lia)) hd]
  have hpre:∀e,(wdn t (nxa n ds s)).2 <+: ds->e∈lvs (sa s) (sb s) (n-ds.length) (wdn t (nxa n ds s)).1->e=[]:=λe hp he=>by
   rcases wdn_app t (nxa n ds s) [] with ⟨h1,_⟩|⟨h1,_⟩
   ·rw[h1] at hp
    exact absurd (List.IsPrefix.eq_of_length hp hnl) G.ne
   ·rw[lvs_plain h1] at he
    simpa using he
  have hfew:=lvs_few (sa s) (sb s) (n-ds.length) (wdn t (nxa n ds s)).1
  have hnn:=lvs_ne (sa s) (sb s) (n-ds.length) (wdn t (nxa n ds s)).1
  generalize hL:lvs (sa s) (sb s) (n-ds.length) (wdn t (nxa n ds s)).1=L at hal ebs hpre hfew hnn
  generalize (wdn t (nxa n ds s)).2=p at hal ebs hpre
  refine⟨L.map (p++·),λi=>pos (n-ds.length) L i,?_,rfl,λi e he=>?_,λh=>absurd (List.map_eq_nil_iff.mp h) hnn,?_⟩
  ·rw[List.length_map]
   exact Nat.le_trans hfew (pow_4096 (by lia))
  ·rw[List.getElem?_map] at he
   obtain⟨ds',hi,rfl⟩:=Option.map_eq_some_iff.mp he
   obtain⟨g1,g2,g3,g4,g5⟩:=hal i ds' hi
   obtain⟨r,c,c1,c2,c3⟩:=G.cell _ g2
   refine⟨g2,⟨r,c,c1,c2,by rw[c3];exact g1⟩,g3,g4,λhp=>?_,λhp=>?_,?_⟩
   ·rw[ebs,if_pos ((List.prefix_append p ds').trans hp)]
   ·rw[ebs,if_neg (λz=>hp ?_)]
    rw[hpre ds' z (List.mem_of_getElem? hi),List.append_nil]
    exact z
   ·rw[List.length_map]
    by_cases hev:s%2=0
    ·have hf:=sab_ev s hs hev
     obtain⟨z,z1,z2,z3⟩:=g5 (·%2) hf.1 hf.2 odd_le
     refine⟨z,?_,z2,z3⟩
     unfold vbe
     rw[if_pos hev]
     have:=G.ev hev
     have z1':clo n (p++ds')+2^(n-(p++ds').length)=clo n (nxa n ds s)+z:=z1
     rw[this] at z1'
     generalize 2^(n-(p++ds').length)=u at z1'
     lia
    ·have hf:=sab_od s hs hev
     obtain⟨z,z1,z2,z3⟩:=g5 (· / 2) hf.1 hf.2 half_le
     refine⟨z,?_,z2,z3⟩
     unfold vbe
     rw[if_neg hev]
     have:=G.od (by lia)
     have z1':rwo n (p++ds')+2^(n-(p++ds').length)=rwo n (nxa n ds s)+z:=z1
     rw[this] at z1'
     generalize 2^(n-(p++ds').length)=u at z1'
     lia
  ·exact⟨λ_=>G.di,λ_ h=>hnn (List.map_eq_nil_iff.mp h)⟩
section
variable {P:Program}{w:World}{K:PySem.W.Frag}{mg:Str->Option Value}{base:Heap}
abbrev nDu:List Str:=["_law_told", "_law_address_here", "_law_side", "_law_row", "_law_column", "_law_many", "_law_down", "_law_right", "_law_due_here", "_law_place", "_law_leaf_here", "_law_number_here", "_law_first", "_law_left", "_law_wide"]
abbrev nDu3:List Str:=["_law_told", "_law_address_here", "_law_side"]
theorem scDu:FnScope nDu nDu3 (defScope lDue):=⟨rfl,rfl,rfl,by decide +kernel,rfl,by decide +kernel,by decide +kernel⟩
theorem ok_Du {f fL fS:Addr}{fd fdL fdS:FuncData}(F:Fun K "_law_due" "_law_due" lDue f fd) (B:Blt mg)
  (hL:mg "_law_leaf" = some (.ref fL)) (FL:Fun K "_law_leaf" "_law_leaf" lLeaf fL fdL) (bL:Binds K fdL nLf3 [])
  (hS:mg "_law_square" = some (.ref fS)) (FS:Fun K "_law_square" "_law_square" lSquare fS fdS) (bS:Binds K fdS ["_law_n", "_law_address_here"] []):FnOk P w K mg base CX0 2 f fd nDu3 spLB:=by
 have GL:FnOk P w K mg base CX0 1 fL fdL nLf3 spLf:=ok_Lf FL B
 have GS:FnOk P w K mg base CX0 1 fS fdS ["_law_n", "_law_address_here"] spBoxAt:=ok_Sq FS B
 refine F.ok scDu (λvs H Q E h=>?_) (λcdv A outer st H vs Q E hr h=>?_)
 ·obtain⟨t,n,tp,s,ds,rows,rfl,_⟩:=h
  rfl
 ·obtain⟨t,n,tp,s,ds,rows,rfl,hSh,hn,hds,hl,hs,q⟩:=h
  obtain⟨⟨rp,ht,hR⟩,cn,hrl⟩:=id hSh
  obtain⟨M,pl,W⟩:=walk_ex (t:=T rows tp) hn (canon_dep cn) hds hl hs
  refine seqE ⟨_,⟨ps_asg (PEb.go ⟨pe_call GS hr (by rfl) hS FS.kp bS .nil pass0 (Ars2.go (.cons ⟨pe_ix ix_tup (pv 0) pe_int (λ_ _=>rfl)⟩ (.cons ⟨pv 1⟩ .nil rfl) rfl))⟩) (pg_tup rfl (pgs_cons (pg_name (i:=3) scDu.nd rfl (by first|exact Or.inl rfl|exact Or.inr rfl)) (pgs_cons (pg_name (i:=4) scDu.nd rfl (by first|exact Or.inl rfl|exact Or.inr rfl)) (pgs_cons (pg_name (i:=5) scDu.nd rfl (by first|exact Or.inl rfl|exact Or.inr rfl)) pgs_nil))))⟩,?_⟩
  refine seqE ⟨_,⟨ps_set (i:=6) scDu.nd rfl (by first|exact Or.inl rfl|exact Or.inr rfl) (pe_op op_add (pv 3) (PEb.go ⟨pe_ix ix_list (PEb.go ⟨pe_lst (Ars2.go (.cons ⟨pe_un un_neg pe_int⟩ (.cons ⟨pe_int⟩ (.cons ⟨pv 5⟩ (.cons ⟨pe_int⟩ .nil rfl) rfl) rfl) rfl))⟩) (pv 2) (λ_ _=>rfl)⟩))⟩,?_⟩
  refine seqE ⟨_,⟨ps_set (i:=7) scDu.nd rfl (by first|exact Or.inl rfl|exact Or.inr rfl) (pe_op op_add (pv 4) (PEb.go ⟨pe_ix ix_list (PEb.go ⟨pe_lst (Ars2.go (.cons ⟨pe_int⟩ (.cons ⟨pv 5⟩ (.cons ⟨pe_int⟩ (.cons ⟨pe_un un_neg pe_int⟩ .nil rfl) rfl) rfl) rfl))⟩) (pv 2) (λ_ _=>rfl)⟩))⟩,?_⟩
  refine seqE ⟨_,⟨ps_set (i:=8) scDu.nd rfl (by first|exact Or.inl rfl|exact Or.inr rfl) (pe_lst pa_nil)⟩,?_⟩
  refine seqE ⟨_,⟨ps_set (i:=9) scDu.nd rfl (by first|exact Or.inl rfl|exact Or.inr rfl) pe_int⟩,?_⟩
  refine seqE ⟨_,⟨ps_if (PW.pt (pw_or (pt_cmpR op_lt (PEb.go ⟨pe_callB (call_min2 rfl) (by rfl) B.min PyProof.Rows.boot_min (pa_cons (pv 6) (pa_cons (pv 7) pa_nil))⟩) pe_int (nomark _)) (pw_or1 (pt_cmpR op_ge (PEb.go ⟨pe_callB (call_max2 rfl) (by rfl) B.max PyProof.Rows.boot_max (pa_cons (pv 6) (pa_cons (pv 7) pa_nil))⟩) (PEb.go ⟨pe_op op_shl pe_int (PEb.go ⟨pe_ix ix_tup (pv 0) pe_int (λ_ _=>rfl)⟩)⟩) (nomark _))))) (pss_one (ps_set (i:=9) scDu.nd rfl (by first|exact Or.inl rfl|exact Or.inr rfl) (pv 5))) pss_nil⟩,?_⟩
  refine seqE ⟨_,⟨ps_while PassesOwn.never (pt_cmpR op_lt (pv 9) (pv 5) (nomark _))
   (StB.go (.cons ⟨ps_asg (PEb.go ⟨pe_call GL hr (by rfl) hL FL.kp bL .nil pass0 (Ars2.go (.cons ⟨pv 0⟩ (.cons ⟨pe_op op_add (pv 6) (pe_op op_mul (pv 9) (pe_op op_mod (pv 2) pe_int))⟩ (.cons ⟨pe_op op_add (pv 7) (pe_op op_mul (pv 9) (pe_op op_sub pe_int (pe_op op_mod (pv 2) pe_int)))⟩ .nil rfl) rfl) rfl))⟩) (pg_tup rfl (pgs_cons (pg_name (i:=10) scDu.nd rfl (by first|exact Or.inl rfl|exact Or.inr rfl)) (pgs_cons (pg_name (i:=11) scDu.nd rfl (by first|exact Or.inl rfl|exact Or.inr rfl)) pgs_nil)))⟩
   (.cons ⟨ps_if (pt_val (pe_bm PySem.F.plainAttrs_str PySem.F.slot_str_startswith PySem.F.type_str_startswith mt_starts (pv 1) (pa_cons (pv 10) pa_nil))) (pss_one (ps_ret (pe_lst pa_nil))) pss_nil⟩
   (.cons ⟨ps_expr (pe_bm PySem.F.plainAttrs_list PySem.F.slot_list_append PySem.F.type_list_append mt_append (pv 8) (pa_cons (pv 10) pa_nil))⟩
   (.cons ⟨ps_asg (PEb.go ⟨pe_call GS hr (by rfl) hS FS.kp bS .nil pass0 (Ars2.go (.cons ⟨pe_ix ix_tup (pv 0) pe_int (λ_ _=>rfl)⟩ (.cons ⟨pv 10⟩ .nil rfl) rfl))⟩) (pg_tup rfl (pgs_cons (pg_name (i:=12) scDu.nd rfl (by first|exact Or.inl rfl|exact Or.inr rfl)) (pgs_cons (pg_name (i:=13) scDu.nd rfl (by first|exact Or.inl rfl|exact Or.inr rfl)) (pgs_cons (pg_name (i:=14) scDu.nd rfl (by first|exact Or.inl rfl|exact Or.inr rfl)) pgs_nil))))⟩
   (.one ⟨ps_set (i:=9) scDu.nd rfl (by first|exact Or.inl rfl|exact Or.inr rfl) (PEb.go ⟨pe_ix ix_list (PEb.go ⟨pe_lst (Ars2.go (.cons ⟨pe_op op_sub (pe_op op_add (pv 13) (pv 14)) (pv 4)⟩ (.cons ⟨pe_op op_sub (pe_op op_add (pv 12) (pv 14)) (pv 3)⟩ .nil rfl) rfl))⟩) (pe_op op_mod (pv 2) pe_int) (λ_ _=>rfl)⟩)⟩))))))⟩,?_⟩
  refine lastE ⟨_,⟨ps_ret (pv 8)⟩,?_⟩
  refine⟨_,rfl,t,_,0,.int (n:Nat),rfl,rfl,SqT.of ht,rfl,_,rfl,n,ds,rfl,hn,hds,hl,λp hp=>?_⟩
  refine⟨p,_,rfl,SqT.of upd_same,rfl,_,_,rfl,_,_,rfl,_,_,rfl,rfl,?_⟩
  have s1:=sameU (o:=.tup (vN [rwo n ds,clo n ds,2^(n-ds.length)])) hp
  generalize upd H p (.tup (vN [rwo n ds,clo n ds,2^(n-ds.length)]))=H1 at s1 ⊢
  refine at_st (σ':=[some (V.ref t),some (V.str (txt ds)),some (V.int ((s:Nat):Int)),some (V.int ((rwo n ds:Nat):Int)),some (V.int ((clo n ds:Nat):Int)),some (V.int ((2^(n-ds.length):Nat):Int)),none,none,none,none,none,none,none,none,none]) rfl ?_
  have hat1:atI [V.int (-1),.int 0,.int ((2^(n-ds.length):Nat):Int),.int 0] (s:Int)=some (.int (dv s ((2^(n-ds.length):Nat):Int))):=atI_nat (by
   match s,hs with
   |0,_|1,_|2,_|3,_=>rfl)
  have hat2:atI [V.int 0,.int ((2^(n-ds.length):Nat):Int),.int 0,.int (-1)] (s:Int)=some (.int (rv s ((2^(n-ds.length):Nat):Int))):=atI_nat (by
   match s,hs with
   |0,_|1,_|2,_|3,_=>rfl)
  refine⟨_,rfl,_,rfl,_,rfl,(by show 4<=sizeLine;decide),λl1 hl1=>?_⟩
  have s2:=s1.trans (sameU (o:=.lst [V.int (-1),.int 0,.int ((2^(n-ds.length):Nat):Int),.int 0]) hl1)
  have hL1:upd H1 l1 (.lst [V.int (-1),.int 0,.int ((2^(n-ds.length):Nat):Int),.int 0]) l1=some (.lst [V.int (-1),.int 0,.int ((2^(n-ds.length):Nat):Int),.int 0]):=upd_same
  refine⟨_,rfl,l1,_,(s:Int),_,rfl,rfl,SqL.of hL1,hat1,_,_,rfl,rfl,?_⟩
  generalize upd H1 l1 (.lst [V.int (-1),.int 0,.int ((2^(n-ds.length):Nat):Int),.int 0])=H2 at s2 ⊢
  refine⟨_,rfl,_,rfl,_,rfl,(by show 4<=sizeLine;decide),λl2 hl2=>?_⟩
  have s3:=s2.trans (sameU (o:=.lst [V.int 0,.int ((2^(n-ds.length):Nat):Int),.int 0,.int (-1)]) hl2)
  have hL2:upd H2 l2 (.lst [V.int 0,.int ((2^(n-ds.length):Nat):Int),.int 0,.int (-1)]) l2=some (.lst [V.int 0,.int ((2^(n-ds.length):Nat):Int),.int 0,.int (-1)]):=upd_same
  refine⟨_,rfl,l2,_,(s:Int),_,rfl,rfl,SqL.of hL2,hat2,_,_,rfl,rfl,?_⟩
  generalize upd H2 l2 (.lst [V.int 0,.int ((2^(n-ds.length):Nat):Int),.int 0,.int (-1)])=H3 at s3 ⊢
  refine⟨(by show 0<=sizeLine;decide),λD hD=>?_⟩
  have hDn:H D=none:=by
   cases e0:H D with
   |none=>rfl
   |some o=>rw[s3 _ _ e0] at hD;cases hD
  have s4:=s3.trans (sameU (o:=.lst []) hD)
  have hD4:upd H3 D (.lst []) D=some (.lst []):=upd_same
  generalize upd H3 D (.lst [])=H4 at s4 hD4 ⊢
  have nD:∀b o,H b=some o->b≠D:=λb o e=>ne_of_none e hDn
  have e1n:(1:Int)*2^((n:Nat):Int).toNat=((2^n:Nat):Int):=by rw[Int.one_mul,Int.toNat_natCast];simp
  have ht4:=s4 _ _ ht
  have hS0:0<2^(n-ds.length):=Nat.pow_pos (by decide)
  have fin:∀(pl0:Int),(M≠[]->pl0=0)->(M=[]->((2^(n-ds.length):Nat):Int)<=pl0)->∀(D0:Ends) (tb:TS),
    (∀(i:Nat) (e:List Nat) (v10 v11 v12 v13 v14:Option V) (H5:Hp) (N:St->Hp->Prop),M[i]?=some e->Same H H5->H5 D=some (.lst (vT (M.take i))) ->
     (∀(H6:Hp) (z:Nat) (v10 v11 v12 v13 v14:Option V),Same H H6->H6 D=some (.lst (vT (M.take (i+1))))->(i+1<M.length->z=pl (i+1))->(i+1=M.length->2^(n-ds.length)<=z)->bsd n (T rows tp) ds s=M->N [some (V.ref t),some (V.str (txt ds)),some (V.int ((s:Nat):Int)),some (V.int ((rwo n ds:Nat):Int)),some (V.int ((clo n ds:Nat):Int)),some (V.int ((2^(n-ds.length):Nat):Int)),some (V.int (dn0 n ds s)),some (V.int (rg0 n ds s)),some (V.ref D),some (V.int ((z:Nat):Int)),v10,v11,v12,v13,v14] H6) ->
     tb { D0 with nx:=N,ct:=N,bk:=D0.nx } [some (V.ref t),some (V.str (txt ds)),some (V.int ((s:Nat):Int)),some (V.int ((rwo n ds:Nat):Int)),some (V.int ((clo n ds:Nat):Int)),some (V.int ((2^(n-ds.length):Nat):Int)),some (V.int (dn0 n ds s)),some (V.int (rg0 n ds s)),some (V.ref D),some (V.int ((pl i:Nat):Int)),v10,v11,v12,v13,v14] H5) ->
    (∀(H6:Hp) (v9 v10 v11 v12 v13 v14:Option V),Same H H6->H6 D=some (.lst (vT (bsd n (T rows tp) ds s)))->D0.nx [some (V.ref t),some (V.str (txt ds)),some (V.int ((s:Nat):Int)),some (V.int ((rwo n ds:Nat):Int)),some (V.int ((clo n ds:Nat):Int)),some (V.int ((2^(n-ds.length):Nat):Int)),some (V.int (dn0 n ds s)),some (V.int (rg0 n ds s)),some (V.ref D),v9,v10,v11,v12,v13,v14] H6) ->
    tWhile (tTest (tOp (rI0 λi j=>V.bl (decide (i<j))) (tVar 9) (tVar 5))) tb D0 [some (V.ref t),some (V.str (txt ds)),some (V.int ((s:Nat):Int)),some (V.int ((rwo n ds:Nat):Int)),some (V.int ((clo n ds:Nat):Int)),some (V.int ((2^(n-ds.length):Nat):Int)),some (V.int (dn0 n ds s)),some (V.int (rg0 n ds s)),some (V.ref D),some (V.int pl0),none,none,none,none,none] H4:=λpl0 h1 h2 D0 tb hb hd=>by
   refine⟨λm σ H5=>∃(i:Nat) (z:Nat) (pz:Int) (v10 v11 v12 v13 v14:Option V),m=M.length-i/\i<=M.length/\Same H H5/\H5 D=some (.lst (vT (M.take i)))/\(i<M.length->pz=(pl i:Nat))/\(i=M.length->((2^(n-ds.length):Nat):Int)<=pz)/\(i=M.length->bsd n (T rows tp) ds s=M)/\σ=[some (V.ref t),some (V.str (txt ds)),some (V.int ((s:Nat):Int)),some (V.int ((rwo n ds:Nat):Int)),some (V.int ((clo n ds:Nat):Int)),some (V.int ((2^(n-ds.length):Nat):Int)),some (V.int (dn0 n ds s)),some (V.int (rg0 n ds s)),some (V.ref D),some (V.int pz),v10,v11,v12,v13,v14],⟨_,0,0,pl0,none,none,none,none,none,rfl,Nat.zero_le _,s4,hD4,λh=>?_,λh=>?_,λh=>?_,rfl⟩,?_⟩
   ·rw[W.beg];exact h1 (λz=>by rw[z] at h;exact absurd h (Nat.lt_irrefl _))
   ·exact h2 (List.length_eq_zero_iff.mp h.symm)
   ·rw[W.nil (List.length_eq_zero_iff.mp h.symm),List.length_eq_zero_iff.mp h.symm]
   ·rintro m σ H5 ⟨i,z,pz,v10,v11,v12,v13,v14,rfl,hi,s5,hD5,g1,g2,g3,rfl⟩
    refine⟨_,rfl,_,rfl,_,_,rfl,rfl,_,rfl,?_⟩
    by_cases hlt:i<M.length
    ·obtain⟨e,he⟩:∃e,M[i]?=some e:=⟨_,List.getElem?_eq_getElem hlt⟩
     have hp:=(W.stp i e he).1
     rw[g1 hlt,decide_eq_true (show ((pl i:Nat):Int)<((2^(n-ds.length):Nat):Int) by lia)]
     refine iteT ⟨λσ' H'=>∃(z:Nat) (v10 v11 v12 v13 v14:Option V),Same H H'/\H' D=some (.lst (vT (M.take (i+1))))/\(i+1<M.length->z=pl (i+1))/\(i+1=M.length->2^(n-ds.length)<=z)/\bsd n (T rows tp) ds s=M/\σ'=[some (V.ref t),some (V.str (txt ds)),some (V.int ((s:Nat):Int)),some (V.int ((rwo n ds:Nat):Int)),some (V.int ((clo n ds:Nat):Int)),some (V.int ((2^(n-ds.length):Nat):Int)),some (V.int (dn0 n ds s)),some (V.int (rg0 n ds s)),some (V.ref D),some (V.int ((z:Nat):Int)),v10,v11,v12,v13,v14],?_,?_⟩
     ·rintro σ' H' ⟨z,w10,w11,w12,w13,w14,k1,k2,k3,k4,k5,rfl⟩
      exact⟨M.length-(i+1),by lia,i+1,0,(z:Int),w10,w11,w12,w13,w14,rfl,hlt,k1,k2,λh=>by rw[k3 h],λh=>by have:=k4 h;lia,λ_=>k5,rfl⟩
     ·exact hb i e v10 v11 v12 v13 v14 H5 _ he s5 hD5 λH6 z w10 w11 w12 w13 w14 k1 k2 k3 k4 k5=>⟨z,w10,w11,w12,w13,w14,k1,k2,k3,k4,k5,rfl⟩
    ·have hie:i=M.length:=by lia
     have:=g2 hie
     rw[decide_eq_false (show ¬pz<((2^(n-ds.length):Nat):Int) by lia)]
     refine iteF (hd H5 _ v10 v11 v12 v13 v14 s5 ?_)
     rw[hD5,g3 hie,hie,List.take_length]
  refine⟨_,rfl,_,rfl,_,_,rfl,_,_,rfl,rfl,_,rfl,?_⟩
  have last:∀(H6:Hp),Same H H6->H6 D=some (.lst (vT (bsd n (T rows tp) ds s)))->Q (.ref D) H6:=λH6 s6 h6=>q H6 D s6 hDn h6
  have hmn:∀a b:Int,((if b<a then b else a)<0<->a<0\/b<0):=λa b=>by split<;>lia
  have hmx:∀a b c:Int,(c<=(if b>a then b else a)<->c<=a\/c<=b):=λa b c=>by split<;>lia
  by_cases hM:M=[]
  ·have hno:¬inFl n (dn0 n ds s) (rg0 n ds s):=λz=>W.inf.mpr z hM
   refine ite2 (λhc=>iteT ⟨_,rfl,fin ((2^(n-ds.length):Nat):Int) (λh=>absurd hM h) (λ_=>Int.le_refl _) _ _ (λi e _ _ _ _ _ _ _ he=>by rw[hM] at he;simp at he) (λH6 _ _ _ _ _ _ s6 h6=>⟨_,rfl,last H6 s6 h6⟩)⟩) (λhc=>?_)
   refine⟨_,rfl,_,rfl,_,_,rfl,_,rfl,t,_,0,.int (n:Nat),rfl,rfl,SqT.of ht4,rfl,_,_,rfl,rfl,⟨by lia,by lia,by decide⟩,_,_,rfl,rfl,_,rfl,?_⟩
   rw[e1n]
   have h1:¬(dn0 n ds s<0\/rg0 n ds s<0):=λz=>hc (decide_eq_true ((hmn _ _).mpr z))
   have h2:((2^n:Nat):Int)<=dn0 n ds s\/((2^n:Nat):Int)<=rg0 n ds s:=by
    by_cases z:((2^n:Nat):Int)<=dn0 n ds s\/((2^n:Nat):Int)<=rg0 n ds s
    ·exact z
    ·refine absurd ?_ hno
     unfold inFl
     lia
   refine ite2 (λhc=>⟨_,rfl,fin ((2^(n-ds.length):Nat):Int) (λh=>absurd hM h) (λ_=>Int.le_refl _) _ _ (λi e _ _ _ _ _ _ _ he=>by rw[hM] at he;simp at he) (λH6 _ _ _ _ _ _ s6 h6=>⟨_,rfl,last H6 s6 h6⟩)⟩) (λhc=>absurd (decide_eq_true ((hmx _ _ _).mpr h2)) hc)
  ·obtain⟨⟨y1,y2⟩,y3,y4⟩:=W.inf.mp hM
   refine ite2 (λhc=>?_) (λhc=>?_)
   ·have:=(hmn _ _).mp (of_decide_eq_true hc)
    have h1:¬(dn0 n ds s<0\/rg0 n ds s<0):=by lia
    exact absurd this h1
   refine⟨_,rfl,_,rfl,_,_,rfl,_,rfl,t,_,0,.int (n:Nat),rfl,rfl,SqT.of ht4,rfl,_,_,rfl,rfl,⟨by lia,by lia,by decide⟩,_,_,rfl,rfl,_,rfl,?_⟩
   rw[e1n]
   refine ite2 (λhc=>?_) (λhc=>?_)
   ·have:=(hmx _ _ _).mp (of_decide_eq_true hc)
    have h1:¬(((2^n:Nat):Int)<=dn0 n ds s\/((2^n:Nat):Int)<=rg0 n ds s):=by lia
    exact absurd this h1
   refine fin 0 (λ_=>rfl) (λh=>absurd h hM) _ _ (λi e v10 v11 v12 v13 v14 H5 N he s5 hD5 hN=>?_) (λH6 _ _ _ _ _ _ s6 h6=>⟨_,rfl,last H6 s6 h6⟩)
   obtain⟨w1,⟨r,c,c1,c2,c3⟩,w3,w4,w5,w6,z,z1,z2,z3⟩:=W.stp i e he
   have sh5:ShapeAt H5 t n tp rows:=⟨hSh.1.mono s5.tups,hSh.2⟩
   have hm1:CMul ((pl i:Nat):Int) ((s:Int)%2):=.inr ⟨by lia,by lia⟩
   have hm2:CMul ((pl i:Nat):Int) (1-(s:Int)%2):=.inr ⟨by lia,by lia⟩
   refine⟨_,rfl,_,rfl,_,rfl,_,rfl,_,_,rfl,rfl,(by show (0:Int)<2;decide),_,_,rfl,rfl,hm1,_,_,rfl,rfl,_,rfl,_,rfl,_,rfl,_,_,rfl,rfl,(by show (0:Int)<2;decide),_,_,rfl,rfl,_,_,rfl,rfl,hm2,_,_,rfl,rfl,t,n,tp,r,c,rows,?_,sh5,hn,λH6 p6 y s6 hp6=>?_⟩
   ·rw[<- c1,<- c2];rfl
   rw[c3] at hp6
   refine⟨p6,_,rfl,SqT.of hp6,rfl,_,_,rfl,_,_,rfl,rfl,?_⟩
   refine⟨_,rfl,rfl,_,rfl,_,_,rfl,rfl,_,rfl,?_⟩
   have s56:=s5.trans s6
   rw[starts_txt]
   refine ite2 (λhc=>?_) (λhc=>?_)
   ·refine⟨(by show 0<=sizeLine;decide),λl hl6=>q _ l (s56.trans (sameU hl6)) ?_ ?_⟩
    ·cases e0:H l with
     |none=>rfl
     |some o=>rw[s56 _ _ e0] at hl6;cases hl6
    ·rw[upd_same,w5 (of_decide_eq_true hc)];rfl
   have hnp:¬e <+: ds:=λz=>hc (decide_eq_true z)
   have hD6:=s6 _ _ hD5
   have hlt:=(List.getElem?_eq_some_iff.mp he).1
   refine⟨_,rfl,.inl ⟨rfl,_,SqL.of hD6⟩,_,rfl,D,_,_,rfl,rfl,hD6,?_,?_⟩
   ·unfold vT
    rw[List.length_map,List.length_take]
    have:=W.few
    exact smallM (by lia)
   have s7:Same H (upd H6 D (.lst (vT (M.take i)++[.str (txt e)]))):=λb o x=>by rw[upd_ne (nD b o x)];exact s56 _ _ x
   have hD7:upd H6 D (.lst (vT (M.take i)++[.str (txt e)])) D=some (.lst (vT (M.take (i+1)))):=by
    rw[upd_same,List.take_succ,he]
    unfold vT
    rw[List.map_append]
    rfl
   generalize upd H6 D (.lst (vT (M.take i)++[.str (txt e)]))=H7 at s7 hD7 ⊢
   refine⟨_,rfl,t,_,0,.int (n:Nat),rfl,rfl,SqT.of (s7 _ _ ht),rfl,_,rfl,n,e,rfl,hn,w3,w4,λp8 hp8=>?_⟩
   refine⟨p8,_,rfl,SqT.of upd_same,rfl,_,_,rfl,_,_,rfl,_,_,rfl,rfl,?_⟩
   have s8:=s7.trans (sameU (o:=.tup (vN [rwo n e,clo n e,2^(n-e.length)])) hp8)
   have hD8:=keepU (u:=.tup (vN [rwo n e,clo n e,2^(n-e.length)])) hD7 hp8
   generalize upd H7 p8 (.tup (vN [rwo n e,clo n e,2^(n-e.length)]))=H8 at s8 hD8 ⊢
   refine at_st (σ':=[some (V.ref t),some (V.str (txt ds)),some (V.int ((s:Nat):Int)),some (V.int ((rwo n ds:Nat):Int)),some (V.int ((clo n ds:Nat):Int)),some (V.int ((2^(n-ds.length):Nat):Int)),some (V.int (dn0 n ds s)),some (V.int (rg0 n ds s)),some (V.ref D),some (V.int ((pl i:Nat):Int)),some (V.str (txt e)),some (V.int ((y:Nat):Int)),some (V.int ((rwo n e:Nat):Int)),some (V.int ((clo n e:Nat):Int)),some (V.int ((2^(n-e.length):Nat):Int))]) rfl ?_
   refine⟨_,rfl,_,rfl,_,_,rfl,rfl,_,rfl,_,_,rfl,rfl,_,rfl,_,rfl,_,_,rfl,rfl,_,rfl,_,_,rfl,rfl,(by show 2<=sizeLine;decide),λl9 hl9=>?_⟩
   have hat:atI [V.int (((clo n e:Nat):Int)+((2^(n-e.length):Nat):Int)-((clo n ds:Nat):Int)),V.int (((rwo n e:Nat):Int)+((2^(n-e.length):Nat):Int)-((rwo n ds:Nat):Int))] ((s:Int)%2)=some (.int ((z:Nat):Int)):=by
    rw[<- z1]
    unfold vbe
    by_cases hev:s%2=0
    ·rw[if_pos hev,show (s:Int)%2=0 by lia];rfl
    ·rw[if_neg hev,show (s:Int)%2=1 by lia];rfl
   refine⟨_,rfl,_,_,rfl,rfl,(by show (0:Int)<2;decide),l9,_,(s:Int)%2,.int ((z:Nat):Int),rfl,rfl,SqL.of upd_same,hat,?_⟩
   exact hN _ z _ _ _ _ _ (s8.trans (sameU hl9)) (keepU hD8 hl9) z2 z3 (w6 hnp)
end
end Pr
namespace Qf
open Tr
theorem nlf_nds:∀t:Tr,nlf t=3*nds t+1
 |.z=>rfl
 |.o=>rfl
 |.nd a b c d=>by
  show nlf a+nlf b+nlf c+nlf d=3*(1+nds a+nds b+nds c+nds d)+1
  rw[nlf_nds a,nlf_nds b,nlf_nds c,nlf_nds d]
  lia
end Qf
namespace Pr
open PySem L2 Qf
theorem bsd_lt {n s:Nat}{t:Tr}{ds:List Nat}(ht:Tr.dep t<=n) (hs:s<4):∀e∈bsd n t ds s,∀d∈e,d<4:=λe he d hd=>by
 unfold bsd at he
 split at he
 ·split at he
  ·cases he
  ·obtain⟨e',he',rfl⟩:=List.mem_map.mp he
   have hna:∀d∈nxa n ds s,d<4:=dgp_lt _ _ _ _
   rcases List.mem_append.mp hd with h|h
   ·exact hna d ((wdn_pre _ _).subset h)
   ·have A:=lvs_alg (sa s) (sb s) n (wdn t (nxa n ds s)).1 (dep_wdn _ _ _ hna ht) (sab_lt hs).1 (sab_lt hs).2
    rcases A.figs e' he' d h with rfl|rfl
    ·exact (sab_lt hs).1
    ·exact (sab_lt hs).2
 ·cases he
def dTx (L:List (List Nat)):List PyData:=L.map λe=>PyData.str (txt e)
theorem datas_tx {H:Hp}:∀L:List (List Nat),DatasAt H (vT L) (dTx L)
 |[]=>.nil
 |e::L=>.cons (.str _) (datas_tx L)
theorem tx_lay:∀L:List (List Nat),(∀e∈L,∀d∈e,d<4)->PyData.canLayAll0 (dTx L)=true
 |[],_=>rfl
 |e::L,h=>by
  show (PyData.canLay0 (.str (txt e))&&PyData.canLayAll0 (dTx L))=true
  rw[tx_lay L (λx hx=>h x (List.mem_cons_of_mem _ hx)),Bool.and_true]
  have he:=h e (by simp)
  show PyData.strOk (txt e)=true
  unfold PyData.strOk
  simp only[txt,List.all_toArray,List.all_map,List.all_eq_true]
  intro d hd
  have:=he d hd
  match d,this with
  |0,_|1,_|2,_|3,_=>decide +kernel
theorem tx_depth:∀L:List (List Nat),PyData.depthAll (dTx L)=0
 |[]=>rfl
 |e::L=>by
  show max (PyData.depth (.str (txt e))) (PyData.depthAll (dTx L))=0
  rw[tx_depth L]
  rfl
section
variable {P:Program}{w:World}{K:PySem.W.Frag}{mg:Str->Option Value}{base:Heap}
abbrev nLaw:List Str:=["_law_script", "_law_k", "_law_pot_here", "_law_n", "_law_boxes_here", "_law_told", "_law_turn", "_law_address_here", "_law_side", "_law_due_here", "_law_some"]
theorem scLaw:FnScope nLaw ["_law_script"] (defScope lLaw):=⟨rfl,rfl,rfl,by decide +kernel,rfl,by decide +kernel,by decide +kernel⟩
def spLaw (K:PySem.W.Frag):Sp:=λvs H Q _=>∃(a:Addr) (ns:List Int),vs=[.ref a]/\SqL K H a (ns.map V.int)/\ns.length<=63/\∀H',Q (.bl true) H'
theorem ok_law {f fP fD fX fT fA fU fB:Addr}{fd fdP fdD fdX fdT fdA fdU fdB:FuncData}(F:Fun K "law" "law" lLaw f fd) (B:Blt mg) (C:Blt2 mg)
  (hP:mg "_law_pot" = some (.ref fP)) (FP:Fun K "_law_pot" "_law_pot" lPot fP fdP) (bP:Binds K fdP ["_law_script", "_law_k"] [])
  (hD:mg "_law_digit" = some (.ref fD)) (FD:Fun K "_law_digit" "_law_digit" lDigit fD fdD) (bD:Binds K fdD ["_law_pot_here", "_law_many"] [])
  (hX:mg "_law_boxes" = some (.ref fX)) (FX:Fun K "_law_boxes" "_law_boxes" lBoxes fX fdX) (bX:Binds K fdX ["_law_pot_here", "_law_n"] []) (GX:FnOk P w K mg base CX0 3 fX fdX ["_law_pot_here", "_law_n"] spBoxes)
  (hT:mg "_law_shape" = some (.ref fT)) (FT:Fun K "_law_shape" "_law_shape" lShape fT fdT) (bT:Binds K fdT ["_law_n", "_law_boxes_here"] []) (GT:FnOk P w K mg base CX0 15 fT fdT ["_law_n", "_law_boxes_here"] spBSh)
  (hA:mg "_law_address" = some (.ref fA)) (FA:Fun K "_law_address" "_law_address" lAddress fA fdA) (bA:Binds K fdA nNr3 []) (GA:FnOk P w K mg base CX0 3 fA fdA nNr3 spAd)
  (hU:mg "_law_due" = some (.ref fU)) (FU:Fun K "_law_due" "_law_due" lDue fU fdU) (bU:Binds K fdU nDu3 []) (GU:FnOk P w K mg base CX0 2 fU fdU nDu3 spLB)
  (hB:mg "beside" = some (.ref fB)) (FB:Fun K "beside" "beside" sBesideP fB fdB) (bB:Binds K fdB ["shape", "address", "side"] []) (GB:FnOk P w K mg base CX0 17 fB fdB ["shape", "address", "side"] spBs) :
  FnOk P w K mg base CX0 18 f fd ["_law_script"] (spLaw K):=by
 have GP:FnOk P w K mg base CX0 1 fP fdP ["_law_script", "_law_k"] (spPot K):=ok_pot FP B C
 have GD:FnOk P w K mg base CX0 1 fD fdD ["_law_pot_here", "_law_many"] spDigit:=ok_digit FD
 refine F.ok scLaw (λvs H Q E h=>?_) (λcdv A outer s H vs Q E hr h=>?_)
 ·obtain⟨a,ns,rfl,_⟩:=h
  rfl
 ·obtain⟨a,ns,rfl,hSq,hlen,q⟩:=h
  have hr1:Room 1 _:=hr.mono (by decide)
  have hr2:Room 2 _:=hr.mono (by decide)
  have hr3:Room 3 _:=hr.mono (by decide)
  have hr15:Room 15 _:=hr.mono (by decide)
  refine seqE ⟨_,⟨ps_for PassesOwn.never rfl (pi_range1 (by rfl) B.range (pa_cons (pe_callB (call_max2 rfl) (by rfl) B.max PyProof.Rows.boot_max (pa_cons pe_int (pa_cons (pe_callB (call_min2 rfl) (by rfl) B.min PyProof.Rows.boot_min (pa_cons (pe_callB call_len_seq (by rfl) B.len PySem.boot_len (pa_cons (pv 0) pa_nil)) (pa_cons pe_int pa_nil))) pa_nil))) pa_nil)) (pg_name (i:=1) scLaw.nd rfl (by first|exact Or.inl rfl|exact Or.inr rfl))
    (StB.go (.cons ⟨ps_set (i:=2) scLaw.nd rfl (by first|exact Or.inl rfl|exact Or.inr rfl) (pe_call GP hr1 (by rfl) hP FP.kp bP .nil pass0 (pa_cons (pv 0) (pa_cons (pv 1) pa_nil)))⟩
    (.cons ⟨ps_set (i:=3) scLaw.nd rfl (by first|exact Or.inl rfl|exact Or.inr rfl) (pe_call GD hr1 (by rfl) hD FD.kp bD .nil pass0 (pa_cons (pv 2) (pa_cons pe_int pa_nil)))⟩
    (.cons ⟨ps_set (i:=4) scLaw.nd rfl (by first|exact Or.inl rfl|exact Or.inr rfl) (pe_call GX hr3 (by rfl) hX FX.kp bX .nil pass0 (pa_cons (pv 2) (pa_cons (pv 3) pa_nil)))⟩
    (.cons ⟨ps_set (i:=5) scLaw.nd rfl (by first|exact Or.inl rfl|exact Or.inr rfl) (pe_call GT hr15 (by rfl) hT FT.kp bT .nil pass0 (pa_cons (pv 3) (pa_cons (pv 4) pa_nil)))⟩
    (.one ⟨ps_for PassesOwn.never rfl (pi_range1 (by rfl) B.range (pa_cons pe_int pa_nil)) (pg_name (i:=6) scLaw.nd rfl (by first|exact Or.inl rfl|exact Or.inr rfl))
     (StB.go (.cons ⟨ps_set (i:=7) scLaw.nd rfl (by first|exact Or.inl rfl|exact Or.inr rfl) (pe_call GA hr3 (by rfl) hA FA.kp bA .nil pass0 (pa_cons (pv 2) (pa_cons (pv 4) (pa_cons (pv 3) pa_nil))))⟩
     (.cons ⟨ps_set (i:=8) scLaw.nd rfl (by first|exact Or.inl rfl|exact Or.inr rfl) (pe_call GD hr1 (by rfl) hD FD.kp bD .nil pass0 (pa_cons (pv 2) (pa_cons pe_int pa_nil)))⟩
     (.cons ⟨ps_set (i:=9) scLaw.nd rfl (by first|exact Or.inl rfl|exact Or.inr rfl) (pe_call GU hr2 (by rfl) hU FU.kp bU .nil pass0 (pa_cons (pv 5) (pa_cons (pv 7) (pa_cons (pv 8) pa_nil))))⟩
     (.cons ⟨ps_set (i:=10) scLaw.nd rfl (by first|exact Or.inl rfl|exact Or.inr rfl) (pe_call GB hr (by rfl) hB FB.kp bB .nil pass0 (pa_cons (pv 5) (pa_cons (pv 7) (pa_cons (pv 8) pa_nil))))⟩
     (.cons ⟨ps_if (PW.pt (pw_or (pt_not (pt_val (pe_callB call_isi (by rfl) B.isi PyProof.Rows.boot_isinstance (pa_cons (pv 10) (pa_cons (pe_bltn (v:=.ty "list") (by rfl) B.list PyProof.Rows.boot_list rfl) pa_nil))))) (pw_or1 (pt_cmpR (op_neD hr) (pv 10) (pv 9) (nomark _))))) (pss_one (ps_ret pe_bl)) pss_nil⟩
     (.cons ⟨ps_expr (pe_bm PySem.F.plainAttrs_list PySem.F.slot_list_append PySem.F.type_list_append mt_append (pv 10) (pa_cons pe_str pa_nil))⟩
     (.one ⟨ps_if (pt_cmpR (op_neD hr) (PEb.go ⟨pe_call GB hr (by rfl) hB FB.kp bB .nil pass0 (pa_cons (pv 5) (pa_cons (pv 7) (pa_cons (pv 8) pa_nil)))⟩) (pv 9) (nomark _)) (pss_one (ps_ret pe_bl)) pss_nil⟩))))))))⟩))))))⟩,?_⟩
  refine lastE ⟨_,⟨ps_ret pe_bl⟩,?_⟩
  refine⟨_,rfl,a,_,rfl,.inl hSq,_,_,rfl,_,_,rfl,_,rfl,?_,?_,for_range (λi σ H2=>(i:Int)<=5/\Same H H2/\∃v1 v2 v3 v4 v5 v6 v7 v8 v9 v10,σ=[some (.ref a),v1,v2,v3,v4,v5,v6,v7,v8,v9,v10]) ⟨by decide,Same.refl _,none,none,none,none,none,none,none,none,none,none,rfl⟩ ?_ ?_⟩
  ·split<;>(try split)<;>lia
  ·split<;>(try split)<;>lia
  ·rintro i σ H2 hi ⟨i1,s2,v1,v2,v3,v4,v5,v6,v7,v8,v9,v10,rfl⟩
   have hi':(i:Int)<5:=by
    revert hi
    split<;>(try split)<;>lia
   refine⟨_,rfl,_,rfl,a,_,ns,rfl,s2.seq hSq,hlen,by lia,by lia,λH3 p s3 hpn hp3=>?_⟩
   refine⟨_,rfl,p,13,rfl,hp3,by decide,by decide,λn H4 hn b4 hp4=>?_⟩
   refine⟨_,rfl,_,rfl,p,n,rfl,hp4,by lia,λH5 l boxes b5 hp5 hl hRb hBx=>?_⟩
   have hlp:l≠p:=λz=>by
    obtain⟨x,y,h1,_⟩:=hp4
    rw[z,h1] at hl;cases hl
   have hbl:boxes.length<=900:=by rcases hBx.2 with ⟨_,h⟩|⟨h,_⟩<;>lia
   refine⟨_,rfl,_,rfl,l,n,boxes,rfl,hRb,hBx,by lia,λH6 t s6 sh6=>?_⟩
   have hfew:=boxes_few (by lia) hBx
   have eT:T (bRows n boxes) (bTop n boxes)=bt n boxes 0 0:=b_T
   have hnl:nlf (T (bRows n boxes) (bTop n boxes))<=2000:=by rw[eT,nlf_nds];lia
   generalize bTop n boxes=tp,bRows n boxes=rows at sh6 eT hnl
   have hp6:=hp5.same s6
   have hR6:=hRb.same s6
   have B6:But p H2 H6:=λb o e nb=>s6 _ _ (b5 _ _ (b4 _ _ (s3 _ _ e) nb) nb)
   have hdep:=canon_dep sh6.2.1
   refine⟨10,rfl,by decide,by decide,for_range (lo:=0) (n:=10) (λj σ H7=>But p H6 H7/\PurseAt H7 p/\∃v6 v7 v8 v9 v10,σ=[some (.ref a),some (.int (0+(i:Int))),some (.ref p),some (.int (n:Nat)),some (.ref l),some (.ref t),v6,v7,v8,v9,v10]) ⟨But.refl _ _,hp6,v6,v7,v8,v9,v10,rfl⟩ ?_ ?_⟩
   ·rintro j σ H7 hj ⟨b7,hp7,w6,w7,w8,w9,w10,rfl⟩
    have tups:∀{Ha Hb:Hp},PurseAt Ha p->But p Ha Hb->Tups Ha Hb:=λ{Ha Hb} h b=>by
     obtain⟨x,y,h1,_⟩:=h
     exact b.tups h1 (λu z=>by cases z)
    have hR7:RowsL H7 l boxes:=by
     obtain⟨x,y,h1,_⟩:=hp6
     exact hR6.but b7 hlp h1 (λu z=>by cases z)
    refine⟨_,rfl,_,rfl,_,rfl,p,l,n,boxes,rfl,hp7,hR7,hlp,hBx.1,hbl,by lia,λH8 ds b8 hp8 hds hdl=>?_⟩
    refine⟨_,rfl,p,4,rfl,hp8,by decide,by decide,λsd H9 hsd b9 hp9=>?_⟩
    have b69:But p H6 H9:=(b7.trans b8).trans b9
    have sh9:ShapeAt H9 t n tp rows:=⟨sh6.1.mono (tups hp6 b69),sh6.2⟩
    refine⟨_,rfl,_,rfl,_,rfl,t,n,tp,sd,ds,rows,rfl,sh9,by lia,hds,hdl,hsd,λHa D sa' hDn hDa=>?_⟩
    have sha:ShapeAt Ha t n tp rows:=⟨sh9.1.mono sa'.tups,sh6.2⟩
    refine⟨_,rfl,_,rfl,_,rfl,t,n,tp,sd,ds,rows,rfl,sha,by lia,hds,hdl,hsd,hnl,λHb lb sb' hlb hlb2=>?_⟩
    have hDb:=sb' _ _ hDa
    have hlay:=tx_lay _ (bsd_lt (ds:=ds) hdep hsd)
    have hdt:∀L,(PyData.list (dTx L)).depth<=60:=λL=>by show PyData.depthAll (dTx L)+1<=60;rw[tx_depth];decide
    have hrf:PyData.eqv (.list (dTx (bsd n (T rows tp) ds sd))) (.list (dTx (bsd n (T rows tp) ds sd)))=true:=PySem.SeqAt.eqv_refl _ hlay
    refine⟨_,rfl,_,_,_,_,true,rfl,rfl,.inl (.lst hlb2),rfl,_,rfl,iteF ?_⟩
    refine⟨_,rfl,_,rfl,_,_,.lst hlb2 (datas_tx _),.lst hDb (datas_tx _),hlay,hlay,hdt _,_,rfl,?_⟩
    rw[hrf]
    refine iteF ?_
    have hne:D≠lb:=λz=>by rw[<- z,hDa] at hlb;cases hlb
    refine⟨_,rfl,.inl ⟨rfl,_,SqL.of hlb2⟩,lb,_,_,rfl,rfl,hlb2,?_,?_⟩
    ·unfold vT
     rw[List.length_map]
     obtain⟨M,pl,W⟩:=walk_ex (t:=T rows tp) (by lia) hdep hds hdl hsd
     have:=W.few
     have hM:bsd n (T rows tp) ds sd=M\/bsd n (T rows tp) ds sd=[]:=by
      by_cases hm:M=[]
      ·exact .inr (W.nil hm)
      ·obtain⟨e,he⟩:∃e,M[0]?=some e:=⟨_,List.getElem?_eq_getElem (List.length_pos_iff.mpr hm)⟩
       obtain⟨_,_,_,_,g5,g6,_⟩:=W.stp 0 e he
       by_cases hp:e <+: ds
       ·exact .inr (g5 hp)
       ·exact .inl (g6 hp)
     rcases hM with h|h
     ·rw[h];exact smallM (by lia)
     ·rw[h];exact smallM (by simp)
    have sc:Same Ha (upd Hb lb (.lst (vT (bsd n (T rows tp) ds sd)++[.str "0"]))):=λb o e=>by rw[upd_ne (ne_of_none e hlb)];exact sb' _ _ e
    generalize upd Hb lb (.lst (vT (bsd n (T rows tp) ds sd)++[.str "0"]))=Hc at sc ⊢
    have shc:ShapeAt Hc t n tp rows:=⟨sha.1.mono sc.tups,sh6.2⟩
    refine⟨_,rfl,_,rfl,_,rfl,t,n,tp,sd,ds,rows,rfl,shc,by lia,hds,hdl,hsd,hnl,λHd ld sd' hld hld2=>?_⟩
    have hDd:=sd' _ _ (sc _ _ hDa)
    refine⟨_,rfl,_,_,.lst hld2 (datas_tx _),.lst hDd (datas_tx _),hlay,hlay,hdt _,_,rfl,?_⟩
    rw[hrf]
    refine iteF ?_
    have s9d:Same H9 Hd:=(sa'.trans sc).trans sd'
    exact⟨b69.trans (But.of s9d),hp9.same s9d,_,_,_,_,_,rfl⟩
   ·rintro σ H7 ⟨b7,hp7,w6,w7,w8,w9,w10,rfl⟩
    refine⟨by lia,λb o e=>?_,_,_,_,_,_,_,_,_,_,_,rfl⟩
    have e2:=s2 b o e
    have nb:b≠p:=ne_of_none e2 hpn
    exact b7 _ _ (B6 _ _ e2 nb) nb
  ·rintro σ H2 ⟨_,s2,v1,v2,v3,v4,v5,v6,v7,v8,v9,v10,rfl⟩
   exact q H2
end
end Pr
namespace Pr
open PySem L2 Qf
def DefIn (K:PySem.W.Frag) (x:Str) (st:Stmt):Prop:=∃(f:Addr) (fd:FuncData),PySem.W.nsIn K mainGlobals x=some (some (.ref f))/\Fun K x x st f fd
theorem d_mk {K:PySem.W.Frag}{x:Str}{st:Stmt}{f:Addr}{od an:Option Addr}{sl:Array (Option Value)}{oc kV dc pm cd ct:Value}(a:PySem.W.nsIn K mainGlobals x=some (some (.ref f)))
  (l:K.lookup f=some ⟨oc,od,.func (PySem.W.fnOf x x (defArgs st) (defBody st) (defScope st) .none kV dc pm an cd ct),sl⟩) (c:PySem.W.codeIn K cd x=true) (k:PySem.W.keepIn K (.ref f)=true):DefIn K x st:=⟨f,_,a,fun_mk l c k⟩
def NoName (K:PySem.W.Frag) (x:Str):Prop:=PySem.W.nsIn K mainGlobals x=some none
theorem kt4 {K:PySem.W.Frag}{a:Addr}{od:Option Addr}{sl:Array (Option Value)}{n a0 a1 a2 a3:Nat}(l:K.lookup a=some ⟨.type "tuple",od,.seq #[.ref a0,.ref a1,.ref a2,.ref a3] n,sl⟩):KTup K a [.ref a0,.ref a1,.ref a2,.ref a3]:=
 ⟨_,_,_,l,rfl,rfl,(by show 4<=sizeLine;decide),.cons rfl (.cons rfl (.cons rfl (.cons rfl .nil)))⟩
theorem kt3 {K:PySem.W.Frag}{a:Addr}{od:Option Addr}{sl:Array (Option Value)}{t0 t1:Tok}{n a2:Nat}{x y:Int}(l:K.lookup a=some ⟨.type "tuple",od,.seq #[.int x t0,.int y t1,.ref a2] n,sl⟩):KTup K a [.int x,.int y,.ref a2]:=
 ⟨_,_,_,l,rfl,rfl,(by show 3<=sizeLine;decide),.cons ⟨_,rfl⟩ (.cons ⟨_,rfl⟩ (.cons rfl .nil))⟩
theorem kt2 {K:PySem.W.Frag}{a:Addr}{od:Option Addr}{sl:Array (Option Value)}{t0 t1:Tok}{n a0 a1:Nat}(l:K.lookup a=some ⟨.type "tuple",od,.seq #[.int (a0:Nat) t0,.int (a1:Nat) t1] n,sl⟩):KTup K a (vN [a0,a1]):=
 ⟨_,_,_,l,rfl,rfl,(by show 2<=sizeLine;decide),.cons ⟨_,rfl⟩ (.cons ⟨_,rfl⟩ .nil)⟩
theorem four_all {p:Nat->Prop}(h0:p 0) (h1:p 1) (h2:p 2) (h3:p 3):∀s,s<4->p s
 |0,_=>h0
 |1,_=>h1
 |2,_=>h2
 |3,_=>h3
theorem all_mk {l:PySem.W.OpenLaw}{w:World}{K:PySem.W.Frag}{h:Heap}{mg:Str->Option Value}{fa fL S D0 D1 D2 D3 A0 A1 A2 A3:Addr}(X:K.In h) (G:h.Ns mainGlobals mg) (hfa:mg "law" = some (.ref fa)){odL anL:Option Addr}{slL:Array (Option Value)}{ocL kVL dcL pmL cdL ctL:Value}{t0 t1 t2:Tok}
  (aL:PySem.W.nsIn K mainGlobals "law" = some (some (.ref fL))) (lL:K.lookup fL=some ⟨ocL,odL,.func (PySem.W.fnOf "law" "law" (defArgs lLaw) (defBody lLaw) (defScope lLaw) .none kVL dcL pmL anL cdL ctL),slL⟩) (cL:PySem.W.codeIn K cdL "law" = true) (kL:PySem.W.keepIn K (.ref fL)=true)
  (g0:PySem.W.nsIn K mainGlobals "FIRST" = some (some (.int 2 t0))) (g1:PySem.W.nsIn K mainGlobals "GREATEST_SIZE" = some (some (.int 12 t1))) (g2:PySem.W.nsIn K mainGlobals "MOST_LEAVES" = some (some (.int 2000 t2)))
  (d0:DefIn K "is_whole" sWhole) (d1:DefIn K "is_plain" sPlain) (d2:DefIn K "depths_of" sDeps) (d3:DefIn K "end_rows" sEnd) (d4:DefIn K "places_as_ended" sPlaces) (d5:DefIn K "is_size" sSize) (d6:DefIn K "is_number" sNumber) (d7:DefIn K "is_row" sRow) (d8:DefIn K "are_rows" sRows) (d9:DefIn K "is_telling" sTelling) (d10:DefIn K "is_shape" sShape) (d11:DefIn K "want_shape" sWantS) (d12:DefIn K "is_address" sAddr) (d13:DefIn K "is_cell" sCell) (d14:DefIn K "want_address" sWantA) (d15:DefIn K "side_of" sSide) (d16:DefIn K "quarter_of" sQuart) (d17:DefIn K "box_at" sBoxAt) (d18:DefIn K "address_at" sAddrAt) (d19:DefIn K "count_leaves" sCountL) (d20:DefIn K "want_leaves" sWantL) (d21:DefIn K "want_coarse" sCoarse) (d22:DefIn K "want_side" sWantSd) (d23:DefIn K "way_down" sWayD) (d24:DefIn K "gather_along" sAlong) (d25:DefIn K "leaves_beside" sLvsB) (d26:DefIn K "beside" sBesideP) (d27:DefIn K "_law_pot" lPot) (d28:DefIn K "_law_digit" lDigit) (d29:DefIn K "_law_cells" lCells) (d30:DefIn K "_law_box" lBox) (d31:DefIn K "_law_boxes" lBoxes) (d32:DefIn K "_law_meets" lMeets) (d33:DefIn K "_law_has" lHas) (d34:DefIn K "_law_number" lNumber) (d35:DefIn K "_law_shape" lShape) (d36:DefIn K "_law_leaf" lLeaf) (d37:DefIn K "_law_square" lSquare) (d38:DefIn K "_law_near_box" lNear) (d39:DefIn K "_law_address" lAddress) (d40:DefIn K "_law_due" lDue)
  (z0:NoName K "isinstance") (z1:NoName K "int") (z2:NoName K "bool") (z3:NoName K "tuple") (z4:NoName K "list") (z5:NoName K "set") (z6:NoName K "len") (z7:NoName K "all") (z8:NoName K "any") (z9:NoName K "enumerate") (z10:NoName K "range") (z11:NoName K "max") (z12:NoName K "min") (z13:NoName K "abs") (z14:NoName K "repr") (z15:NoName K "str") (z16:NoName K "sum")
  (sn:PySem.W.nsIn K mainGlobals "SIDES" = some (some (.ref S)))
  (sk:KTup K S [.ref D0,.ref D1,.ref D2,.ref D3])
  (dk0:KTup K D0 [.int (-1),.int (0),.ref A0])
  (dk1:KTup K D1 [.int (0),.int (1),.ref A1])
  (dk2:KTup K D2 [.int (1),.int (0),.ref A2])
  (dk3:KTup K D3 [.int (0),.int (-1),.ref A3])
  (ak0:KTup K A0 (vN [2,3]))
  (ak1:KTup K A1 (vN [0,2]))
  (ak2:KTup K A2 (vN [0,1]))
  (ak3:KTup K A3 (vN [1,3])) :
  ∃fd:FuncData,(∀(s:Shared) (v:Value),BindsTo s fd ⟨[v],[]⟩ [("_law_script",v)])/\∀base:Heap,K.In base->base.Ns mainGlobals mg->FnOk l.prog w K mg base CX0 18 fa fd ["_law_script"] (spLaw K):=by
 have e:=hfa.symm.trans (PySem.W.mg_of X G aL)
 cases e
 have nn:∀{x:Str},NoName K x->mg x=none:=λz=>PySem.W.mg_none_of X G z
 have B:Blt mg:=⟨nn z0,nn z1,nn z2,nn z3,nn z4,nn z5,nn z6,nn z7,nn z8,nn z9,nn z10,nn z11,nn z12⟩
 have C:Blt2 mg:=⟨nn z13,nn z14,nn z15⟩
 have T:Cst mg:=⟨⟨t0,PySem.W.mg_of X G g0⟩,⟨t1,PySem.W.mg_of X G g1⟩⟩
 have FL:=fun_mk (st:=lLaw) lL cL kL
 obtain⟨f0,fd0,a0,F0⟩:=d0
 have h0:=PySem.W.mg_of X G a0
 have b0:=F0.binds (ps:=["thing"]) λ_ _ _ _ _ _ us hl=>match us,hl with|[_],_=>rfl
 obtain⟨f1,fd1,a1,F1⟩:=d1
 have h1:=PySem.W.mg_of X G a1
 have b1:=F1.binds (ps:=["row"]) λ_ _ _ _ _ _ us hl=>match us,hl with|[_],_=>rfl
 obtain⟨f2,fd2,a2,F2⟩:=d2
 have h2:=PySem.W.mg_of X G a2
 have b2:=F2.binds (ps:=["rows"]) λ_ _ _ _ _ _ us hl=>match us,hl with|[_],_=>rfl
 obtain⟨f3,fd3,a3,F3⟩:=d3
 have h3:=PySem.W.mg_of X G a3
 have b3:=F3.binds (ps:=["rows", "number", "ended"]) λ_ _ _ _ _ _ us hl=>match us,hl with|[_,_,_],_=>rfl
 obtain⟨f4,fd4,a4,F4⟩:=d4
 have h4:=PySem.W.mg_of X G a4
 have b4:=F4.binds (ps:=["rows", "top"]) λ_ _ _ _ _ _ us hl=>match us,hl with|[_,_],_=>rfl
 obtain⟨f5,fd5,a5,F5⟩:=d5
 have h5:=PySem.W.mg_of X G a5
 have b5:=F5.binds (ps:=["thing"]) λ_ _ _ _ _ _ us hl=>match us,hl with|[_],_=>rfl
 obtain⟨f6,fd6,a6,F6⟩:=d6
 have h6:=PySem.W.mg_of X G a6
 have b6:=F6.binds (ps:=["thing", "many"]) λ_ _ _ _ _ _ us hl=>match us,hl with|[_,_],_=>rfl
 obtain⟨f7,fd7,a7,F7⟩:=d7
 have h7:=PySem.W.mg_of X G a7
 have b7:=F7.binds (ps:=["thing", "before"]) λ_ _ _ _ _ _ us hl=>match us,hl with|[_,_],_=>rfl
 obtain⟨f8,fd8,a8,F8⟩:=d8
 have h8:=PySem.W.mg_of X G a8
 have b8:=F8.binds (ps:=["thing"]) λ_ _ _ _ _ _ us hl=>match us,hl with|[_],_=>rfl
 obtain⟨f9,fd9,a9,F9⟩:=d9
 have h9:=PySem.W.mg_of X G a9
 have b9:=F9.binds (ps:=["thing"]) λ_ _ _ _ _ _ us hl=>match us,hl with|[_],_=>rfl
 obtain⟨f10,fd10,a10,F10⟩:=d10
 have h10:=PySem.W.mg_of X G a10
 have b10:=F10.binds (ps:=["thing"]) λ_ _ _ _ _ _ us hl=>match us,hl with|[_],_=>rfl
 obtain⟨f11,fd11,a11,F11⟩:=d11
 have h11:=PySem.W.mg_of X G a11
 have b11:=F11.binds (ps:=["shape"]) λ_ _ _ _ _ _ us hl=>match us,hl with|[_],_=>rfl
 obtain⟨f12,fd12,a12,F12⟩:=d12
 have h12:=PySem.W.mg_of X G a12
 have b12:=F12.binds (ps:=["n", "thing"]) λ_ _ _ _ _ _ us hl=>match us,hl with|[_,_],_=>rfl
 obtain⟨f13,fd13,a13,F13⟩:=d13
 have h13:=PySem.W.mg_of X G a13
 have b13:=F13.binds (ps:=["n", "row", "column"]) λ_ _ _ _ _ _ us hl=>match us,hl with|[_,_,_],_=>rfl
 obtain⟨f14,fd14,a14,F14⟩:=d14
 have h14:=PySem.W.mg_of X G a14
 have b14:=F14.binds (ps:=["n", "address"]) λ_ _ _ _ _ _ us hl=>match us,hl with|[_,_],_=>rfl
 obtain⟨f15,fd15,a15,F15⟩:=d15
 have h15:=PySem.W.mg_of X G a15
 have b15:=F15.binds (ps:=["n"]) λ_ _ _ _ _ _ us hl=>match us,hl with|[_],_=>rfl
 obtain⟨f16,fd16,a16,F16⟩:=d16
 have h16:=PySem.W.mg_of X G a16
 have b16:=F16.binds (ps:=["row", "column", "k"]) λ_ _ _ _ _ _ us hl=>match us,hl with|[_,_,_],_=>rfl
 obtain⟨f17,fd17,a17,F17⟩:=d17
 have h17:=PySem.W.mg_of X G a17
 have b17:=F17.binds (ps:=["n", "address"]) λ_ _ _ _ _ _ us hl=>match us,hl with|[_,_],_=>rfl
 obtain⟨f18,fd18,a18,F18⟩:=d18
 have h18:=PySem.W.mg_of X G a18
 have b18:=F18.binds (ps:=["n", "row", "column", "size"]) λ_ _ _ _ _ _ us hl=>match us,hl with|[_,_,_,_],_=>rfl
 obtain⟨f19,fd19,a19,F19⟩:=d19
 have h19:=PySem.W.mg_of X G a19
 have b19:=F19.binds (ps:=["top", "rows"]) λ_ _ _ _ _ _ us hl=>match us,hl with|[_,_],_=>rfl
 obtain⟨f20,fd20,a20,F20⟩:=d20
 have h20:=PySem.W.mg_of X G a20
 have b20:=F20.binds (ps:=["shape", "most"]) λ_ _ _ _ _ _ us hl=>match us,hl with|[_,_],_=>rfl
 obtain⟨f21,fd21,a21,F21⟩:=d21
 have h21:=PySem.W.mg_of X G a21
 have b21:=F21.binds (ps:=["shape"]) λ_ _ _ _ _ _ us hl=>match us,hl with|[_],_=>rfl
 obtain⟨f22,fd22,a22,F22⟩:=d22
 have h22:=PySem.W.mg_of X G a22
 have b22:=F22.binds (ps:=["side"]) λ_ _ _ _ _ _ us hl=>match us,hl with|[_],_=>rfl
 obtain⟨f23,fd23,a23,F23⟩:=d23
 have h23:=PySem.W.mg_of X G a23
 have b23:=F23.binds (ps:=["rows", "top", "address"]) λ_ _ _ _ _ _ us hl=>match us,hl with|[_,_,_],_=>rfl
 obtain⟨f24,fd24,a24,F24⟩:=d24
 have h24:=PySem.W.mg_of X G a24
 have b24:=F24.binds (ps:=["rows", "number", "address", "along", "addresses"]) λ_ _ _ _ _ _ us hl=>match us,hl with|[_,_,_,_,_],_=>rfl
 obtain⟨f25,fd25,a25,F25⟩:=d25
 have h25:=PySem.W.mg_of X G a25
 have b25:=F25.binds (ps:=["shape", "address", "side"]) λ_ _ _ _ _ _ us hl=>match us,hl with|[_,_,_],_=>rfl
 obtain⟨f26,fd26,a26,F26⟩:=d26
 have h26:=PySem.W.mg_of X G a26
 have b26:=F26.binds (ps:=["shape", "address", "side"]) λ_ _ _ _ _ _ us hl=>match us,hl with|[_,_,_],_=>rfl
 obtain⟨f27,fd27,a27,F27⟩:=d27
 have h27:=PySem.W.mg_of X G a27
 have b27:=F27.binds (ps:=["_law_script", "_law_k"]) λ_ _ _ _ _ _ us hl=>match us,hl with|[_,_],_=>rfl
 obtain⟨f28,fd28,a28,F28⟩:=d28
 have h28:=PySem.W.mg_of X G a28
 have b28:=F28.binds (ps:=["_law_pot_here", "_law_many"]) λ_ _ _ _ _ _ us hl=>match us,hl with|[_,_],_=>rfl
 obtain⟨f29,fd29,a29,F29⟩:=d29
 have h29:=PySem.W.mg_of X G a29
 have b29:=F29.binds (ps:=["_law_pot_here", "_law_n"]) λ_ _ _ _ _ _ us hl=>match us,hl with|[_,_],_=>rfl
 obtain⟨f30,fd30,a30,F30⟩:=d30
 have h30:=PySem.W.mg_of X G a30
 have b30:=F30.binds (ps:=["_law_pot_here", "_law_n", "_law_most"]) λ_ _ _ _ _ _ us hl=>match us,hl with|[_,_,_],_=>rfl
 obtain⟨f31,fd31,a31,F31⟩:=d31
 have h31:=PySem.W.mg_of X G a31
 have b31:=F31.binds (ps:=["_law_pot_here", "_law_n"]) λ_ _ _ _ _ _ us hl=>match us,hl with|[_,_],_=>rfl
 obtain⟨f32,fd32,a32,F32⟩:=d32
 have h32:=PySem.W.mg_of X G a32
 have b32:=F32.binds (ps:=["_law_box_here", "_law_row", "_law_column", "_law_side"]) λ_ _ _ _ _ _ us hl=>match us,hl with|[_,_,_,_],_=>rfl
 obtain⟨f33,fd33,a33,F33⟩:=d33
 have h33:=PySem.W.mg_of X G a33
 have b33:=F33.binds (ps:=["_law_box_here", "_law_row", "_law_column", "_law_side"]) λ_ _ _ _ _ _ us hl=>match us,hl with|[_,_,_,_],_=>rfl
 obtain⟨f34,fd34,a34,F34⟩:=d34
 have h34:=PySem.W.mg_of X G a34
 have b34:=F34.binds (ps:=["_law_rows", "_law_boxes_here", "_law_row", "_law_column", "_law_side"]) λ_ _ _ _ _ _ us hl=>match us,hl with|[_,_,_,_,_],_=>rfl
 obtain⟨f35,fd35,a35,F35⟩:=d35
 have h35:=PySem.W.mg_of X G a35
 have b35:=F35.binds (ps:=["_law_n", "_law_boxes_here"]) λ_ _ _ _ _ _ us hl=>match us,hl with|[_,_],_=>rfl
 obtain⟨f36,fd36,a36,F36⟩:=d36
 have h36:=PySem.W.mg_of X G a36
 have b36:=F36.binds (ps:=["_law_told", "_law_row", "_law_column"]) λ_ _ _ _ _ _ us hl=>match us,hl with|[_,_,_],_=>rfl
 obtain⟨f37,fd37,a37,F37⟩:=d37
 have h37:=PySem.W.mg_of X G a37
 have b37:=F37.binds (ps:=["_law_n", "_law_address_here"]) λ_ _ _ _ _ _ us hl=>match us,hl with|[_,_],_=>rfl
 obtain⟨f38,fd38,a38,F38⟩:=d38
 have h38:=PySem.W.mg_of X G a38
 have b38:=F38.binds (ps:=["_law_pot_here", "_law_boxes_here", "_law_n"]) λ_ _ _ _ _ _ us hl=>match us,hl with|[_,_,_],_=>rfl
 obtain⟨f39,fd39,a39,F39⟩:=d39
 have h39:=PySem.W.mg_of X G a39
 have b39:=F39.binds (ps:=["_law_pot_here", "_law_boxes_here", "_law_n"]) λ_ _ _ _ _ _ us hl=>match us,hl with|[_,_,_],_=>rfl
 obtain⟨f40,fd40,a40,F40⟩:=d40
 have h40:=PySem.W.mg_of X G a40
 have b40:=F40.binds (ps:=["_law_told", "_law_address_here", "_law_side"]) λ_ _ _ _ _ _ us hl=>match us,hl with|[_,_,_],_=>rfl
 refine⟨PySem.W.fnOf "law" "law" (defArgs lLaw) (defBody lLaw) (defScope lLaw) .none kVL dcL pmL anL cdL ctL,λs v=>.of_eq rfl,λbase _ _=>?_⟩
 have gSize:FnOk l.prog w K mg base CX0 2 _ _ _ _:=ok_size F5 B T h0 F0 b0
 have gNum:FnOk l.prog w K mg base CX0 2 _ _ _ _:=ok_number F6 B T h0 F0 b0
 have gPl:∀d,FnOk l.prog w K mg base CX0 (d+2) _ _ _ (spPlaces d):=λd=>ok_places F4 B T h3 F3 b3 d
 have gRow:FnOk l.prog w K mg base CX0 3 _ _ _ _:=ok_row F7 B h6 F6 b6 gNum
 have gRows:FnOk l.prog w K mg base CX0 4 _ _ _ _:=ok_rows F8 B h7 F7 b7 gRow
 have gTell:FnOk l.prog w K mg base CX0 5 _ _ _ _:=ok_telling F9 B h5 F5 b5 gSize h8 F8 b8 gRows h6 F6 b6 gNum h2 F2 b2
 have gShape:FnOk l.prog w K mg base CX0 15 _ _ _ _:=ok_shape F10 B T h9 F9 b9 gTell h1 F1 b1 h4 F4 b4 gPl
 have gWant:FnOk l.prog w K mg base CX0 16 _ _ _ _:=ok_wantS F11 h10 F10 b10 gShape
 have hsm:mg "sum" = none:=nn z16
 have hmo:∃t,mg "MOST_LEAVES" = some (.int 2000 t):=⟨t2,PySem.W.mg_of X G g2⟩
 have SS:Sides K mg S (λi=>[D0,D1,D2,D3].getD i 0) (λi=>[A0,A1,A2,A3].getD i 0):=⟨PySem.W.mg_of X G sn,sk,four_all dk0 dk1 dk2 dk3,four_all ak0 ak1 ak2 ak3⟩
 have gAd:FnOk l.prog w K mg base CX0 2 _ _ _ _:=ok_addr F12 B C.str
 have gWA:FnOk l.prog w K mg base CX0 3 _ _ _ _:=ok_wantA F14 h12 F12 b12 gAd
 have gCl:FnOk l.prog w K mg base CX0 2 _ _ _ _:=ok_cell F13 B h0 F0 b0 h15 F15 b15
 have gBA:FnOk l.prog w K mg base CX0 2 _ _ _ _:=ok_boxAt F17 B h15 F15 b15
 have gAA:FnOk l.prog w K mg base CX0 2 _ _ _ _:=ok_addrAt F18 B C.str h16 F16 b16
 have gWD:FnOk l.prog w K mg base CX0 1 _ _ _ _:=ok_WD F23 B T B.enum
 have gAl:∀d,FnOk l.prog w K mg base CX0 (d+1) _ _ _ (spAl K d):=ok_Al F24 T C.str h24 b24
 have gCo:FnOk l.prog w K mg base CX0 1 _ _ _ _:=ok_Co F19 hsm
 have gWL:FnOk l.prog w K mg base CX0 2 _ _ _ _:=ok_WL F20 h19 F19 b19 gCo
 have gCs:FnOk l.prog w K mg base CX0 3 _ _ _ _:=ok_Cs F21 hmo h20 F20 b20 gWL
 have gSd:FnOk l.prog w K mg base CX0 2 _ _ _ _:=ok_WSd F22 B SS h0 F0 b0
 have gLB:FnOk l.prog w K mg base CX0 14 _ _ _ _:=ok_LB F25 B SS h17 F17 b17 gBA h13 F13 b13 gCl h23 F23 b23 gWD h18 F18 b18 gAA h24 F24 b24 gAl
 have gBs:FnOk l.prog w K mg base CX0 17 _ _ _ _:=ok_Bs F26 h11 F11 b11 gWant h14 F14 b14 gWA h22 F22 b22 gSd h21 F21 b21 gCs h25 F25 b25 gLB
 have gBx:FnOk l.prog w K mg base CX0 3 _ _ _ _:=ok_boxes F31 B h28 F28 b28 h29 F29 b29 h30 F30 b30
 have gBS:FnOk l.prog w K mg base CX0 15 _ _ _ _:=ok_bSh F35 B h34 F34 b34 h32 F32 b32 h33 F33 b33
 have gNr:FnOk l.prog w K mg base CX0 2 _ _ _ _:=ok_Nr F38 B h28 F28 b28
 have gLA:FnOk l.prog w K mg base CX0 3 _ _ _ _:=ok_Ad F39 B h28 F28 b28 h38 F38 b38 gNr
 have gDu:FnOk l.prog w K mg base CX0 2 _ _ _ _:=ok_Du F40 B h36 F36 b36 h37 F37 b37
 exact ok_law FL B C h27 F27 b27 h28 F28 b28 h31 F31 b31 gBx h35 F35 b35 gBS h39 F39 b39 gLA h40 F40 b40 gDu h26 F26 b26 gBs
theorem walk {l:PySem.W.OpenLaw}{q:Program}{loose:List Str}{XP:(Str->Option Value)->Heap->Prop}{YP:World->Heap->Prop}{d:DefRec}{K:Params->PySem.W.Frag}(hn:l.most=some 63) (hdf:d.params.defaults=[])
  (hY:∀(w:World) (h:Heap),YP w h->(K w.params).In h)
  (F:∀(w:World) (mg:Str->Option Value) (fa:Addr) (h:Heap),(K w.params).In h->h.Ns mainGlobals mg->mg d.name=some (.ref fa) ->
   ∃fd:FuncData,(∀(s:Shared) (u:Value),BindsTo s fd ⟨[u],[]⟩ [("_law_script",u)])/\∀base:Heap,(K w.params).In base->base.Ns mainGlobals mg->FnOk l.prog w (K w.params) mg base CX0 18 fa fd ["_law_script"] (spLaw (K w.params))) :
  PySem.W.WalkO q loose XP YP l.row.toRowW d [] (λf vs=>PySem.call f vs):=
 L2.walk_of (n:=63) (k:=18) (x:= "_law_script") (CX:=λ_=>CX0) (sp:=λw=>spLaw (K w.params)) hn (by decide) hdf ⟨rfl,by decide,by decide,rfl⟩ hY F (λ_ _ a ns hl _ hS=>⟨a,ns,rfl,hS,hl,λ_=>rfl⟩) λ_ _ _ _ _ z=>z
end Pr
open PySem PySem.W PyProof.Rows
set_option maxRecDepth 100000 in
set_option maxHeartbeats 0 in
theorem PySem.Challenge.cw_quarterfold_k51_beside_holds : PySem.Challenge.rw_quarterfold_k51_beside.Holds := by
 w_on;o_law
 refine holds_open (q:=Hd.q0) (loose:=[]) (Xt:=Hd.X0) (XP:=XL Hd.q0 []) (YP:=Hook.says (kHook Hd.K0 Hd.as0 Hd.as_K)) (N:=Hd.N0) Hd.left0
  (Hook.of (kHook Hd.K0 Hd.as0 Hd.as_K)) (Hook.keeps (kHook Hd.K0 Hd.as0 Hd.as_K)) (λs e=>xl_of s (Bool.and_eq_true_iff.mp e).1) XL.keeps
  (by rfl) (by rfl) (by rfl) (λs e=>recFacts_of (Bool.and_eq_true_iff.mp e).2)
  (by rfl) (by first|assumption|decide +kernel) (by decide +kernel) ⟨rfl,rfl,rfl,rfl,rfl,by decide +kernel⟩ ?hw ?hc
 case hw=>w_witness2
 k_fill
 refine Pr.walk (l:=PySem.Challenge.rw_quarterfold_k51_beside) rfl rfl (λw h Y=>PySem.W.kIn_of Y) ?F
 case F=>
  intro w mg fa h KX G hmg
  refine' Pr.all_mk KX G hmg ?aL ?lL ?cL ?kL ?gc0 ?gc1 ?gc2 ?d0 ?d1 ?d2 ?d3 ?d4 ?d5 ?d6 ?d7 ?d8 ?d9 ?d10 ?d11 ?d12 ?d13 ?d14 ?d15 ?d16 ?d17 ?d18 ?d19 ?d20 ?d21 ?d22 ?d23 ?d24 ?d25 ?d26 ?d27 ?d28 ?d29 ?d30 ?d31 ?d32 ?d33 ?d34 ?d35 ?d36 ?d37 ?d38 ?d39 ?d40 ?z0 ?z1 ?z2 ?z3 ?z4 ?z5 ?z6 ?z7 ?z8 ?z9 ?z10 ?z11 ?z12 ?z13 ?z14 ?z15 ?z16 ?sn ?sk ?dk0 ?dk1 ?dk2 ?dk3 ?ak0 ?ak1 ?ak2 ?ak3
  (case aL=>k_is);(case lL=>k_is);(case cL=>k_is);(case kL=>k_is)
  (case gc0=>k_is)
  (case gc1=>k_is)
  (case gc2=>k_is)
  (case z0=>unfold Pr.NoName;k_is)
  (case z1=>unfold Pr.NoName;k_is)
  (case z2=>unfold Pr.NoName;k_is)
  (case z3=>unfold Pr.NoName;k_is)
  (case z4=>unfold Pr.NoName;k_is)
  (case z5=>unfold Pr.NoName;k_is)
  (case z6=>unfold Pr.NoName;k_is)
  (case z7=>unfold Pr.NoName;k_is)
  (case z8=>unfold Pr.NoName;k_is)
  (case z9=>unfold Pr.NoName;k_is)
  (case z10=>unfold Pr.NoName;k_is)
  (case z11=>unfold Pr.NoName;k_is)
  (case z12=>unfold Pr.NoName;k_is)
  (case z13=>unfold Pr.NoName;k_is)
  (case z14=>unfold Pr.NoName;k_is)
  (case z15=>unfold Pr.NoName;k_is)
  (case z16=>unfold Pr.NoName;k_is)
  (case sn=>k_is)
  (case sk=>refine' Pr.kt4 ?qa;(case qa=>k_is))
  (case dk0=>refine' Pr.kt3 ?qa;(case qa=>k_is))
  (case dk1=>refine' Pr.kt3 ?qa;(case qa=>k_is))
  (case dk2=>refine' Pr.kt3 ?qa;(case qa=>k_is))
  (case dk3=>refine' Pr.kt3 ?qa;(case qa=>k_is))
  (case ak0=>refine' Pr.kt2 ?qa;(case qa=>k_is))
  (case ak1=>refine' Pr.kt2 ?qa;(case qa=>k_is))
  (case ak2=>refine' Pr.kt2 ?qa;(case qa=>k_is))
  (case ak3=>refine' Pr.kt2 ?qa;(case qa=>k_is))
  all_goals (refine' Pr.d_mk ?qa ?ql ?qc ?qk;(case qa=>k_is);(case ql=>k_is);(case qc=>k_is);(case qk=>k_is))
