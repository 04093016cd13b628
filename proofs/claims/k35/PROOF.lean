import PyProof.Rows.All
import Wide.All
import OpenK.AllK
import Wide.FinOn
import Lean
import PyProof.EqAt
import PyProof.EqKinds
import PyProof.TupleCall
import Open.Row
import PySem.SetOps
import PyProof.SetRoads
import PyProof.Rows.SetFrom
import PyProof.FactsAll.subtypes_4
import PyProof.WalksMore
import OpenK.KOwn
import PyProof.NeData
import PyProof.ReprRoads
import PyProof.WalksEnum
import PyProof.EnumMake
import PyProof.Rows.EnumRows
import PyProof.ZipIter
import KE.KTryMore
import KE.KIntText
import KE.KDictList
import PyProof.ConsumeS
import PyProof.ListRange
import PyProof.ListMulRoad
import PyProof.DictUpdate
import PyProof.Rows.TupDisplay
import PyProof.DictWalks
import PyProof.TupleOfGen
import PyProof.CompUse
import PyProof.CompFree
import PySem.Challenge.RW_quarterfold_k35_whole_pairs_and_rows
set_option Elab.async false
set_option linter.all false
set_option maxRecDepth 100000
set_option maxHeartbeats 8000000
theorem gS_{α:Type}{l:List α}{i:Nat}{a:α}(h:l[i]?=some a):∃h:i<l.length,l[i]=a:=List.getElem?_eq_some_iff.mp h
namespace L2
open PySem
def inClass (s:Stmt) (j:Nat):Stmt:=match s with
 |.ClassDef _ _ _ body _ _ _ _ _ _ _=>body.getD j (.Pass ⟨0,0,0,0⟩)
 |_=>.Pass ⟨0,0,0,0⟩
def defArgs (s:Stmt):Arguments:=match s with
 |.FunctionDef _ a _ _ _ _ _ _ _ _=>a
 |_=>{ posonlyargs:=[],args:=[],vararg:=none,kwonlyargs:=[],kw_defaults:=[],kwarg:=none,defaults:=[] }
def defBody (s:Stmt):List Stmt:=match s with
 |.FunctionDef _ _ b _ _ _ _ _ _ _=>b
 |_=>[]
def defScope (s:Stmt):Scope:=match s with
 |.FunctionDef _ _ _ _ _ _ sc _ _ _=>sc
 |_=>{ kind:=.function,names:=[],isGenerator:=false,isCoroutine:=false }
end L2
namespace Pr
open PySem
def top (i:Nat):Stmt:=PySem.Challenge.pw_quarterfold_k35_whole_pairs_and_rows.main.body.getD i (.Pass ⟨0,0,0,0⟩)
end Pr
namespace Hd
open PySem PySem.W
abbrev pw:Program:=PySem.Challenge.pw_quarterfold_k35_whole_pairs_and_rows
abbrev u0_:Value:=.str "quarterfold.rows" 239
abbrev u1_:Value:=.str "quarterfold.deeds" 415
abbrev u2_:Value:=.str "quarterfold.tellings" 362
abbrev u3_:Value:=.str "law_quarterfold_k35_whole_pairs_and_rows" 575
def kh (P:Params) (x:Str):Int:=PySem.PyData.keyHash P x
def oM (n q:Str) (st:Stmt) (m:Value) (c:Nat):Obj:=⟨.type "function",none,.func (fnOf n q (L2.defArgs st) (L2.defBody st) (L2.defScope st) .none .none .none m none (.ref c) .none),#[]⟩
def oF (n:Str) (st:Stmt) (m:Value) (c:Nat):Obj:=⟨.type "function",none,.func (fnOf n n (L2.defArgs st) (L2.defBody st) (L2.defScope st) .none .none .none m none (.ref c) .none),#[]⟩
def oT (n q:Str) (st:Stmt):Obj:=⟨.none,none,.func { fnOf n q (L2.defArgs st) (L2.defBody st) (L2.defScope st) .none .none .none .none none .none .none with globals:=0 },#[]⟩
def oC (n q:Str) (t1 t2 t3 l a r1 r2:Nat) (y z:Value) (r6 k t5:Nat):Obj:=⟨.type "code",none,.fields #[.str n t1,.str q t2,.str "/claim/cut.py" t3,.int l 0,.int a 0,.int 0 0,.int 0 0,.int 3 0,.ref r1,.bool true,.int 181 0,.ref r2,.none,y,z,.ref r6,.int k 0,.int l 0,.str "/claim/cut.py" t5],#[]⟩
def K0 (P:Params):Frag:=
(nat_lit 2,⟨.none,none,(.dict #[] 0),#[]⟩) ::
(nat_lit 3,⟨.type "dict",none,(.dict #[⟨kh P "__name__",.str "__name__" 165,.str "law_quarterfold_k35_whole_pairs_and_rows" 575⟩,⟨kh P "__doc__",.str "__doc__" 166,.none⟩,⟨kh P "__package__",.str "__package__" 167,.none⟩,⟨kh P "__loader__",.str "__loader__" 168,.builtin "__main__.__loader__#opaque"⟩,⟨kh P "__spec__",.str "__spec__" 169,.none⟩,⟨kh P "__annotations__",.str "__annotations__" 170,.ref 6⟩,⟨kh P "__builtins__",.str "__builtins__" 171,.ref 4⟩,⟨kh P "__file__",.str "__file__" 173,.str "/claim/cut.py" 172⟩,⟨kh P "__cached__",.str "__cached__" 174,.none⟩,⟨kh P "FloorError",.str "FloorError" 206,.ref 24⟩,⟨kh P "NoShape",.str "NoShape" 222,.ref 37⟩,⟨kh P "OtherFloor",.str "OtherFloor" 238,.ref 49⟩,⟨kh P "EMPTY",.str "EMPTY" 242,.int 0 241⟩,⟨kh P "FULL",.str "FULL" 244,.int 1 243⟩,⟨kh P "FIRST",.str "FIRST" 246,.int 2 245⟩,⟨kh P "is_whole",.str "is_whole" 253,.ref 58⟩,⟨kh P "is_plain",.str "is_plain" 260,.ref 65⟩,⟨kh P "depths_of",.str "depths_of" 266,.ref 70⟩,⟨kh P "end_rows",.str "end_rows" 276,.ref 77⟩,⟨kh P "places_as_ended",.str "places_as_ended" 285,.ref 84⟩,⟨kh P "renumbered",.str "renumbered" 291,.ref 89⟩,⟨kh P "shape_of",.str "shape_of" 303,.ref 96⟩,⟨kh P "Book",.str "Book" 350,.ref 127⟩,⟨kh P "GREATEST_SIZE",.str "GREATEST_SIZE" 354,.int 12 353⟩,⟨kh P "is_size",.str "is_size" 361,.ref 138⟩,⟨kh P "is_number",.str "is_number" 371,.ref 145⟩,⟨kh P "is_row",.str "is_row" 377,.ref 150⟩,⟨kh P "are_rows",.str "are_rows" 383,.ref 155⟩,⟨kh P "is_telling",.str "is_telling" 393,.ref 162⟩,⟨kh P "is_shape",.str "is_shape" 399,.ref 167⟩,⟨kh P "want_shape",.str "want_shape" 406,.ref 174⟩,⟨kh P "want_one_floor",.str "want_one_floor" 414,.ref 181⟩,⟨kh P "JOINED",.str "JOINED" 421,.ref 182⟩,⟨kh P "CUT",.str "CUT" 426,.ref 183⟩,⟨kh P "WITHOUT",.str "WITHOUT" 431,.ref 184⟩,⟨kh P "UNLIKE",.str "UNLIKE" 436,.ref 185⟩,⟨kh P "exchanged",.str "exchanged" 443,.ref 192⟩,⟨kh P "exchanged_rows",.str "exchanged_rows" 449,.ref 197⟩,⟨kh P "both_ways",.str "both_ways" 458,.ref 204⟩,⟨kh P "number_beside_plain",.str "number_beside_plain" 467,.ref 211⟩,⟨kh P "Deed",.str "Deed" 510,.ref 233⟩,⟨kh P "brought_together",.str "brought_together" 520,.ref 244⟩,⟨kh P "joined",.str "joined" 528,.ref 251⟩,⟨kh P "cut",.str "cut" 536,.ref 258⟩,⟨kh P "without",.str "without" 544,.ref 265⟩,⟨kh P "unlike",.str "unlike" 552,.ref 272⟩,⟨kh P "gather_pairs",.str "gather_pairs" 565,.ref 279⟩,⟨kh P "pairs",.str "pairs" 574,.ref 286⟩,⟨kh P "_law_purse",.str "_law_purse" 587,.ref 293⟩,⟨kh P "_law_draw",.str "_law_draw" 596,.ref 300⟩,⟨kh P "_law_quarter",.str "_law_quarter" 604,.ref 307⟩,⟨kh P "_law_depths",.str "_law_depths" 610,.ref 312⟩,⟨kh P "_law_rows",.str "_law_rows" 616,.ref 317⟩,⟨kh P "_law_ends",.str "_law_ends" 626,.ref 324⟩,⟨kh P "_law_shape",.str "_law_shape" 632,.ref 329⟩,⟨kh P "_law_drawn",.str "_law_drawn" 642,.ref 336⟩,⟨kh P "_law_two",.str "_law_two" 654,.ref 343⟩,⟨kh P "_law_count",.str "_law_count" 666,.ref 350⟩,⟨kh P "_law_beside",.str "_law_beside" 672,.ref 355⟩,⟨kh P "_law_is_number",.str "_law_is_number" 680,.ref 362⟩,⟨kh P "_law_two_right",.str "_law_two_right" 691,.ref 369⟩,⟨kh P "law",.str "law" 705,.ref 376⟩] 62),#[]⟩) ::
(nat_lit 15,⟨.type "tuple",none,(.seq #[.type "ValueError"] 0),#[]⟩) ::
(nat_lit 22,⟨.type "tuple",none,(.seq #[] 0),#[]⟩) ::
(nat_lit 23,⟨.type "dict",none,(.dict #[⟨kh P "__module__",.str "__module__" 196,.str "quarterfold.errors" 187⟩,⟨kh P "__firstlineno__",.str "__firstlineno__" 200,.int 2 199⟩,⟨kh P "__static_attributes__",.str "__static_attributes__" 201,.ref 22⟩,⟨kh P "__weakref__",.str "__weakref__" 203,.ref 25⟩,⟨kh P "__doc__",.str "__doc__" 204,.none⟩] 3),#[]⟩) ::
(nat_lit 24,⟨.type "type",none,(.cls ⟨"FloorError",[.type "ValueError"],[.ref 24,.type "ValueError",.type "Exception",.type "BaseException",.type "object"],23, "FloorError",true,[],[.ref 37,.ref 49],false,none,false⟩),#[some (.ref 15),none,some (.str "FloorError" 189),some (.str "FloorError" 197),some (.builtin "ValueError.__new__"),some (.bool true)]⟩) ::
(nat_lit 25,⟨.type "getset_descriptor",none,(.fields #[.str "__weakref__" 202,.ref 24,.builtin "ExceptionGroup.__weakref__",.none]),#[]⟩) ::
(nat_lit 28,⟨.type "tuple",none,(.seq #[.ref 24] 0),#[]⟩) ::
(nat_lit 35,⟨.type "tuple",none,(.seq #[] 0),#[]⟩) ::
(nat_lit 36,⟨.type "dict",none,(.dict #[⟨kh P "__module__",.str "__module__" 214,.str "quarterfold.errors" 187⟩,⟨kh P "__firstlineno__",.str "__firstlineno__" 218,.int 4 217⟩,⟨kh P "__static_attributes__",.str "__static_attributes__" 219,.ref 35⟩,⟨kh P "__doc__",.str "__doc__" 220,.none⟩] 2),#[]⟩) ::
(nat_lit 37,⟨.type "type",none,(.cls ⟨"NoShape",[.ref 24],[.ref 37,.ref 24,.type "ValueError",.type "Exception",.type "BaseException",.type "object"],36, "NoShape",true,[],[],false,none,false⟩),#[some (.ref 28),none,some (.str "NoShape" 207),some (.str "NoShape" 215),some (.builtin "ValueError.__new__"),some (.bool true)]⟩) ::
(nat_lit 40,⟨.type "tuple",none,(.seq #[.ref 24] 0),#[]⟩) ::
(nat_lit 47,⟨.type "tuple",none,(.seq #[] 0),#[]⟩) ::
(nat_lit 48,⟨.type "dict",none,(.dict #[⟨kh P "__module__",.str "__module__" 230,.str "quarterfold.errors" 187⟩,⟨kh P "__firstlineno__",.str "__firstlineno__" 234,.int 6 233⟩,⟨kh P "__static_attributes__",.str "__static_attributes__" 235,.ref 47⟩,⟨kh P "__doc__",.str "__doc__" 236,.none⟩] 2),#[]⟩) ::
(nat_lit 49,⟨.type "type",none,(.cls ⟨"OtherFloor",[.ref 24],[.ref 49,.ref 24,.type "ValueError",.type "Exception",.type "BaseException",.type "object"],48, "OtherFloor",true,[],[],false,none,false⟩),#[some (.ref 40),none,some (.str "OtherFloor" 223),some (.str "OtherFloor" 231),some (.builtin "ValueError.__new__"),some (.bool true)]⟩) ::
(nat_lit 52,⟨.type "tuple",none,(.seq #[] 0),#[]⟩) ::
(nat_lit 54,⟨.type "tuple",none,(.seq #[.str "thing" 250] 0),#[]⟩) ::
(nat_lit 55,⟨.type "tuple",none,(.seq #[] 0),#[]⟩) ::
(nat_lit 57,oC "is_whole" "is_whole" 247 248 249 12 1 52 53 (.ref 54) (.ref 55) 56 251 252) ::
(nat_lit 58,oF "is_whole" (Pr.top 8) u0_ 57) ::
(nat_lit 59,⟨.type "tuple",none,(.seq #[] 0),#[]⟩) ::
(nat_lit 61,⟨.type "tuple",none,(.seq #[.str "row" 257] 0),#[]⟩) ::
(nat_lit 62,⟨.type "tuple",none,(.seq #[] 0),#[]⟩) ::
(nat_lit 64,oC "is_plain" "is_plain" 254 255 256 14 1 59 60 (.ref 61) (.ref 62) 63 258 259) ::
(nat_lit 65,oF "is_plain" (Pr.top 9) u0_ 64) ::
(nat_lit 66,⟨.type "tuple",none,(.seq #[] 0),#[]⟩) ::
(nat_lit 69,oC "depths_of" "depths_of" 261 262 263 16 1 66 67 .none .none 68 264 265) ::
(nat_lit 70,oF "depths_of" (Pr.top 10) u0_ 69) ::
(nat_lit 71,⟨.type "tuple",none,(.seq #[] 0),#[]⟩) ::
(nat_lit 73,⟨.type "tuple",none,(.seq #[.str "rows" 270,.str "number" 271,.str "ended" 272,.str "quarter" 273] 0),#[]⟩) ::
(nat_lit 74,⟨.type "tuple",none,(.seq #[] 0),#[]⟩) ::
(nat_lit 76,oC "end_rows" "end_rows" 267 268 269 21 3 71 72 (.ref 73) (.ref 74) 75 274 275) ::
(nat_lit 77,oF "end_rows" (Pr.top 11) u0_ 76) ::
(nat_lit 78,⟨.type "tuple",none,(.seq #[] 0),#[]⟩) ::
(nat_lit 80,⟨.type "tuple",none,(.seq #[.str "rows" 280,.str "top" 281,.str "ended" 282] 0),#[]⟩) ::
(nat_lit 81,⟨.type "tuple",none,(.seq #[] 0),#[]⟩) ::
(nat_lit 83,oC "places_as_ended" "places_as_ended" 277 278 279 27 2 78 79 (.ref 80) (.ref 81) 82 283 284) ::
(nat_lit 84,oF "places_as_ended" (Pr.top 12) u0_ 83) ::
(nat_lit 85,⟨.type "tuple",none,(.seq #[] 0),#[]⟩) ::
(nat_lit 88,oC "renumbered" "renumbered" 286 287 288 31 2 85 86 .none .none 87 289 290) ::
(nat_lit 89,oF "renumbered" (Pr.top 13) u0_ 88) ::
(nat_lit 90,⟨.type "tuple",none,(.seq #[] 0),#[]⟩) ::
(nat_lit 92,⟨.type "tuple",none,(.seq #[.str "n" 295,.str "top" 296,.str "rows" 297,.str "numbers" 298,.str "told" 299,.str "place" 300] 0),#[]⟩) ::
(nat_lit 93,⟨.type "tuple",none,(.seq #[] 0),#[]⟩) ::
(nat_lit 95,oC "shape_of" "shape_of" 292 293 294 33 3 90 91 (.ref 92) (.ref 93) 94 301 302) ::
(nat_lit 96,oF "shape_of" (Pr.top 14) u0_ 95) ::
(nat_lit 104,⟨.type "tuple",none,(.seq #[] 0),#[]⟩) ::
(nat_lit 106,⟨.type "tuple",none,(.seq #[.str "self" 319] 0),#[]⟩) ::
(nat_lit 107,⟨.type "tuple",none,(.seq #[] 0),#[]⟩) ::
(nat_lit 109,oC "__init__" "Book.__init__" 316 317 318 42 1 104 105 (.ref 106) (.ref 107) 108 320 321) ::
(nat_lit 110,oM "__init__" "Book.__init__" (L2.inClass (Pr.top 15) 0) u0_ 109) ::
(nat_lit 111,⟨.type "tuple",none,(.seq #[] 0),#[]⟩) ::
(nat_lit 113,⟨.type "tuple",none,(.seq #[.str "self" 326,.str "row" 327] 0),#[]⟩) ::
(nat_lit 114,⟨.type "tuple",none,(.seq #[] 0),#[]⟩) ::
(nat_lit 116,oC "number_for" "Book.number_for" 323 324 325 46 2 111 112 (.ref 113) (.ref 114) 115 328 329) ::
(nat_lit 117,oM "number_for" "Book.number_for" (L2.inClass (Pr.top 15) 1) u0_ 116) ::
(nat_lit 118,⟨.type "tuple",none,(.seq #[] 0),#[]⟩) ::
(nat_lit 120,⟨.type "tuple",none,(.seq #[.str "self" 334,.str "rows" 335,.str "numbers" 336,.str "row" 337] 0),#[]⟩) ::
(nat_lit 121,⟨.type "tuple",none,(.seq #[] 0),#[]⟩) ::
(nat_lit 123,oC "numbers_for" "Book.numbers_for" 331 332 333 54 2 118 119 (.ref 120) (.ref 121) 122 338 339) ::
(nat_lit 124,oM "numbers_for" "Book.numbers_for" (L2.inClass (Pr.top 15) 2) u0_ 123) ::
(nat_lit 125,⟨.type "tuple",none,(.seq #[.str "kept" 341,.str "numbers" 342] 0),#[]⟩) ::
(nat_lit 126,⟨.type "dict",none,(.dict #[⟨kh P "__module__",.str "__module__" 311,.str "quarterfold.rows" 239⟩,⟨kh P "__firstlineno__",.str "__firstlineno__" 315,.int 40 314⟩,⟨kh P "__init__",.str "__init__" 322,.ref 110⟩,⟨kh P "number_for",.str "number_for" 330,.ref 117⟩,⟨kh P "numbers_for",.str "numbers_for" 340,.ref 124⟩,⟨kh P "__static_attributes__",.str "__static_attributes__" 343,.ref 125⟩,⟨kh P "__dict__",.str "__dict__" 345,.ref 128⟩,⟨kh P "__weakref__",.str "__weakref__" 347,.ref 129⟩,⟨kh P "__doc__",.str "__doc__" 348,.none⟩] 4),#[]⟩) ::
(nat_lit 127,⟨.type "type",none,(.cls ⟨"Book",[.type "object"],[.ref 127,.type "object"],126, "Book",true,[],[],false,none,false⟩),#[none,none,some (.str "Book" 304),some (.str "Book" 312),some (.builtin "object.__new__"),some (.bool true)]⟩) ::
(nat_lit 128,⟨.type "getset_descriptor",none,(.fields #[.str "__dict__" 344,.ref 127,.builtin "function.__dict__",.builtin "function.__dict__#set"]),#[]⟩) ::
(nat_lit 129,⟨.type "getset_descriptor",none,(.fields #[.str "__weakref__" 346,.ref 127,.builtin "ExceptionGroup.__weakref__",.none]),#[]⟩) ::
(nat_lit 132,⟨.type "tuple",none,(.seq #[] 0),#[]⟩) ::
(nat_lit 134,⟨.type "tuple",none,(.seq #[.str "thing" 358] 0),#[]⟩) ::
(nat_lit 135,⟨.type "tuple",none,(.seq #[] 0),#[]⟩) ::
(nat_lit 137,oC "is_size" "is_size" 355 356 357 61 1 132 133 (.ref 134) (.ref 135) 136 359 360) ::
(nat_lit 138,oF "is_size" (Pr.top 18) (.str "quarterfold.floors" 351) 137) ::
(nat_lit 139,⟨.type "tuple",none,(.seq #[] 0),#[]⟩) ::
(nat_lit 141,⟨.type "tuple",none,(.seq #[.str "thing" 367,.str "many" 368] 0),#[]⟩) ::
(nat_lit 142,⟨.type "tuple",none,(.seq #[] 0),#[]⟩) ::
(nat_lit 144,oC "is_number" "is_number" 364 365 366 64 2 139 140 (.ref 141) (.ref 142) 143 369 370) ::
(nat_lit 145,oF "is_number" (Pr.top 20) u2_ 144) ::
(nat_lit 146,⟨.type "tuple",none,(.seq #[] 0),#[]⟩) ::
(nat_lit 149,oC "is_row" "is_row" 372 373 374 66 2 146 147 .none .none 148 375 376) ::
(nat_lit 150,oF "is_row" (Pr.top 21) u2_ 149) ::
(nat_lit 151,⟨.type "tuple",none,(.seq #[] 0),#[]⟩) ::
(nat_lit 154,oC "are_rows" "are_rows" 378 379 380 70 1 151 152 .none .none 153 381 382) ::
(nat_lit 155,oF "are_rows" (Pr.top 22) u2_ 154) ::
(nat_lit 156,⟨.type "tuple",none,(.seq #[] 0),#[]⟩) ::
(nat_lit 158,⟨.type "tuple",none,(.seq #[.str "thing" 387,.str "n" 388,.str "top" 389,.str "rows" 390] 0),#[]⟩) ::
(nat_lit 159,⟨.type "tuple",none,(.seq #[] 0),#[]⟩) ::
(nat_lit 161,oC "is_telling" "is_telling" 384 385 386 72 1 156 157 (.ref 158) (.ref 159) 160 391 392) ::
(nat_lit 162,oF "is_telling" (Pr.top 23) u2_ 161) ::
(nat_lit 163,⟨.type "tuple",none,(.seq #[] 0),#[]⟩) ::
(nat_lit 166,oC "is_shape" "is_shape" 394 395 396 79 1 163 164 .none .none 165 397 398) ::
(nat_lit 167,oF "is_shape" (Pr.top 24) u2_ 166) ::
(nat_lit 168,⟨.type "tuple",none,(.seq #[] 0),#[]⟩) ::
(nat_lit 170,⟨.type "tuple",none,(.seq #[.str "shape" 403] 0),#[]⟩) ::
(nat_lit 171,⟨.type "tuple",none,(.seq #[] 0),#[]⟩) ::
(nat_lit 173,oC "want_shape" "want_shape" 400 401 402 86 1 168 169 (.ref 170) (.ref 171) 172 404 405) ::
(nat_lit 174,oF "want_shape" (Pr.top 25) u2_ 173) ::
(nat_lit 175,⟨.type "tuple",none,(.seq #[] 0),#[]⟩) ::
(nat_lit 177,⟨.type "tuple",none,(.seq #[.str "one" 410,.str "other" 411] 0),#[]⟩) ::
(nat_lit 178,⟨.type "tuple",none,(.seq #[] 0),#[]⟩) ::
(nat_lit 180,oC "want_one_floor" "want_one_floor" 407 408 409 89 2 175 176 (.ref 177) (.ref 178) 179 412 413) ::
(nat_lit 181,oF "want_one_floor" (Pr.top 26) u2_ 180) ::
(nat_lit 182,⟨.type "tuple",none,(.seq #[.int 0 417,.int 1 418,.int 1 419,.int 1 420] 0),#[]⟩) ::
(nat_lit 183,⟨.type "tuple",none,(.seq #[.int 0 422,.int 0 423,.int 0 424,.int 1 425] 0),#[]⟩) ::
(nat_lit 184,⟨.type "tuple",none,(.seq #[.int 0 427,.int 0 428,.int 1 429,.int 0 430] 0),#[]⟩) ::
(nat_lit 185,⟨.type "tuple",none,(.seq #[.int 0 432,.int 1 433,.int 1 434,.int 0 435] 0),#[]⟩) ::
(nat_lit 186,⟨.type "tuple",none,(.seq #[] 0),#[]⟩) ::
(nat_lit 188,⟨.type "tuple",none,(.seq #[.str "number" 440] 0),#[]⟩) ::
(nat_lit 189,⟨.type "tuple",none,(.seq #[] 0),#[]⟩) ::
(nat_lit 191,oC "exchanged" "exchanged" 437 438 439 99 1 186 187 (.ref 188) (.ref 189) 190 441 442) ::
(nat_lit 192,oF "exchanged" (Pr.top 32) u1_ 191) ::
(nat_lit 193,⟨.type "tuple",none,(.seq #[] 0),#[]⟩) ::
(nat_lit 196,oC "exchanged_rows" "exchanged_rows" 444 445 446 103 1 193 194 .none .none 195 447 448) ::
(nat_lit 197,oF "exchanged_rows" (Pr.top 33) u1_ 196) ::
(nat_lit 198,⟨.type "tuple",none,(.seq #[] 0),#[]⟩) ::
(nat_lit 200,⟨.type "tuple",none,(.seq #[.str "book" 453,.str "rows" 454,.str "left" 455] 0),#[]⟩) ::
(nat_lit 201,⟨.type "tuple",none,(.seq #[] 0),#[]⟩) ::
(nat_lit 203,oC "both_ways" "both_ways" 450 451 452 105 2 198 199 (.ref 200) (.ref 201) 202 456 457) ::
(nat_lit 204,oF "both_ways" (Pr.top 34) u1_ 203) ::
(nat_lit 205,⟨.type "tuple",none,(.seq #[] 0),#[]⟩) ::
(nat_lit 207,⟨.type "tuple",none,(.seq #[.str "ways" 462,.str "number" 463,.str "outcomes" 464] 0),#[]⟩) ::
(nat_lit 208,⟨.type "tuple",none,(.seq #[] 0),#[]⟩) ::
(nat_lit 210,oC "number_beside_plain" "number_beside_plain" 459 460 461 108 3 205 206 (.ref 207) (.ref 208) 209 465 466) ::
(nat_lit 211,oF "number_beside_plain" (Pr.top 35) u1_ 210) ::
(nat_lit 219,⟨.type "tuple",none,(.seq #[] 0),#[]⟩) ::
(nat_lit 221,⟨.type "tuple",none,(.seq #[.str "self" 483,.str "rows" 484,.str "other_rows" 485,.str "outcomes" 486] 0),#[]⟩) ::
(nat_lit 222,⟨.type "tuple",none,(.seq #[] 0),#[]⟩) ::
(nat_lit 224,oC "__init__" "Deed.__init__" 480 481 482 114 4 219 220 (.ref 221) (.ref 222) 223 487 488) ::
(nat_lit 225,oM "__init__" "Deed.__init__" (L2.inClass (Pr.top 36) 0) u1_ 224) ::
(nat_lit 226,⟨.type "tuple",none,(.seq #[] 0),#[]⟩) ::
(nat_lit 229,oC "number_for_pair" "Deed.number_for_pair" 490 491 492 123 3 226 227 .none .none 228 493 494) ::
(nat_lit 230,oM "number_for_pair" "Deed.number_for_pair" (L2.inClass (Pr.top 36) 1) u1_ 229) ::
(nat_lit 231,⟨.type "tuple",none,(.seq #[.str "book" 496,.str "known" 497,.str "other_rows" 498,.str "other_ways" 499,.str "outcomes" 500,.str "rows" 501,.str "ways" 502] 0),#[]⟩) ::
(nat_lit 232,⟨.type "dict",none,(.dict #[⟨kh P "__module__",.str "__module__" 475,.str "quarterfold.deeds" 415⟩,⟨kh P "__firstlineno__",.str "__firstlineno__" 479,.int 112 478⟩,⟨kh P "__init__",.str "__init__" 489,.ref 225⟩,⟨kh P "number_for_pair",.str "number_for_pair" 495,.ref 230⟩,⟨kh P "__static_attributes__",.str "__static_attributes__" 503,.ref 231⟩,⟨kh P "__dict__",.str "__dict__" 505,.ref 234⟩,⟨kh P "__weakref__",.str "__weakref__" 507,.ref 235⟩,⟨kh P "__doc__",.str "__doc__" 508,.none⟩] 4),#[]⟩) ::
(nat_lit 233,⟨.type "type",none,(.cls ⟨"Deed",[.type "object"],[.ref 233,.type "object"],232, "Deed",true,[],[],false,none,false⟩),#[none,none,some (.str "Deed" 468),some (.str "Deed" 476),some (.builtin "object.__new__"),some (.bool true)]⟩) ::
(nat_lit 234,⟨.type "getset_descriptor",none,(.fields #[.str "__dict__" 504,.ref 233,.builtin "function.__dict__",.builtin "function.__dict__#set"]),#[]⟩) ::
(nat_lit 235,⟨.type "getset_descriptor",none,(.fields #[.str "__weakref__" 506,.ref 233,.builtin "ExceptionGroup.__weakref__",.none]),#[]⟩) ::
(nat_lit 238,⟨.type "tuple",none,(.seq #[] 0),#[]⟩) ::
(nat_lit 240,⟨.type "tuple",none,(.seq #[.str "one" 514,.str "other" 515,.str "outcomes" 516,.str "deed" 517] 0),#[]⟩) ::
(nat_lit 241,⟨.type "tuple",none,(.seq #[] 0),#[]⟩) ::
(nat_lit 243,oC "brought_together" "brought_together" 511 512 513 133 3 238 239 (.ref 240) (.ref 241) 242 518 519) ::
(nat_lit 244,oF "brought_together" (Pr.top 37) u1_ 243) ::
(nat_lit 245,⟨.type "tuple",none,(.seq #[] 0),#[]⟩) ::
(nat_lit 247,⟨.type "tuple",none,(.seq #[.str "one" 524,.str "other" 525] 0),#[]⟩) ::
(nat_lit 248,⟨.type "tuple",none,(.seq #[] 0),#[]⟩) ::
(nat_lit 250,oC "joined" "joined" 521 522 523 137 2 245 246 (.ref 247) (.ref 248) 249 526 527) ::
(nat_lit 251,oF "joined" (Pr.top 38) u1_ 250) ::
(nat_lit 252,⟨.type "tuple",none,(.seq #[] 0),#[]⟩) ::
(nat_lit 254,⟨.type "tuple",none,(.seq #[.str "one" 532,.str "other" 533] 0),#[]⟩) ::
(nat_lit 255,⟨.type "tuple",none,(.seq #[] 0),#[]⟩) ::
(nat_lit 257,oC "cut" "cut" 529 530 531 139 2 252 253 (.ref 254) (.ref 255) 256 534 535) ::
(nat_lit 258,oF "cut" (Pr.top 39) u1_ 257) ::
(nat_lit 259,⟨.type "tuple",none,(.seq #[] 0),#[]⟩) ::
(nat_lit 261,⟨.type "tuple",none,(.seq #[.str "one" 540,.str "other" 541] 0),#[]⟩) ::
(nat_lit 262,⟨.type "tuple",none,(.seq #[] 0),#[]⟩) ::
(nat_lit 264,oC "without" "without" 537 538 539 141 2 259 260 (.ref 261) (.ref 262) 263 542 543) ::
(nat_lit 265,oF "without" (Pr.top 40) u1_ 264) ::
(nat_lit 266,⟨.type "tuple",none,(.seq #[] 0),#[]⟩) ::
(nat_lit 268,⟨.type "tuple",none,(.seq #[.str "one" 548,.str "other" 549] 0),#[]⟩) ::
(nat_lit 269,⟨.type "tuple",none,(.seq #[] 0),#[]⟩) ::
(nat_lit 271,oC "unlike" "unlike" 545 546 547 143 2 266 267 (.ref 268) (.ref 269) 270 550 551) ::
(nat_lit 272,oF "unlike" (Pr.top 41) u1_ 271) ::
(nat_lit 273,⟨.type "tuple",none,(.seq #[] 0),#[]⟩) ::
(nat_lit 275,⟨.type "tuple",none,(.seq #[.str "rows" 556,.str "other_rows" 557,.str "pair" 558,.str "found" 559,.str "number" 560,.str "other" 561,.str "below" 562] 0),#[]⟩) ::
(nat_lit 276,⟨.type "tuple",none,(.seq #[] 0),#[]⟩) ::
(nat_lit 278,oC "gather_pairs" "gather_pairs" 553 554 555 145 4 273 274 (.ref 275) (.ref 276) 277 563 564) ::
(nat_lit 279,oF "gather_pairs" (Pr.top 42) u1_ 278) ::
(nat_lit 280,⟨.type "tuple",none,(.seq #[] 0),#[]⟩) ::
(nat_lit 282,⟨.type "tuple",none,(.seq #[.str "one" 569,.str "other" 570,.str "found" 571] 0),#[]⟩) ::
(nat_lit 283,⟨.type "tuple",none,(.seq #[] 0),#[]⟩) ::
(nat_lit 285,oC "pairs" "pairs" 566 567 568 152 2 280 281 (.ref 282) (.ref 283) 284 572 573) ::
(nat_lit 286,oF "pairs" (Pr.top 43) u1_ 285) ::
(nat_lit 287,⟨.type "tuple",none,(.seq #[] 0),#[]⟩) ::
(nat_lit 289,⟨.type "tuple",none,(.seq #[.str "_law_script" 580,.str "_law_k" 581,.str "_law_cell" 582,.str "_law_seed" 583,.str "_law_other" 584] 0),#[]⟩) ::
(nat_lit 290,⟨.type "tuple",none,(.seq #[] 0),#[]⟩) ::
(nat_lit 292,oC "_law_purse" "_law_purse" 577 578 579 158 2 287 288 (.ref 289) (.ref 290) 291 585 586) ::
(nat_lit 293,oF "_law_purse" (Pr.top 45) u3_ 292) ::
(nat_lit 294,⟨.type "tuple",none,(.seq #[] 0),#[]⟩) ::
(nat_lit 296,⟨.type "tuple",none,(.seq #[.str "_law_purse_here" 591,.str "_law_many" 592,.str "_law_digit" 593] 0),#[]⟩) ::
(nat_lit 297,⟨.type "tuple",none,(.seq #[] 0),#[]⟩) ::
(nat_lit 299,oC "_law_draw" "_law_draw" 588 589 590 164 2 294 295 (.ref 296) (.ref 297) 298 594 595) ::
(nat_lit 300,oF "_law_draw" (Pr.top 46) u3_ 299) ::
(nat_lit 301,⟨.type "tuple",none,(.seq #[] 0),#[]⟩) ::
(nat_lit 303,⟨.type "tuple",none,(.seq #[.str "_law_purse_here" 600,.str "_law_may" 601] 0),#[]⟩) ::
(nat_lit 304,⟨.type "tuple",none,(.seq #[] 0),#[]⟩) ::
(nat_lit 306,oC "_law_quarter" "_law_quarter" 597 598 599 171 2 301 302 (.ref 303) (.ref 304) 305 602 603) ::
(nat_lit 307,oF "_law_quarter" (Pr.top 47) u3_ 306) ::
(nat_lit 308,⟨.type "tuple",none,(.seq #[] 0),#[]⟩) ::
(nat_lit 311,oC "_law_depths" "_law_depths" 605 606 607 175 1 308 309 .none .none 310 608 609) ::
(nat_lit 312,oF "_law_depths" (Pr.top 48) u3_ 311) ::
(nat_lit 313,⟨.type "tuple",none,(.seq #[] 0),#[]⟩) ::
(nat_lit 316,oC "_law_rows" "_law_rows" 611 612 613 180 4 313 314 .none .none 315 614 615) ::
(nat_lit 317,oF "_law_rows" (Pr.top 49) u3_ 316) ::
(nat_lit 318,⟨.type "tuple",none,(.seq #[] 0),#[]⟩) ::
(nat_lit 320,⟨.type "tuple",none,(.seq #[.str "_law_number" 620,.str "_law_kept" 621,.str "_law_found" 622,.str "_law_quarter_here" 623] 0),#[]⟩) ::
(nat_lit 321,⟨.type "tuple",none,(.seq #[] 0),#[]⟩) ::
(nat_lit 323,oC "_law_ends" "_law_ends" 617 618 619 187 3 318 319 (.ref 320) (.ref 321) 322 624 625) ::
(nat_lit 324,oF "_law_ends" (Pr.top 50) u3_ 323) ::
(nat_lit 325,⟨.type "tuple",none,(.seq #[] 0),#[]⟩) ::
(nat_lit 328,oC "_law_shape" "_law_shape" 627 628 629 192 3 325 326 .none .none 327 630 631) ::
(nat_lit 329,oF "_law_shape" (Pr.top 51) u3_ 328) ::
(nat_lit 330,⟨.type "tuple",none,(.seq #[] 0),#[]⟩) ::
(nat_lit 332,⟨.type "tuple",none,(.seq #[.str "_law_purse_here" 636,.str "_law_n" 637,.str "_law_rows_here" 638,.str "_law_top" 639] 0),#[]⟩) ::
(nat_lit 333,⟨.type "tuple",none,(.seq #[] 0),#[]⟩) ::
(nat_lit 335,oC "_law_drawn" "_law_drawn" 633 634 635 205 3 330 331 (.ref 332) (.ref 333) 334 640 641) ::
(nat_lit 336,oF "_law_drawn" (Pr.top 52) u3_ 335) ::
(nat_lit 337,⟨.type "tuple",none,(.seq #[] 0),#[]⟩) ::
(nat_lit 339,⟨.type "tuple",none,(.seq #[.str "_law_purse_here" 646,.str "_law_n" 647,.str "_law_most" 648,.str "_law_rows_here" 649,.str "_law_one" 650,.str "_law_more" 651] 0),#[]⟩) ::
(nat_lit 340,⟨.type "tuple",none,(.seq #[] 0),#[]⟩) ::
(nat_lit 342,oC "_law_two" "_law_two" 643 644 645 208 3 337 338 (.ref 339) (.ref 340) 341 652 653) ::
(nat_lit 343,oF "_law_two" (Pr.top 53) u3_ 342) ::
(nat_lit 344,⟨.type "tuple",none,(.seq #[] 0),#[]⟩) ::
(nat_lit 346,⟨.type "tuple",none,(.seq #[.str "_law_one" 658,.str "_law_other" 659,.str "_law_waiting" 660,.str "_law_found" 661,.str "_law_two_here" 662,.str "_law_quarter_here" 663] 0),#[]⟩) ::
(nat_lit 347,⟨.type "tuple",none,(.seq #[] 0),#[]⟩) ::
(nat_lit 349,oC "_law_count" "_law_count" 655 656 657 213 2 344 345 (.ref 346) (.ref 347) 348 664 665) ::
(nat_lit 350,oF "_law_count" (Pr.top 54) u3_ 349) ::
(nat_lit 351,⟨.type "tuple",none,(.seq #[] 0),#[]⟩) ::
(nat_lit 354,oC "_law_beside" "_law_beside" 667 668 669 223 3 351 352 .none .none 353 670 671) ::
(nat_lit 355,oF "_law_beside" (Pr.top 55) u3_ 354) ::
(nat_lit 356,⟨.type "tuple",none,(.seq #[] 0),#[]⟩) ::
(nat_lit 358,⟨.type "tuple",none,(.seq #[.str "_law_found" 676,.str "_law_due" 677] 0),#[]⟩) ::
(nat_lit 359,⟨.type "tuple",none,(.seq #[] 0),#[]⟩) ::
(nat_lit 361,oC "_law_is_number" "_law_is_number" 673 674 675 228 2 356 357 (.ref 358) (.ref 359) 360 678 679) ::
(nat_lit 362,oF "_law_is_number" (Pr.top 56) u3_ 361) ::
(nat_lit 363,⟨.type "tuple",none,(.seq #[] 0),#[]⟩) ::
(nat_lit 365,⟨.type "tuple",none,(.seq #[.str "_law_one" 684,.str "_law_other" 685,.str "_law_many" 686,.str "_law_rows_here" 687,.str "_law_found" 688] 0),#[]⟩) ::
(nat_lit 366,⟨.type "tuple",none,(.seq #[] 0),#[]⟩) ::
(nat_lit 368,oC "_law_two_right" "_law_two_right" 681 682 683 230 2 363 364 (.ref 365) (.ref 366) 367 689 690) ::
(nat_lit 369,oF "_law_two_right" (Pr.top 57) u3_ 368) ::
(nat_lit 370,⟨.type "tuple",none,(.seq #[] 0),#[]⟩) ::
(nat_lit 372,⟨.type "tuple",none,(.seq #[.str "_law_script" 695,.str "_law_k" 696,.str "_law_purse_here" 697,.str "_law_n" 698,.str "_law_one" 699,.str "_law_other" 700,.str "_law_high" 701,.str "_law_mask" 702] 0),#[]⟩) ::
(nat_lit 373,⟨.type "tuple",none,(.seq #[] 0),#[]⟩) ::
(nat_lit 375,oC "law" "law" 692 693 694 241 1 370 371 (.ref 372) (.ref 373) 374 703 704) ::
(nat_lit 376,oF "law" (Pr.top 58) u3_ 375)::[]
def as0:List Addr:=[2,3,15,22,23,24,25,28,35,36,37,40,47,48,49,52,54,55,57,58,59,61,62,64,65,66,69,70,71,73,74,76,77,78,80,81,83,84,85,88,89,90,92,93,95,96,104,106,107,109,110,111,113,114,116,117,118,120,121,123,124,125,126,127,128,129,132,134,135,137,138,139,141,142,144,145,146,149,150,151,154,155,156,158,159,161,162,163,166,167,168,170,171,173,174,175,177,178,180,181,182,183,184,185,186,188,189,191,192,193,196,197,198,200,201,203,204,205,207,208,210,211,219,221,222,224,225,226,229,230,231,232,233,234,235,238,240,241,243,244,245,247,248,250,251,252,254,255,257,258,259,261,262,264,265,266,268,269,271,272,273,275,276,278,279,280,282,283,285,286,287,289,290,292,293,294,296,297,299,300,301,303,304,306,307,308,311,312,313,316,317,318,320,321,323,324,325,328,329,330,332,333,335,336,337,339,340,342,343,344,346,347,349,350,351,354,355,356,358,359,361,362,363,365,366,368,369,370,372,373,375,376]
def keep0:List Nat:=[1,2,3,5,6,7,8,9,10,11,12,13,14,15,17,18,20,21,22,23,24,25,26,28,29,30,31,32,33,34,35,36,37,38,39,40,41,42,43,45,46,47,48,49,50,51,52,53,54,55,56,57,58]
def N0:Nat:=5132
noncomputable def bx (P:Params) (a t l:Nat) (x:Str):List Obj:=[⟨.type "tuple",none,(.seq #[.ref 24] 0),#[]⟩,
⟨.type "builtin_function_or_method",none,(.fields #[.builtin "type.__prepare__",.type "type"]),#[]⟩,
⟨.type "dict",none,(.dict #[⟨kh P "__module__",.str "__module__" (t+7),.str "quarterfold.errors" 187⟩,⟨kh P "__qualname__",.str "__qualname__" (t+9),.str x (t+8)⟩,⟨kh P "__firstlineno__",.str "__firstlineno__" (t+11),.int l (t+10)⟩,⟨kh P "__static_attributes__",.str "__static_attributes__" (t+12),.ref (a+7)⟩] 4),#[]⟩,
⟨.type "tuple",none,(.seq #[] 0),#[]⟩,
⟨.none,none,(.fields #[]),#[]⟩,
⟨.type "code",none,(.fields #[.str x (t+2),.str x (t+3),.str "/claim/cut.py" (t+4),.int l 0,.int 0 0,.int 0 0,.int 0 0,.int 0 0,.ref (a+3),.bool false,.int 181 0,.ref (a+4),.none,.none,.none,.none,.int (t+5) 0,.int l 0,.str "/claim/cut.py" (t+6)]),#[]⟩,
⟨.type "frame",none,.plain,#[some (.ref (a+5)),some (.ref 3),some (.ref (a+2)),none,some (.str "quarterfold.errors" 187),none,some (.ref 0)]⟩,
⟨.type "tuple",none,(.seq #[] 0),#[]⟩,
⟨.type "dict",none,(.dict #[⟨kh P "__module__",.str "__module__" (t+7),.str "quarterfold.errors" 187⟩,⟨kh P "__firstlineno__",.str "__firstlineno__" (t+11),.int l (t+10)⟩,⟨kh P "__static_attributes__",.str "__static_attributes__" (t+12),.ref (a+7)⟩,⟨kh P "__doc__",.str "__doc__" (t+13),.none⟩] 2),#[]⟩,
⟨.type "type",none,(.cls ⟨x,[.ref 24],[.ref (a+9),.ref 24,.type "ValueError",.type "Exception",.type "BaseException",.type "object"],(a+8),x,true,[],[],false,none,false⟩),#[some (.ref a),none,some (.str x t),some (.str x (t+8)),some (.builtin "ValueError.__new__"),some (.bool true)]⟩,
⟨.type "super",none,(.fields #[.ref (a+9),.ref (a+9),.ref (a+9)]),#[]⟩,
⟨.type "builtin_function_or_method",none,(.fields #[.builtin "object.__init_subclass__",.ref (a+9)]),#[]⟩]
noncomputable def ob (P:Params):List Obj:=[boot_o_0 P,boot_o_1 P,boot_o_2 P,⟨.type "dict",none,(.dict #[⟨kh P "__name__",.str "__name__" 165,.str "quarterfold.deeds" 415⟩,⟨kh P "__doc__",.str "__doc__" 166,.none⟩,⟨kh P "__package__",.str "__package__" 167,.none⟩,⟨kh P "__loader__",.str "__loader__" 168,.builtin "__main__.__loader__#opaque"⟩,⟨kh P "__spec__",.str "__spec__" 169,.none⟩,⟨kh P "__annotations__",.str "__annotations__" 170,.ref 6⟩,⟨kh P "__builtins__",.str "__builtins__" 171,.ref 4⟩,⟨kh P "__file__",.str "__file__" 173,.str "/claim/cut.py" 172⟩,⟨kh P "__cached__",.str "__cached__" 174,.none⟩,⟨kh P "FloorError",.str "FloorError" 206,.ref 24⟩,⟨kh P "NoShape",.str "NoShape" 222,.ref 37⟩,⟨kh P "OtherFloor",.str "OtherFloor" 238,.ref 49⟩,⟨kh P "EMPTY",.str "EMPTY" 242,.int 0 241⟩,⟨kh P "FULL",.str "FULL" 244,.int 1 243⟩,⟨kh P "FIRST",.str "FIRST" 246,.int 2 245⟩,⟨kh P "is_whole",.str "is_whole" 253,.ref 58⟩,⟨kh P "is_plain",.str "is_plain" 260,.ref 65⟩,⟨kh P "depths_of",.str "depths_of" 266,.ref 70⟩,⟨kh P "end_rows",.str "end_rows" 276,.ref 77⟩,⟨kh P "places_as_ended",.str "places_as_ended" 285,.ref 84⟩,⟨kh P "renumbered",.str "renumbered" 291,.ref 89⟩,⟨kh P "shape_of",.str "shape_of" 303,.ref 96⟩,⟨kh P "Book",.str "Book" 350,.ref 127⟩,⟨kh P "GREATEST_SIZE",.str "GREATEST_SIZE" 354,.int 12 353⟩,⟨kh P "is_size",.str "is_size" 361,.ref 138⟩,⟨kh P "is_number",.str "is_number" 371,.ref 145⟩,⟨kh P "is_row",.str "is_row" 377,.ref 150⟩,⟨kh P "are_rows",.str "are_rows" 383,.ref 155⟩,⟨kh P "is_telling",.str "is_telling" 393,.ref 162⟩,⟨kh P "is_shape",.str "is_shape" 399,.ref 167⟩,⟨kh P "want_shape",.str "want_shape" 406,.ref 174⟩,⟨kh P "want_one_floor",.str "want_one_floor" 414,.ref 181⟩,⟨kh P "JOINED",.str "JOINED" 421,.ref 182⟩,⟨kh P "CUT",.str "CUT" 426,.ref 183⟩,⟨kh P "WITHOUT",.str "WITHOUT" 431,.ref 184⟩,⟨kh P "UNLIKE",.str "UNLIKE" 436,.ref 185⟩,⟨kh P "exchanged",.str "exchanged" 443,.ref 192⟩,⟨kh P "exchanged_rows",.str "exchanged_rows" 449,.ref 197⟩,⟨kh P "both_ways",.str "both_ways" 458,.ref 204⟩,⟨kh P "number_beside_plain",.str "number_beside_plain" 467,.ref 211⟩,⟨kh P "Deed",.str "Deed" 510,.ref 233⟩] 41),#[]⟩,boot_o_4 P,boot_o_5 P,boot_o_6 P,boot_o_7 P,boot_o_8 P,boot_o_9 P,boot_o_10 P,⟨.type "tuple",none,(.seq #[] 0),#[]⟩,⟨.none,none,(.fields #[.int 2 0,.int 0 0,.ref 20,.int 4 0,.int 0 0,.ref 33,.int 6 0,.int 0 0,.ref 45,.int 12 0,.int 0 0,.ref 57,.int 14 0,.int 0 0,.ref 64,.int 16 0,.int 0 0,.ref 69,.int 21 0,.int 0 0,.ref 76,.int 27 0,.int 0 0,.ref 83,.int 31 0,.int 0 0,.ref 88,.int 33 0,.int 0 0,.ref 95,.int 40 0,.int 0 0,.ref 102,.int 61 0,.int 0 0,.ref 137,.int 64 0,.int 0 0,.ref 144,.int 66 0,.int 0 0,.ref 149,.int 70 0,.int 0 0,.ref 154,.int 72 0,.int 0 0,.ref 161,.int 79 0,.int 0 0,.ref 166,.int 86 0,.int 0 0,.ref 173,.int 89 0,.int 0 0,.ref 180,.int 99 0,.int 0 0,.ref 191,.int 103 0,.int 0 0,.ref 196,.int 105 0,.int 0 0,.ref 203,.int 108 0,.int 0 0,.ref 210,.int 112 0,.int 0 0,.ref 217]),#[]⟩,⟨.type "code",none,(.fields #[.str "<module>" 182,.str "<module>" 183,.str "/claim/cut.py" 184,.int 1 0,.int 0 0,.int 0 0,.int 0 0,.int 0 0,.ref 11,.bool false,.int 181 0,.ref 12,.none,.none,.none,.none,.int 185 0,.int 1 0,.str "/claim/cut.py" 186]),#[]⟩,⟨.type "frame",none,.plain,#[some (.ref 13),some (.ref 3),some (.ref 3),none,some (.str "__main__" 164),none,some (.ref 0)]⟩,⟨.type "tuple",none,(.seq #[.type "ValueError"] 0),#[]⟩,⟨.type "builtin_function_or_method",none,(.fields #[.builtin "type.__prepare__",.type "type"]),#[]⟩,⟨.type "dict",none,(.dict #[⟨kh P "__module__",.str "__module__" 196,.str "quarterfold.errors" 187⟩,⟨kh P "__qualname__",.str "__qualname__" 198,.str "FloorError" 197⟩,⟨kh P "__firstlineno__",.str "__firstlineno__" 200,.int 2 199⟩,⟨kh P "__static_attributes__",.str "__static_attributes__" 201,.ref 22⟩] 4),#[]⟩,⟨.type "tuple",none,(.seq #[] 0),#[]⟩,⟨.none,none,(.fields #[]),#[]⟩,⟨.type "code",none,(.fields #[.str "FloorError" 191,.str "FloorError" 192,.str "/claim/cut.py" 193,.int 2 0,.int 0 0,.int 0 0,.int 0 0,.int 0 0,.ref 18,.bool false,.int 181 0,.ref 19,.none,.none,.none,.none,.int 194 0,.int 2 0,.str "/claim/cut.py" 195]),#[]⟩,⟨.type "frame",none,.plain,#[some (.ref 20),some (.ref 3),some (.ref 17),none,some (.str "quarterfold.errors" 187),none,some (.ref 0)]⟩,⟨.type "tuple",none,(.seq #[] 0),#[]⟩,⟨.type "dict",none,(.dict #[⟨kh P "__module__",.str "__module__" 196,.str "quarterfold.errors" 187⟩,⟨kh P "__firstlineno__",.str "__firstlineno__" 200,.int 2 199⟩,⟨kh P "__static_attributes__",.str "__static_attributes__" 201,.ref 22⟩,⟨kh P "__weakref__",.str "__weakref__" 203,.ref 25⟩,⟨kh P "__doc__",.str "__doc__" 204,.none⟩] 3),#[]⟩,⟨.type "type",none,(.cls ⟨"FloorError",[.type "ValueError"],[.ref 24,.type "ValueError",.type "Exception",.type "BaseException",.type "object"],23, "FloorError",true,[],[.ref 37,.ref 49],false,none,false⟩),#[some (.ref 15),none,some (.str "FloorError" 189),some (.str "FloorError" 197),some (.builtin "ValueError.__new__"),some (.bool true)]⟩,⟨.type "getset_descriptor",none,(.fields #[.str "__weakref__" 202,.ref 24,.builtin "ExceptionGroup.__weakref__",.none]),#[]⟩,⟨.type "super",none,(.fields #[.ref 24,.ref 24,.ref 24]),#[]⟩,⟨.type "builtin_function_or_method",none,(.fields #[.builtin "object.__init_subclass__",.ref 24]),#[]⟩]++(bx P 28 207 4 "NoShape" ++ (bx P 40 223 6 "OtherFloor" ++ ([⟨.type "tuple",none,(.seq #[] 0),#[]⟩,⟨.none,none,(.fields #[]),#[]⟩,⟨.type "tuple",none,(.seq #[.str "thing" 250] 0),#[]⟩,⟨.type "tuple",none,(.seq #[] 0),#[]⟩,oT "is_whole" "is_whole" (Pr.top 8),oC "is_whole" "is_whole" 247 248 249 12 1 52 53 (.ref 54) (.ref 55) 56 251 252,oF "is_whole" (Pr.top 8) u0_ 57,⟨.type "tuple",none,(.seq #[] 0),#[]⟩,⟨.none,none,(.fields #[]),#[]⟩,⟨.type "tuple",none,(.seq #[.str "row" 257] 0),#[]⟩,⟨.type "tuple",none,(.seq #[] 0),#[]⟩,oT "is_plain" "is_plain" (Pr.top 9),oC "is_plain" "is_plain" 254 255 256 14 1 59 60 (.ref 61) (.ref 62) 63 258 259,oF "is_plain" (Pr.top 9) u0_ 64,⟨.type "tuple",none,(.seq #[] 0),#[]⟩,⟨.none,none,(.fields #[]),#[]⟩,oT "depths_of" "depths_of" (Pr.top 10),oC "depths_of" "depths_of" 261 262 263 16 1 66 67 .none .none 68 264 265,oF "depths_of" (Pr.top 10) u0_ 69,⟨.type "tuple",none,(.seq #[] 0),#[]⟩,⟨.none,none,(.fields #[]),#[]⟩,⟨.type "tuple",none,(.seq #[.str "rows" 270,.str "number" 271,.str "ended" 272,.str "quarter" 273] 0),#[]⟩,⟨.type "tuple",none,(.seq #[] 0),#[]⟩,oT "end_rows" "end_rows" (Pr.top 11),oC "end_rows" "end_rows" 267 268 269 21 3 71 72 (.ref 73) (.ref 74) 75 274 275,oF "end_rows" (Pr.top 11) u0_ 76,⟨.type "tuple",none,(.seq #[] 0),#[]⟩,⟨.none,none,(.fields #[]),#[]⟩,⟨.type "tuple",none,(.seq #[.str "rows" 280,.str "top" 281,.str "ended" 282] 0),#[]⟩,⟨.type "tuple",none,(.seq #[] 0),#[]⟩,oT "places_as_ended" "places_as_ended" (Pr.top 12),oC "places_as_ended" "places_as_ended" 277 278 279 27 2 78 79 (.ref 80) (.ref 81) 82 283 284,oF "places_as_ended" (Pr.top 12) u0_ 83,⟨.type "tuple",none,(.seq #[] 0),#[]⟩,⟨.none,none,(.fields #[]),#[]⟩,oT "renumbered" "renumbered" (Pr.top 13),oC "renumbered" "renumbered" 286 287 288 31 2 85 86 .none .none 87 289 290,oF "renumbered" (Pr.top 13) u0_ 88,⟨.type "tuple",none,(.seq #[] 0),#[]⟩,⟨.none,none,(.fields #[]),#[]⟩,⟨.type "tuple",none,(.seq #[.str "n" 295,.str "top" 296,.str "rows" 297,.str "numbers" 298,.str "told" 299,.str "place" 300] 0),#[]⟩,⟨.type "tuple",none,(.seq #[] 0),#[]⟩,oT "shape_of" "shape_of" (Pr.top 14),oC "shape_of" "shape_of" 292 293 294 33 3 90 91 (.ref 92) (.ref 93) 94 301 302,oF "shape_of" (Pr.top 14) u0_ 95,⟨.type "tuple",none,(.seq #[] 0),#[]⟩,⟨.type "builtin_function_or_method",none,(.fields #[.builtin "type.__prepare__",.type "type"]),#[]⟩,⟨.type "dict",none,(.dict #[⟨kh P "__module__",.str "__module__" 311,.str "quarterfold.rows" 239⟩,⟨kh P "__qualname__",.str "__qualname__" 313,.str "Book" 312⟩,⟨kh P "__firstlineno__",.str "__firstlineno__" 315,.int 40 314⟩,⟨kh P "__init__",.str "__init__" 322,.ref 110⟩,⟨kh P "number_for",.str "number_for" 330,.ref 117⟩,⟨kh P "numbers_for",.str "numbers_for" 340,.ref 124⟩,⟨kh P "__static_attributes__",.str "__static_attributes__" 343,.ref 125⟩] 7),#[]⟩,⟨.type "tuple",none,(.seq #[] 0),#[]⟩,⟨.none,none,(.fields #[.int 42 0,.int 4 0,.ref 109,.int 46 0,.int 4 0,.ref 116,.int 54 0,.int 4 0,.ref 123]),#[]⟩,⟨.type "code",none,(.fields #[.str "Book" 306,.str "Book" 307,.str "/claim/cut.py" 308,.int 40 0,.int 0 0,.int 0 0,.int 0 0,.int 0 0,.ref 100,.bool false,.int 181 0,.ref 101,.none,.none,.none,.none,.int 309 0,.int 40 0,.str "/claim/cut.py" 310]),#[]⟩,⟨.type "frame",none,.plain,#[some (.ref 102),some (.ref 3),some (.ref 99),none,some u0_,none,some (.ref 0)]⟩,⟨.type "tuple",none,(.seq #[] 0),#[]⟩,⟨.none,none,(.fields #[]),#[]⟩,⟨.type "tuple",none,(.seq #[.str "self" 319] 0),#[]⟩,⟨.type "tuple",none,(.seq #[] 0),#[]⟩,oT "__init__" "Book.__init__" (L2.inClass (Pr.top 15) 0),oC "__init__" "Book.__init__" 316 317 318 42 1 104 105 (.ref 106) (.ref 107) 108 320 321,oM "__init__" "Book.__init__" (L2.inClass (Pr.top 15) 0) u0_ 109,⟨.type "tuple",none,(.seq #[] 0),#[]⟩,⟨.none,none,(.fields #[]),#[]⟩,⟨.type "tuple",none,(.seq #[.str "self" 326,.str "row" 327] 0),#[]⟩,⟨.type "tuple",none,(.seq #[] 0),#[]⟩,oT "number_for" "Book.number_for" (L2.inClass (Pr.top 15) 1),oC "number_for" "Book.number_for" 323 324 325 46 2 111 112 (.ref 113) (.ref 114) 115 328 329,oM "number_for" "Book.number_for" (L2.inClass (Pr.top 15) 1) u0_ 116,⟨.type "tuple",none,(.seq #[] 0),#[]⟩,⟨.none,none,(.fields #[]),#[]⟩,⟨.type "tuple",none,(.seq #[.str "self" 334,.str "rows" 335,.str "numbers" 336,.str "row" 337] 0),#[]⟩,⟨.type "tuple",none,(.seq #[] 0),#[]⟩,oT "numbers_for" "Book.numbers_for" (L2.inClass (Pr.top 15) 2),oC "numbers_for" "Book.numbers_for" 331 332 333 54 2 118 119 (.ref 120) (.ref 121) 122 338 339,oM "numbers_for" "Book.numbers_for" (L2.inClass (Pr.top 15) 2) u0_ 123,⟨.type "tuple",none,(.seq #[.str "kept" 341,.str "numbers" 342] 0),#[]⟩,⟨.type "dict",none,(.dict #[⟨kh P "__module__",.str "__module__" 311,.str "quarterfold.rows" 239⟩,⟨kh P "__firstlineno__",.str "__firstlineno__" 315,.int 40 314⟩,⟨kh P "__init__",.str "__init__" 322,.ref 110⟩,⟨kh P "number_for",.str "number_for" 330,.ref 117⟩,⟨kh P "numbers_for",.str "numbers_for" 340,.ref 124⟩,⟨kh P "__static_attributes__",.str "__static_attributes__" 343,.ref 125⟩,⟨kh P "__dict__",.str "__dict__" 345,.ref 128⟩,⟨kh P "__weakref__",.str "__weakref__" 347,.ref 129⟩,⟨kh P "__doc__",.str "__doc__" 348,.none⟩] 4),#[]⟩,⟨.type "type",none,(.cls ⟨"Book",[.type "object"],[.ref 127,.type "object"],126, "Book",true,[],[],false,none,false⟩),#[none,none,some (.str "Book" 304),some (.str "Book" 312),some (.builtin "object.__new__"),some (.bool true)]⟩,⟨.type "getset_descriptor",none,(.fields #[.str "__dict__" 344,.ref 127,.builtin "function.__dict__",.builtin "function.__dict__#set"]),#[]⟩,⟨.type "getset_descriptor",none,(.fields #[.str "__weakref__" 346,.ref 127,.builtin "ExceptionGroup.__weakref__",.none]),#[]⟩,⟨.type "super",none,(.fields #[.ref 127,.ref 127,.ref 127]),#[]⟩,⟨.type "builtin_function_or_method",none,(.fields #[.builtin "object.__init_subclass__",.ref 127]),#[]⟩,⟨.type "tuple",none,(.seq #[] 0),#[]⟩,⟨.none,none,(.fields #[]),#[]⟩,⟨.type "tuple",none,(.seq #[.str "thing" 358] 0),#[]⟩,⟨.type "tuple",none,(.seq #[] 0),#[]⟩,oT "is_size" "is_size" (Pr.top 18),oC "is_size" "is_size" 355 356 357 61 1 132 133 (.ref 134) (.ref 135) 136 359 360,oF "is_size" (Pr.top 18) (.str "quarterfold.floors" 351) 137,⟨.type "tuple",none,(.seq #[] 0),#[]⟩,⟨.none,none,(.fields #[]),#[]⟩,⟨.type "tuple",none,(.seq #[.str "thing" 367,.str "many" 368] 0),#[]⟩,⟨.type "tuple",none,(.seq #[] 0),#[]⟩,oT "is_number" "is_number" (Pr.top 20),oC "is_number" "is_number" 364 365 366 64 2 139 140 (.ref 141) (.ref 142) 143 369 370,oF "is_number" (Pr.top 20) u2_ 144,⟨.type "tuple",none,(.seq #[] 0),#[]⟩,⟨.none,none,(.fields #[]),#[]⟩,oT "is_row" "is_row" (Pr.top 21),oC "is_row" "is_row" 372 373 374 66 2 146 147 .none .none 148 375 376,oF "is_row" (Pr.top 21) u2_ 149,⟨.type "tuple",none,(.seq #[] 0),#[]⟩,⟨.none,none,(.fields #[]),#[]⟩,oT "are_rows" "are_rows" (Pr.top 22),oC "are_rows" "are_rows" 378 379 380 70 1 151 152 .none .none 153 381 382,oF "are_rows" (Pr.top 22) u2_ 154,⟨.type "tuple",none,(.seq #[] 0),#[]⟩,⟨.none,none,(.fields #[]),#[]⟩,⟨.type "tuple",none,(.seq #[.str "thing" 387,.str "n" 388,.str "top" 389,.str "rows" 390] 0),#[]⟩,⟨.type "tuple",none,(.seq #[] 0),#[]⟩,oT "is_telling" "is_telling" (Pr.top 23),oC "is_telling" "is_telling" 384 385 386 72 1 156 157 (.ref 158) (.ref 159) 160 391 392,oF "is_telling" (Pr.top 23) u2_ 161,⟨.type "tuple",none,(.seq #[] 0),#[]⟩,⟨.none,none,(.fields #[]),#[]⟩,oT "is_shape" "is_shape" (Pr.top 24),oC "is_shape" "is_shape" 394 395 396 79 1 163 164 .none .none 165 397 398,oF "is_shape" (Pr.top 24) u2_ 166,⟨.type "tuple",none,(.seq #[] 0),#[]⟩,⟨.none,none,(.fields #[]),#[]⟩,⟨.type "tuple",none,(.seq #[.str "shape" 403] 0),#[]⟩,⟨.type "tuple",none,(.seq #[] 0),#[]⟩,oT "want_shape" "want_shape" (Pr.top 25),oC "want_shape" "want_shape" 400 401 402 86 1 168 169 (.ref 170) (.ref 171) 172 404 405,oF "want_shape" (Pr.top 25) u2_ 173,⟨.type "tuple",none,(.seq #[] 0),#[]⟩,⟨.none,none,(.fields #[]),#[]⟩,⟨.type "tuple",none,(.seq #[.str "one" 410,.str "other" 411] 0),#[]⟩,⟨.type "tuple",none,(.seq #[] 0),#[]⟩,oT "want_one_floor" "want_one_floor" (Pr.top 26),oC "want_one_floor" "want_one_floor" 407 408 409 89 2 175 176 (.ref 177) (.ref 178) 179 412 413,oF "want_one_floor" (Pr.top 26) u2_ 180,⟨.type "tuple",none,(.seq #[.int 0 417,.int 1 418,.int 1 419,.int 1 420] 0),#[]⟩,⟨.type "tuple",none,(.seq #[.int 0 422,.int 0 423,.int 0 424,.int 1 425] 0),#[]⟩,⟨.type "tuple",none,(.seq #[.int 0 427,.int 0 428,.int 1 429,.int 0 430] 0),#[]⟩,⟨.type "tuple",none,(.seq #[.int 0 432,.int 1 433,.int 1 434,.int 0 435] 0),#[]⟩,⟨.type "tuple",none,(.seq #[] 0),#[]⟩,⟨.none,none,(.fields #[]),#[]⟩,⟨.type "tuple",none,(.seq #[.str "number" 440] 0),#[]⟩,⟨.type "tuple",none,(.seq #[] 0),#[]⟩,oT "exchanged" "exchanged" (Pr.top 32),oC "exchanged" "exchanged" 437 438 439 99 1 186 187 (.ref 188) (.ref 189) 190 441 442,oF "exchanged" (Pr.top 32) u1_ 191,⟨.type "tuple",none,(.seq #[] 0),#[]⟩,⟨.none,none,(.fields #[]),#[]⟩,oT "exchanged_rows" "exchanged_rows" (Pr.top 33),oC "exchanged_rows" "exchanged_rows" 444 445 446 103 1 193 194 .none .none 195 447 448,oF "exchanged_rows" (Pr.top 33) u1_ 196,⟨.type "tuple",none,(.seq #[] 0),#[]⟩,⟨.none,none,(.fields #[]),#[]⟩,⟨.type "tuple",none,(.seq #[.str "book" 453,.str "rows" 454,.str "left" 455] 0),#[]⟩,⟨.type "tuple",none,(.seq #[] 0),#[]⟩,oT "both_ways" "both_ways" (Pr.top 34),oC "both_ways" "both_ways" 450 451 452 105 2 198 199 (.ref 200) (.ref 201) 202 456 457,oF "both_ways" (Pr.top 34) u1_ 203,⟨.type "tuple",none,(.seq #[] 0),#[]⟩,⟨.none,none,(.fields #[]),#[]⟩,⟨.type "tuple",none,(.seq #[.str "ways" 462,.str "number" 463,.str "outcomes" 464] 0),#[]⟩,⟨.type "tuple",none,(.seq #[] 0),#[]⟩,oT "number_beside_plain" "number_beside_plain" (Pr.top 35),oC "number_beside_plain" "number_beside_plain" 459 460 461 108 3 205 206 (.ref 207) (.ref 208) 209 465 466,oF "number_beside_plain" (Pr.top 35) u1_ 210,⟨.type "tuple",none,(.seq #[] 0),#[]⟩,⟨.type "builtin_function_or_method",none,(.fields #[.builtin "type.__prepare__",.type "type"]),#[]⟩,⟨.type "dict",none,(.dict #[⟨kh P "__module__",.str "__module__" 475,.str "quarterfold.deeds" 415⟩,⟨kh P "__qualname__",.str "__qualname__" 477,.str "Deed" 476⟩,⟨kh P "__firstlineno__",.str "__firstlineno__" 479,.int 112 478⟩,⟨kh P "__init__",.str "__init__" 489,.ref 225⟩,⟨kh P "number_for_pair",.str "number_for_pair" 495,.ref 230⟩,⟨kh P "__static_attributes__",.str "__static_attributes__" 503,.ref 231⟩] 6),#[]⟩,⟨.type "tuple",none,(.seq #[] 0),#[]⟩,⟨.none,none,(.fields #[.int 114 0,.int 4 0,.ref 224,.int 123 0,.int 4 0,.ref 229]),#[]⟩,⟨.type "code",none,(.fields #[.str "Deed" 470,.str "Deed" 471,.str "/claim/cut.py" 472,.int 112 0,.int 0 0,.int 0 0,.int 0 0,.int 0 0,.ref 215,.bool false,.int 181 0,.ref 216,.none,.none,.none,.none,.int 473 0,.int 112 0,.str "/claim/cut.py" 474]),#[]⟩,⟨.type "frame",none,.plain,#[some (.ref 217),some (.ref 3),some (.ref 214),none,some u1_,none,some (.ref 0)]⟩,⟨.type "tuple",none,(.seq #[] 0),#[]⟩,⟨.none,none,(.fields #[]),#[]⟩,⟨.type "tuple",none,(.seq #[.str "self" 483,.str "rows" 484,.str "other_rows" 485,.str "outcomes" 486] 0),#[]⟩,⟨.type "tuple",none,(.seq #[] 0),#[]⟩,oT "__init__" "Deed.__init__" (L2.inClass (Pr.top 36) 0),oC "__init__" "Deed.__init__" 480 481 482 114 4 219 220 (.ref 221) (.ref 222) 223 487 488,oM "__init__" "Deed.__init__" (L2.inClass (Pr.top 36) 0) u1_ 224,⟨.type "tuple",none,(.seq #[] 0),#[]⟩,⟨.none,none,(.fields #[]),#[]⟩,oT "number_for_pair" "Deed.number_for_pair" (L2.inClass (Pr.top 36) 1),oC "number_for_pair" "Deed.number_for_pair" 490 491 492 123 3 226 227 .none .none 228 493 494,oM "number_for_pair" "Deed.number_for_pair" (L2.inClass (Pr.top 36) 1) u1_ 229,⟨.type "tuple",none,(.seq #[.str "book" 496,.str "known" 497,.str "other_rows" 498,.str "other_ways" 499,.str "outcomes" 500,.str "rows" 501,.str "ways" 502] 0),#[]⟩,⟨.type "dict",none,(.dict #[⟨kh P "__module__",.str "__module__" 475,.str "quarterfold.deeds" 415⟩,⟨kh P "__firstlineno__",.str "__firstlineno__" 479,.int 112 478⟩,⟨kh P "__init__",.str "__init__" 489,.ref 225⟩,⟨kh P "number_for_pair",.str "number_for_pair" 495,.ref 230⟩,⟨kh P "__static_attributes__",.str "__static_attributes__" 503,.ref 231⟩,⟨kh P "__dict__",.str "__dict__" 505,.ref 234⟩,⟨kh P "__weakref__",.str "__weakref__" 507,.ref 235⟩,⟨kh P "__doc__",.str "__doc__" 508,.none⟩] 4),#[]⟩,⟨.type "type",none,(.cls ⟨"Deed",[.type "object"],[.ref 233,.type "object"],232, "Deed",true,[],[],false,none,false⟩),#[none,none,some (.str "Deed" 468),some (.str "Deed" 476),some (.builtin "object.__new__"),some (.bool true)]⟩,⟨.type "getset_descriptor",none,(.fields #[.str "__dict__" 504,.ref 233,.builtin "function.__dict__",.builtin "function.__dict__#set"]),#[]⟩,⟨.type "getset_descriptor",none,(.fields #[.str "__weakref__" 506,.ref 233,.builtin "ExceptionGroup.__weakref__",.none]),#[]⟩,⟨.type "super",none,(.fields #[.ref 233,.ref 233,.ref 233]),#[]⟩,⟨.type "builtin_function_or_method",none,(.fields #[.builtin "object.__init_subclass__",.ref 233]),#[]⟩])))
noncomputable def hA (P:Params):Heap:=⟨⟨((((ob P).take 15).set 3 (boot_o_3 P)).set 12 (⟨.none,none,(.fields #[]),#[]⟩))⟩,(boot_heap P).life⟩
noncomputable def h1 (P:Params):Heap:=⟨⟨((((ob P).take 132).set 3 (⟨.type "dict",none,(.dict #[⟨kh P "__name__",.str "__name__" 165,.str "quarterfold.rows" 239⟩,⟨kh P "__doc__",.str "__doc__" 166,.none⟩,⟨kh P "__package__",.str "__package__" 167,.none⟩,⟨kh P "__loader__",.str "__loader__" 168,.builtin "__main__.__loader__#opaque"⟩,⟨kh P "__spec__",.str "__spec__" 169,.none⟩,⟨kh P "__annotations__",.str "__annotations__" 170,.ref 6⟩,⟨kh P "__builtins__",.str "__builtins__" 171,.ref 4⟩,⟨kh P "__file__",.str "__file__" 173,.str "/claim/cut.py" 172⟩,⟨kh P "__cached__",.str "__cached__" 174,.none⟩,⟨kh P "FloorError",.str "FloorError" 206,.ref 24⟩,⟨kh P "NoShape",.str "NoShape" 222,.ref 37⟩,⟨kh P "OtherFloor",.str "OtherFloor" 238,.ref 49⟩,⟨kh P "EMPTY",.str "EMPTY" 242,.int 0 241⟩,⟨kh P "FULL",.str "FULL" 244,.int 1 243⟩,⟨kh P "FIRST",.str "FIRST" 246,.int 2 245⟩,⟨kh P "is_whole",.str "is_whole" 253,.ref 58⟩,⟨kh P "is_plain",.str "is_plain" 260,.ref 65⟩,⟨kh P "depths_of",.str "depths_of" 266,.ref 70⟩,⟨kh P "end_rows",.str "end_rows" 276,.ref 77⟩,⟨kh P "places_as_ended",.str "places_as_ended" 285,.ref 84⟩,⟨kh P "renumbered",.str "renumbered" 291,.ref 89⟩,⟨kh P "shape_of",.str "shape_of" 303,.ref 96⟩,⟨kh P "Book",.str "Book" 350,.ref 127⟩] 23),#[]⟩)).set 12 (⟨.none,none,(.fields #[.int 2 0,.int 0 0,.ref 20,.int 4 0,.int 0 0,.ref 33,.int 6 0,.int 0 0,.ref 45,.int 12 0,.int 0 0,.ref 57,.int 14 0,.int 0 0,.ref 64,.int 16 0,.int 0 0,.ref 69,.int 21 0,.int 0 0,.ref 76,.int 27 0,.int 0 0,.ref 83,.int 31 0,.int 0 0,.ref 88,.int 33 0,.int 0 0,.ref 95,.int 40 0,.int 0 0,.ref 102]),#[]⟩))⟩,(boot_heap P).life⟩
noncomputable def h2 (P:Params):Heap:=⟨⟨(ob P)⟩,(boot_heap P).life⟩
noncomputable def bd:List Stmt:=behindTheImports pw
noncomputable def ev:Env:={ scope:=pw.main.scope,locals:=mainNs,globals:=mainNs,cells:=[],code:=.ref 13,frame:=some 14 }
noncomputable def cE:Code:=.body bd ev
noncomputable abbrev sh (h:Params->Heap) (k:Nat) (w:World) (os:OsState):Shared:=⟨h w.params,Array.mk [],boot_drawn,k,os⟩
noncomputable abbrev fr:List Frame:=[topFrame ⟨0,0,0,0⟩]
theorem pre0 (w:World) (os:OsState):topGo treeTable pw w 11 (some (.ref 6)) 12 (sh boot_heap boot_toks w os) (topStub pw)=some (sh hA 187 w os,⟨denote treeTable cE,cE,⟨0,0,0,0⟩,fr⟩):=by kernel_rfl
theorem blk0 (w:World) (os:OsState):segRun treeTable pw w 11 (some (.ref 6)) 1 1 (sh hA 187 w os) (blockOf bd ev cE ⟨0,0,0,0⟩ fr)=some (.next,sh hA 187 w os,cE,⟨0,0,0,0⟩):=by kernel_rfl
theorem piece_split {tb:String->Option Builtin}{p:Program}{w:World}{n₀:Nat}{ann:Option Value}{env:Env}{q:Pos}{n N j:Nat}{s s' r:Shared}{l:List Stmt}{c:Code}{pos p':Pos}(h:segRun tb p w n₀ ann 1 n s (piecesOf (l.take j) env c pos [topFrame q])=some (.next,s',c,p'))
  (k:topRun tb p w n₀ ann N s' (restOf (l.drop j) env c p' [topFrame q])=some r):topRun tb p w n₀ ann (n+N) s (restOf l env c pos [topFrame q])=some r:=by
 have:=piece_app (l:=l.take j) (rest:=l.drop j) h k
 rwa [List.take_append_drop] at this
theorem left_mid {p q:Program}{loose:List Str}{Xt:Shared->Bool}{α:Type}{Yf:Shared->α}{Ya:World->α}{N:Nat}{g0:Bool}{H₀:Params->Heap}{gs₀:Array GenState}{d₀:Drawn}{k₀ m₀ M N2:Nat}{ann:Option Value}{Z:World->OsState->Shared}{T:Thread}
  (open_:∀w:World,(fencedOpening treeTable p w N).map (λs=>(s.heap,s.gens,s.drawn,s.toks))=some (H₀ w.params,gs₀,d₀,k₀))
  (size:∀w:World,((H₀ w.params).isNs mainGlobals&&gs₀.size==0,(H₀ w.params).objs.size,(H₀ w.params).nsMap mainGlobals "__annotations__")=(true,m₀,ann))
  (run:∀(w:World) (os:OsState) (r:Shared),topRun treeTable p w m₀ ann N2 (Z w os) T=some r->topRun treeTable p w m₀ ann M ⟨H₀ w.params,gs₀,d₀,k₀,os⟩ (topStub p)=some r) (le:Nat.ble M N=true)
  (fin:∀(w:World) (os:OsState),(topRun treeTable p w m₀ ann N2 (Z w os) T).map (λs=>(staticsOk (importedModules p.main.body) (H₀ w.params) s.heap&&namesBound p s.heap&&gensDone s&&laidKept (H₀ w.params) s.heap,openSeen q loose (importedModules p.main.body) Xt g0 s,Yf s))=some (true,openGood q loose,Ya w)):LeftO p q loose Xt Yf Ya N g0:=λw=>by
 obtain⟨⟨h,gs,d,k,os⟩,e,e'⟩:=Option.map_eq_some_iff.mp (open_ w)
 obtain⟨rfl,rfl,rfl,rfl⟩:h=H₀ w.params/\gs=gs₀/\d=d₀/\k=k₀:=by simpa using e'
 obtain⟨z1,z2,z3⟩:_/\_/\_:=by simpa only [Prod.mk.injEq] using size w
 obtain⟨r,hr,e2⟩:=Option.map_eq_some_iff.mp (fin w os)
 obtain⟨l1,l2,l3⟩:_/\_/\_:=by simpa only [Prod.mk.injEq] using e2
 have r1:=topRun_mono (N-M) _ _ _ _ (run w os r hr)
 rw[show M+(N-M)=N by have:=Nat.le_of_ble_eq_true le;lia] at r1
 have t:topFrom treeTable p w N ⟨H₀ w.params,gs,d,k,os⟩=some r:=by
  unfold topFrom
  dsimp only
  rw[z1,z2,z3,r1]
  show (match staticsOk (importedModules p.main.body) (H₀ w.params) r.heap&&namesBound p r.heap&&gensDone r&&laidKept (H₀ w.params) r.heap with|true=>_|false=>_)=_
  rw[l1]
 unfold openEnds
 rw[e]
 show (topFrom treeTable p w N ⟨H₀ w.params,gs,d,k,os⟩).map _=_
 rw[t]
 show some (_,_)=some (_,_)
 rw[l2,l3]
theorem seg1 (w:World) (os:OsState):segRun treeTable pw w 11 (some (.ref 6)) 1 1202 (sh hA 187 w os) (piecesOf (bd.take 16) ev cE ⟨0,0,0,0⟩ fr)=some (.next,sh h1 351 w os,cE,⟨40,0,58,22⟩):=by kernel_rfl
theorem seg2 (w:World) (os:OsState):segRun treeTable pw w 11 (some (.ref 6)) 1 745 (sh h1 351 w os) (piecesOf ((bd.drop 16).take 21) ev cE ⟨40,0,58,22⟩ fr)=some (.next,sh h2 511 w os,cE,⟨112,0,132,40⟩):=by kernel_rfl
theorem run0 (w:World) (os:OsState) (r:Shared) (h:topRun treeTable pw w 11 (some (.ref 6)) 717 (sh h2 511 w os) (restOf ((bd.drop 16).drop 21) ev cE ⟨112,0,132,40⟩ fr)=some r):topRun treeTable pw w 11 (some (.ref 6)) (12+(1+(1202+(745+717)))) (sh boot_heap boot_toks w os) (topStub pw)=some r:=go_top (pre0 w os) (piece_block (blk0 w os) (piece_split (seg1 w os) (piece_split (seg2 w os) h)))
theorem opn0:opening pw=plainProg pw.main.scope.names:=by kernel_rfl
theorem fen0 (s:Shared):fenceModules? pw s=some s:=by kernel_rfl
def q0:Program:={ pw with main:={ pw.main with body:=keep0.map Pr.top } }
theorem as_K:∀P,as0=(K0 P).map (·.1):=λ_=>by kernel_rfl
abbrev X0:Shared->Bool:=λs=>xlAt q0 [] s&&recOk (RowW.records (OpenRow.toRowW (OpenLaw.row PySem.Challenge.rw_quarterfold_k35_whole_pairs_and_rows))) s
set_option maxHeartbeats 0 in
theorem fin0 (w:World) (os:OsState):(topRun treeTable pw w 11 (some (.ref 6)) 717 (sh h2 511 w os) (restOf ((bd.drop 16).drop 21) ev cE ⟨112,0,132,40⟩ fr)).map (λs=>(staticsOk (importedModules pw.main.body) (boot_heap w.params) s.heap&&namesBound pw s.heap&&gensDone s&&laidKept (boot_heap w.params) s.heap,openSeen q0 [] (importedModules pw.main.body) X0 true s,Hook.obs (kHook Hd.K0 Hd.as0 Hd.as_K) s))=some (true,openGood q0 [],Hook.val (kHook Hd.K0 Hd.as0 Hd.as_K) w):=by kernel_rfl
theorem left0:LeftO pw q0 [] X0 (Hook.obs (kHook Hd.K0 Hd.as0 Hd.as_K)) (Hook.val (kHook Hd.K0 Hd.as0 Hd.as_K)) N0:=left_mid (boot_open opn0 rfl fen0) (λw=>by kernel_rfl) run0 (by rfl) fin0
end Hd
namespace L2
open PySem PySem.Spec PyProof.Rows
abbrev Key:=Sum Int Str
def keyIs:Key->Value->Bool
 |.inl k,v=>Value.isInt k v
 |.inr x,v=>Value.isStrOf x v
def keyH (w:World):Key->Int
 |.inl k=>hashInt k
 |.inr x=>hashStr w x
theorem keyIs_shape:∀{k:Key}{v:Value},keyIs k v=true->(∃i t,k=Sum.inl i/\v=Value.int i t)\/(∃x t,k=Sum.inr x/\v=Value.str x t)
 |.inl i,v,h=>by
  obtain⟨t,e⟩:=Value.isInt_shape (k:=i) (v:=v) h
  exact .inl ⟨i,t,rfl,e⟩
 |.inr x,v,h=>by
  obtain⟨t,e⟩:=Value.isStrOf_shape (x:=x) (v:=v) h
  exact .inr ⟨x,t,rfl,e⟩
theorem keyIs_int (i:Int) (t:Tok):keyIs (.inl i) (.int i t)=true:=by simp[keyIs,Value.isInt]
theorem keyIs_str (x:Str) (t:Tok):keyIs (.inr x) (.str x t)=true:=by simp[keyIs,Value.isStrOf]
theorem key_ll (a b:Int):decide ((Sum.inl a:Key)=Sum.inl b)=(a==b):=by
 by_cases e:a=b
 ·subst e;simp
 ·have h:¬(Sum.inl a:Key)=Sum.inl b:=λq=>e (Sum.inl.inj q)
  rw[decide_eq_false h]
  exact (beq_eq_false_iff_ne.mpr e).symm
theorem key_rr (a b:Str):decide ((Sum.inr a:Key)=Sum.inr b)=decide (a=b):=by
 by_cases e:a=b
 ·subst e;simp
 ·have h:¬(Sum.inr a:Key)=Sum.inr b:=λq=>e (Sum.inr.inj q)
  rw[decide_eq_false h,decide_eq_false e]
theorem key_lr (a:Int) (b:Str):decide ((Sum.inl a:Key)=Sum.inr b)=false:=decide_eq_false (λq=>nomatch q)
theorem key_rl (a:Str) (b:Int):decide ((Sum.inr a:Key)=Sum.inl b)=false:=decide_eq_false (λq=>nomatch q)
def mixKind (prog:Program) (w:World):PySem.KeyKind prog w Key where
 is:=keyIs
 hash:=keyH w
 inj:=λv a b ha hb=>by
  rcases keyIs_shape ha with ⟨i,t,rfl,rfl⟩|⟨x,t,rfl,rfl⟩
  ·rcases keyIs_shape hb with ⟨j,u,rfl,e⟩|⟨y,u,rfl,e⟩
   ·injection e with e1 _;rw[e1]
   ·exact nomatch e
  ·rcases keyIs_shape hb with ⟨j,u,rfl,e⟩|⟨y,u,rfl,e⟩
   ·exact nomatch e
   ·injection e with e1 _;rw[e1]
 byValue:=λk v h=>by
  rcases keyIs_shape h with ⟨i,t,rfl,rfl⟩|⟨x,t,rfl,rfl⟩<;>rfl
 pyHash:=λhv h=>by
  rcases keyIs_shape hv with ⟨i,t,rfl,rfl⟩|⟨x,t,rfl,rfl⟩
  ·exact wpAny_pyHash_int h
  ·exact wpAny_pyHash_str h
 eqBool:=λhu hv h=>by
  rcases keyIs_shape hu with ⟨i,t,rfl,rfl⟩|⟨x,t,rfl,rfl⟩
  ·rcases keyIs_shape hv with ⟨j,u,rfl,rfl⟩|⟨y,u,rfl,rfl⟩
   ·rw[key_ll] at h;exact wpAny_eqBool_int h
   ·rw[key_lr] at h;exact SeqAt.EqAt.int_str i t y u _ _ _ _ h
  ·rcases keyIs_shape hv with ⟨j,u,rfl,rfl⟩|⟨y,u,rfl,rfl⟩
   ·rw[key_rl] at h;exact SeqAt.EqAt.str_int x t j u _ _ _ _ h
   ·rw[key_rr] at h;exact wpAny_eqBool_str h
 «strs»:=λk x t v h=>by
  rcases keyIs_shape h with ⟨i,u,rfl,e⟩|⟨y,u,rfl,e⟩
  ·exact nomatch e
  ·injection e with e1 _
   subst e1
   cases v<;>rfl
theorem mixKind_int (prog:Program) (w:World) (i:Int) (t:Tok):(mixKind prog w).is (.inl i) (.int i t)=true:=keyIs_int i t
theorem mixKind_str (prog:Program) (w:World) (x:Str) (t:Tok):(mixKind prog w).is (.inr x) (.str x t)=true:=keyIs_str x t
inductive V where
 |non|bl (b:Bool)|int (i:Int)|str (x:Str)|byt (b:Array UInt8)|flt (b:UInt64)|ref (a:Addr)|ty (n:String)
 deriving DecidableEq
def RelV:V->Value->Prop
 |.non,u=>u=Value.none
 |.bl b,u=>u=Value.bool b
 |.int i,u=>∃t,u=Value.int i t
 |.str x,u=>∃t,u=Value.str x t
 |.byt b,u=>∃t,u=Value.bytes b t
 |.flt b,u=>∃t,u=Value.float b t
 |.ref a,u=>u=Value.ref a
 |.ty n,u=>u=Value.type n
abbrev Vals:List V->List Value->Prop:=Paired RelV
theorem Vals.length {xs:List V}{us:List Value}(r:Vals xs us):xs.length=us.length:=Paired.length r
theorem Vals.get:∀{xs:List V}{us:List Value}{i:Nat}{x:V},Vals xs us->xs[i]?=some x->∃u,us[i]?=some u/\RelV x u
 |_,_,_,_,.nil,e=>by simp at e
 |_,_,0,_,.cons r _,e=>by simp at e;subst e;exact⟨_,rfl,r⟩
 |_,_,i+1,x,.cons _ t,e=>by
  obtain⟨u,h1,h2⟩:=Vals.get (i:=i) (x:=x) t (by simpa using e)
  exact⟨u,by simpa using h1,h2⟩
theorem Vals.set {x:V}{u:Value}(r:RelV x u):∀{xs:List V}{us:List Value}(i:Nat),Vals xs us->Vals (xs.set i x) (us.set i u)
 |_,_,_,.nil=>.nil
 |_,_,0,.cons _ t=>.cons r t
 |_,_,i+1,.cons q t=>.cons q (Vals.set r i t)
theorem Vals.append:∀{xs ys:List V}{us ws:List Value},Vals xs us->Vals ys ws->Vals (xs++ys) (us++ws)
 |_,_,_,_,.nil,s=>s
 |_,_,_,_,.cons r t,s=>.cons r (Vals.append t s)
theorem Vals.take:∀{xs:List V}{us:List Value}(n:Nat),Vals xs us->Vals (xs.take n) (us.take n)
 |_,_,0,_=>.nil
 |_,_,_+1,.nil=>.nil
 |_,_,n+1,.cons r t=>.cons r (Vals.take n t)
theorem Vals.drop:∀{xs:List V}{us:List Value}(n:Nat),Vals xs us->Vals (xs.drop n) (us.drop n)
 |_,_,0,r=>r
 |_,_,_+1,.nil=>.nil
 |_,_,n+1,.cons _ t=>Vals.drop n t
def RelO:Option V->Option Value->Prop
 |some v,some u=>RelV v u
 |none,none=>True
 |_,_=>False
def KV {κ:Type}:List (κ×V)->List (κ×Value)->Prop:=Paired λ(p:κ×V) (q:κ×Value)=>p.1=q.1/\RelV p.2 q.2
def kV:Key->V
 |.inl i=>.int i
 |.inr x=>.str x
inductive HO where
 |lst (xs:List V)
 |tup (xs:List V)
 |dK (kvs:List (Key×V))|dT (kvs:List (List Key×V))
 |set (S:Int->Bool) (n:Nat)
 |ins (C dx:Addr) (fs:List (Str×V))
 |own (x:Addr)
 |xd (fs:List (Str×V))
 |met (f x:Addr)
 |rng (lo hi:Int)
 |frz (o:Obj) (u:HO)
 |tbl (ps:Array Value)
 |ext (φ:Heap->Prop)
abbrev Hp:=Addr->Option HO
def upd (H:Hp) (a:Addr) (o:HO):Hp:=λb=>if b=a then some o else H b
theorem qa1 {H:Hp}{a:Addr}{o:HO}:upd H a o a=some o:=by unfold upd;rw[if_pos rfl]
theorem upd_ne {H:Hp}{a b:Addr}{o:HO}(h:b≠a):upd H a o b=H b:=by unfold upd;rw[if_neg h]
theorem upd_upd {H:Hp}{a:Addr}{o u:HO}:upd (upd H a o) a u=upd H a u:=by
 funext b;unfold upd;split<;>rfl
theorem ne_of {H:Hp}{a b:Addr}{o u:HO}(h:H a=some o) (h':H b=some u) (d:o≠u):a≠b:=by
 intro e;subst e;rw[h] at h';exact d (Option.some.inj h')
theorem qa2 {H:Hp}{a b:Addr}{o:HO}(h:H a=some o) (h':H b=none):a≠b:=by
 intro e;subst e;rw[h] at h';cases h'
def IsTupX (h:Heap) (a:Addr) (items:Array Value):Prop:=∃o,h.get? a=some o/\o.cls=.type "tuple" /\ ∃n:{n:Nat // o.dict=none},o.data=.seq items n.1
theorem IsTupX.is {h:Heap}{a:Addr}{items:Array Value}(x:IsTupX h a items):IsTup h a items:=let ⟨o,h1,h2,n,h3⟩:=x;⟨o,h1,h2,n.1,h3⟩
theorem IsTupX.new (h:Heap) (items:Array Value):IsTupX (h.push { cls:=.type "tuple",data:=.seq items }) h.objs.size items:=⟨_,Heap.get?_push_size _ rfl,rfl,⟨_,rfl⟩,rfl⟩
instance {h:Heap}{a:Addr}{items:Array Value}:Coe (IsTupX h a items) (IsTup h a items):=⟨IsTupX.is⟩
instance {h:Heap}{a:Addr}{items:Array Value}:Coe (IsTupX h a items) (h.IsTuple a items):=⟨IsTupX.is⟩
section
variable (P:Program) (w:World)
def ObjOk (H:Hp) (h:Heap) (a:Addr):HO->Prop
 |.lst xs=>xs.length<=sizeLine/\∃(its:List Value) (n:Nat),Vals xs its/\h.get? a=some { cls:=.type "list",data:=.seq its.toArray n }
 |.tup xs=>xs.length<=sizeLine/\∃its:List Value,Vals xs its/\IsTupX h a its.toArray
 |.dK kvs=>kvs.length<=sizeLine/\(a==sysModules)=false/\∃vs,KV kvs vs/\h.DictOf (mixKind P w) a vs
 |.dT kvs=>kvs.length<=sizeLine/\(a==sysModules)=false/\∃xs:List (List Key×Addr×Value),
   Paired (λ(p:List Key×V) (q:List Key×Addr×Value)=>p.1=q.1/\H q.2.1=some (.tup (p.1.map kV))/\RelV p.2 q.2.2) kvs xs /\
   ∃o es ep,h.get? a=some o/\o.ExactDict/\o.data=.dict es ep/\es.toList=xs.map (entryOfKey (tupleKind (mixKind P w)))/\(xs.map (·.1)).Nodup
 |.set S n=>h.SetOf (intKind P w) a S n
 |.ins C dx fs=>H dx=some (.own a)/\fs.length<=1000/\dx≠a/\h.get? a=some (PySem.W.instObj C dx) /\
   ∃mA,h.Ns1 dx mA/\(∀f,RelO (fs.lookup f) (mA f))/\PySem.Within mA (fs.map (·.1))
 |.own _=>∃o,h.get? a=some o
 |.xd fs=>∃mA,h.Ns1 a mA/\∀f,RelO (fs.lookup f) (mA f)
 |.rng lo hi=>∃t u v,h.get? a=some { cls:=.type "range",data:=.fields #[.int lo t,.int hi u,.int 1 v] }
 |.frz o u=>h.get? a=some o/\ObjOk H h a u
 |.tbl ps=>h.get? a=some { cls:=.none,data:=.fields ps }
 |.met f x=>h.get? a=some (PySem.W.methodObj (.ref f) (.ref x))
 |.ext φ=>φ h/\(∃o,h.get? a=some o)/\∀h1 h2:Heap,φ h1->(∀o,h1.get? a=some o->h2.get? a=some o)->φ h2
def HOk (H:Hp) (h:Heap):Prop:=∀a o,H a=some o->ObjOk P w H h a o
end
section
variable {P:Program}{w:World}{H H':Hp}{h h':Heap}{a:Addr}{o:HO}
theorem ObjOk.lt (x:ObjOk P w H h a o):a<h.objs.size:=by
 cases o with
 |lst xs=>obtain⟨_,_,_,_,e⟩:=x;exact Heap.lt_size e
 |tup xs=>obtain⟨_,_,_,p⟩:=x;exact (IsTupX.is p).lt
 |dK kvs=>obtain⟨_,_,_,_,o,_,_,e,_⟩:=x;exact Heap.lt_size e
 |dT kvs=>obtain⟨_,_,_,_,o,_,_,e,_⟩:=x;exact Heap.lt_size e
 |set S n=>obtain⟨o,_,_,_,e,_⟩:=x;exact Heap.lt_size e
 |ins C dx fs=>obtain⟨_,_,_,e,_⟩:=x;exact Heap.lt_size e
 |own y=>obtain⟨_,e⟩:=x;exact Heap.lt_size e
 |xd fs=>obtain⟨_,⟨_,_,_,e,_⟩,_⟩:=x;exact Heap.lt_size e
 |rng lo hi=>obtain⟨_,_,_,e⟩:=x;exact Heap.lt_size e
 |frz ob u=>obtain⟨e,_⟩:=x;exact Heap.lt_size e
 |tbl ps=>exact Heap.lt_size (show h.get? a=some _ from x)
 |met f y=>exact Heap.lt_size (show h.get? a=some _ from x)
 |ext φ=>obtain⟨_,⟨_,e⟩,_⟩:=x;exact Heap.lt_size e
theorem Paired.mapP {α β:Type}{F G:α->β->Prop}:∀{l₁:List α}{l₂:List β},Paired F l₁ l₂->(∀a b,F a b->G a b)->Paired G l₁ l₂
 |_,_,.nil,_=>.nil
 |_,_,.cons r t,f=>.cons (f _ _ r) (Paired.mapP t f)
theorem ObjOk.stay (x:ObjOk P w H h a o) (k:∀b u,(b=a\/H b=some (.own a))->h.get? b=some u->h'.get? b=some u)
  (ho:∀b,H b=some (.own a)->H' b=some (.own a)) (ht:∀b xs,H b=some (.tup xs)->H' b=some (.tup xs)):ObjOk P w H' h' a o:=by
 induction o with
 |lst xs=>obtain⟨z,its,n,r,e⟩:=x;exact⟨z,its,n,r,k _ _ (.inl rfl) e⟩
 |tup xs=>obtain⟨z,its,r,ob,e,c⟩:=x;exact⟨z,its,r,ob,k _ _ (.inl rfl) e,c⟩
 |dK kvs=>obtain⟨z,y,vs,r,ob,es,ep,e,c⟩:=x;exact⟨z,y,vs,r,ob,es,ep,k _ _ (.inl rfl) e,c⟩
 |dT kvs=>
  obtain⟨z,y,xs,r,ob,es,ep,e,c⟩:=x
  exact⟨z,y,xs,Paired.mapP r λp q z=>⟨z.1,ht _ _ z.2.1,z.2.2⟩,ob,es,ep,k _ _ (.inl rfl) e,c⟩
 |set S n=>obtain⟨ob,es,ep,t,e,c⟩:=x;exact⟨ob,es,ep,t,k _ _ (.inl rfl) e,c⟩
 |ins C dx fs=>
  obtain⟨d,z,ne,e,mA,⟨od,es,ep,e2,c⟩,r⟩:=x
  exact⟨ho _ d,z,ne,k _ _ (.inl rfl) e,mA,⟨od,es,ep,k _ _ (.inr d) e2,c⟩,r⟩
 |own y=>obtain⟨ob,e⟩:=x;exact⟨ob,k _ _ (.inl rfl) e⟩
 |xd fs=>obtain⟨mA,⟨od,es,ep,e,c⟩,r⟩:=x;exact⟨mA,⟨od,es,ep,k _ _ (.inl rfl) e,c⟩,r⟩
 |rng lo hi=>obtain⟨t,u,v,e⟩:=x;exact⟨t,u,v,k _ _ (.inl rfl) e⟩
 |frz ob u ih=>obtain⟨e,q⟩:=x;exact⟨k _ _ (.inl rfl) e,ih q⟩
 |tbl ps=>
  have e:h.get? a=some { cls:=.none,data:=.fields ps }:=x
  show h'.get? a=some { cls:=.none,data:=.fields ps }
  exact k a _ (.inl rfl) e
 |met f y=>
  have e:h.get? a=some (PySem.W.methodObj (.ref f) (.ref y)):=x
  show h'.get? a=some (PySem.W.methodObj (.ref f) (.ref y))
  exact k a _ (.inl rfl) e
 |ext φ=>obtain⟨p,⟨o,e⟩,st⟩:=x;exact⟨st _ _ p λo q=>k _ _ (.inl rfl) q,⟨o,k _ _ (.inl rfl) e⟩,st⟩
theorem HOk.lt (x:HOk P w H h) (e:H a=some o):a<h.objs.size:=(x a o e).lt
theorem HOk.fresh (x:HOk P w H h) (e:h.objs.size<=a):H a=none:=by
 cases q:H a with
 |none=>rfl
 |some u=>exact absurd (Nat.lt_of_lt_of_le (x.lt q) e) (Nat.lt_irrefl _)
theorem HOk.kept (x:HOk P w H h) (k:∀b u,h.get? b=some u->h'.get? b=some u):HOk P w H h':=λa o e=>
 (x a o e).stay (λb u _ q=>k b u q) (λ_ q=>q) λ_ _ q=>q
theorem HOk.laid (x:HOk P w H h) (k:∀b u,h.get? b=some u->h'.get? b=some u) (hp:h.objs.size<=a) (new:ObjOk P w (upd H a o) h' a o):HOk P w (upd H a o) h':=λb u e=>by
 have hn:=x.fresh hp
 by_cases hb:b=a
 ·subst hb;rw[qa1] at e;cases e;exact new
 ·rw[upd_ne hb] at e
  exact (x b u e).stay (λc v _ q=>k c v q) (λc q=>by rw[upd_ne (qa2 q hn)];exact q) λc xs q=>by rw[upd_ne (qa2 q hn)];exact q
end
def Rd (H:Hp) (a:Addr) (u:HO):Prop:=H a=some u\/∃o,H a=some (.frz o u)
theorem Rd.ok {P:Program}{w:World}{H:Hp}{h:Heap}{a:Addr}{u:HO}(r:Rd H a u) (x:HOk P w H h):ObjOk P w H h a u:=by
 rcases r with r|⟨o,r⟩
 ·exact x a u r
 ·obtain⟨_,q⟩:=x a _ r
  exact q
def Mut:Option HO->Prop
 |some (.lst _)=>True
 |some (.dK _)=>True
 |some (.dT _)=>True
 |some (.set _ _)=>True
 |some (.ins _ _ _)=>True
 |some (.ext _)=>True
 |_=>False
section
variable {P:Program}{w:World}{H:Hp}{h h':Heap}{x e:Addr}{o':HO}
theorem HOk.write (ok:HOk P w H h) (mu:Mut (H x)) (he:e=x\/H e=some (.own x)) (k:∀b u,b≠e->h.get? b=some u->h'.get? b=some u) (heo:∃u,h'.get? e=some u)
  (new:ObjOk P w (upd H x o') h' x o'):HOk P w (upd H x o') h':=λb u q=>by
 have nown:∀c y,H c=some (.own y)->c≠x:=λc y r z=>by subst z;rw[r] at mu;exact mu
 have ntup:∀c xs,H c=some (.tup xs)->c≠x:=λc xs r z=>by subst z;rw[r] at mu;exact mu
 by_cases hb:b=x
 ·subst hb;rw[qa1] at q;cases q;exact new
 ·rw[upd_ne hb] at q
  by_cases hbe:b=e
  ·have q':H b=some (.own x):=by
    rcases he with z|z
    ·exact absurd (hbe.trans z) hb
    ·rw[hbe];exact z
   rw[q] at q';cases q'
   obtain⟨v,hv⟩:=heo
   exact⟨v,by rw[hbe];exact hv⟩
  ·refine (ok b u q).stay (λc v hc r=>k c v ?_ r) (λc r=>by rw[upd_ne (nown c b r)];exact r) λc xs r=>by rw[upd_ne (ntup c xs r)];exact r
   rcases hc with rfl|hc
   ·exact hbe
   ·rintro rfl
    rcases he with z|z
    ·exact nown c b hc z
    ·rw[hc] at z;cases z;exact hb rfl
end
structure Un (fs ex:List Addr) (H H':Hp) (h h':Heap):Prop where
 keep:∀b o,h.get? b=some o->H b=none->b∉fs->b∉ex->h'.get? b=some o
 slot:∀b o,h.get? b=some o->H b=none->b∈fs->b∉ex->∃sl,h'.get? b=some { o with slots:=sl }
 free:∀b o,h.get? b=some o->H b=none->b∉ex->H' b=none
 there:∀b o,h.get? b=some o->b∉ex->∃o',h'.get? b=some o'
 tups:∀b xs,H b=some (.tup xs)->H' b=some (.tup xs)
 frzs:∀b o u,H b=some (.frz o u)->H' b=some (.frz o u)
 tbls:∀b ps,H b=some (.tbl ps)->∃more,H' b=some (.tbl (ps++more))
section
variable {fs fs' ex ex':List Addr}{H H1 H2:Hp}{h h1 h2 h':Heap}{a x e:Addr}{o:HO}
theorem Un.any (u:Un fs ex H H1 h h1){b:Addr}{ob:Obj}(q:h.get? b=some ob) (n:H b=none) (hx:b∉ex):∃sl,h1.get? b=some { ob with slots:=sl }:=by
 by_cases hb:b∈fs
 ·exact u.slot b ob q n hb hx
 ·exact⟨ob.slots,u.keep b ob q n hb hx⟩
theorem Un.kept (k:∀b u,h.get? b=some u->h'.get? b=some u):Un fs ex H H h h':=
 ⟨λb ob q _ _ _=>k b ob q,λb ob q _ _ _=>⟨ob.slots,k b ob q⟩,λ_ _ _ n _=>n,λb ob q _=>⟨ob,k b ob q⟩,λ_ _ q=>q,λ_ _ _ q=>q,λ_ ps q=>⟨#[],by rw[q];simp⟩⟩
theorem Un.refl:Un fs ex H H h h:=Un.kept λ_ _ q=>q
theorem Un.laid (k:∀b u,h.get? b=some u->h'.get? b=some u) (hp:h.objs.size<=a) (hn:H a=none):Un fs ex H (upd H a o) h h' where
 keep:=λb u q _ _ _=>k b u q
 slot:=λb u q _ _ _=>⟨u.slots,k b u q⟩
 free:=λb u q n _=>by rw[upd_ne (Nat.ne_of_lt (Nat.lt_of_lt_of_le (Heap.lt_size q) hp))];exact n
 there:=λb u q _=>⟨u,k b u q⟩
 tups:=λb xs q=>by rw[upd_ne (qa2 q hn)];exact q
 frzs:=λb u xs q=>by rw[upd_ne (qa2 q hn)];exact q
 tbls:=λb ps q=>⟨#[],by rw[upd_ne (qa2 q hn),q];simp⟩
theorem Un.write (mu:Mut (H x)) (he:e=x\/H e=some (.own x)) (k:∀b u,b≠e->h.get? b=some u->h'.get? b=some u) (heo:∃u,h'.get? e=some u):Un fs ex H (upd H x o) h h':=by
 have hx:∀b,H b=none->b≠x:=λb n z=>by subst z;rw[n] at mu;exact mu
 have hb:∀b,H b=none->b≠e:=λb n z=>by
  subst z
  rcases he with r|r
  ·exact hx b n r
  ·rw[n] at r;cases r
 have hm:∀b u,H b=some u->¬Mut (some u)->b≠x:=λb u q nm z=>by subst z;rw[q] at mu;exact nm mu
 refine⟨λb u q n _ _=>k b u (hb b n) q,λb u q n _ _=>⟨u.slots,k b u (hb b n) q⟩,λb u q n _=>by rw[upd_ne (hx b n)];exact n,λb u q _=>?_,
  λb xs q=>by rw[upd_ne (hm b _ q λz=>z)];exact q,λb u xs q=>by rw[upd_ne (hm b _ q λz=>z)];exact q,λb ps q=>⟨#[],by rw[upd_ne (hm b _ q λz=>z),q];simp⟩⟩
 by_cases hbe:b=e
 ·subst hbe;exact heo
 ·exact⟨u,k b u hbe q⟩
end
def trk (h:Heap) (H:Hp):List Addr:=(List.range h.objs.size).filter λa=>(H a).isSome
def hidT (h:Heap) (H:Hp):Heap:=PySem.W.hideAll h (trk h H)
theorem hidT_size (h:Heap) (H:Hp):(hidT h H).objs.size=h.objs.size:=PySem.W.hideAll_size _ _
theorem hidT_get {h:Heap}{H:Hp}{b:Addr}{o:Obj}(e:h.get? b=some o) (n:H b=none):(hidT h H).get? b=some o:=
 PySem.W.hideAll_get _ e λhm=>by
  have q:(H b).isSome=true:=(List.mem_filter.mp hm).2
  rw[n] at q;simp at q
theorem of_hidT {h:Heap}{H:Hp}{b:Addr}{o:Obj}(e:(hidT h H).get? b=some o):h.get? b=some o/\H b=none:=by
 have e':h.get? b=some o:=PySem.W.of_hideAll (trk h H) e
 refine⟨e',?_⟩
 cases q:H b with
 |none=>rfl
 |some x=>
  have hm:b∈trk h H:=List.mem_filter.mpr ⟨List.mem_range.mpr (Heap.lt_size e'),by simp[q]⟩
  have z:(hidT h H).get? b=none:=PySem.W.hideAll_none (trk h H) hm
  rw[z] at e;cases e
structure Mod (K:PySem.W.Frag) (mg:Str->Option Value) (base:Heap):Prop where
 kin:K.In base
 glob:base.Ns mainGlobals mg
 blt:∃mb,base.Ns builtinsNs mb/\∀x:Str,x ≠ "__name__" -> mb x=bootBuiltins x
 nolimit:base.NoLimit
structure Cx where
 prog:Program
 w:World
 K:PySem.W.Frag
 mg:Str->Option Value
 base:Heap
 A:Around
 N:List Str
 s₀:Shared
 H₀:Hp
 env:Env
 outer:List Env
 stack:List Env
 ex:List Addr
 fn:Str->Bool
 calm:Bool
 pn:List (Addr×Obj)
 xe:Value->Shared->Prop
def frs (l:List Env):List Addr:=l.filterMap (·.frame)
abbrev Cx.fs (X:Cx):List Addr:=frs X.outer
def Vis (sc:Scope) (x:Str):Prop:=sc.names.lookup x=some .local\/sc.names.lookup x=some .cell\/sc.names.lookup x=some .free
def Loc (sc:Scope) (x:Str):Prop:=sc.names.lookup x=some .local\/sc.names.lookup x=some .cell
def Look (env:Env) (h:Heap) (m:Str->Option Value) (x:Str) (u:Value):Prop:=
 (env.kindOf x=some .local/\m x=some u)\/((env.kindOf x=some .cell\/env.kindOf x=some .free)/\∃c,env.cells.lookup x=some c/\h.IsCell c (some u))
structure Cx.Ok (X:Cx):Prop where
 mod:Mod X.K X.mg X.base
 kind:X.env.scope.kind=.function
 glob:X.env.globals=mainGlobals
 blt:X.env.builtins=builtinsNs
 above:X.s₀.heap.objs.size<=X.env.locals
 inj:∀x y c,X.env.cells.lookup x=some c->X.env.cells.lookup y=some c->x=y
 has:∀x,(X.env.kindOf x=some .cell\/X.env.kindOf x=some .free)->∃c,X.env.cells.lookup x=some c
 cab:∀x c,X.fn x=true->X.env.cells.lookup x=some c->X.s₀.heap.objs.size<=c
 hd:X.calm=true->X.A.handled=none
 frames:X.A.frames=some X.stack
 stk:X.stack=X.outer\/(X.stack=X.env::X.outer/\X.env.frame=some X.env.locals)
 exf:∀b∈X.ex,b≠X.env.locals/\∀x c,X.env.cells.lookup x=some c->c≠b
 bs:∀b o,X.base.get? b=some o->X.s₀.heap.get? b=some o/\X.H₀ b=none
 bsz:X.base.objs.size<=X.s₀.heap.objs.size
 noex:∀b o,X.base.get? b=some o->b∉X.ex
 exfs:∀b∈X.ex,b∉X.fs
 funs:X.s₀.heap.FunFrames X.base X.outer
 frf:∀b∈X.fs,X.H₀ b=none
structure Inv (X:Cx) (pins:List (Addr×Obj)) (σ:List (Option V)) (H:Hp) (s:Shared):Prop where
 ok:X.Ok
 os:s.os=X.s₀.os
 bare:AllBare s.gens
 base:Un X.fs X.ex X.H₀ H X.s₀.heap s.heap
 loc:∃m,s.heap.Ns X.env.locals m/\∀(i:Nat) (x:Str) (v:V),X.N[i]?=some x->σ[i]?=some (some v)->Vis X.env.scope x->∃u,RelV v u/\Look X.env s.heap m x u
 cell:∀x c,X.env.cells.lookup x=some c->∃v,s.heap.IsCell c v
 free:H X.env.locals=none
 freeC:∀x c,X.env.cells.lookup x=some c->H c=none
 pin:∀p∈X.pn++pins,s.heap.get? p.1=some p.2/\H p.1=none/\p.1≠X.env.locals/\p.1∉X.fs/\∀v,p.2.data≠.cell v
 hok:HOk X.prog X.w H s.heap
 len:σ.length=X.N.length
section
variable {X:Cx}{pins:List (Addr×Obj)}{σ:List (Option V)}{H H':Hp}{s:Shared}{h':Heap}
theorem Cx.Ok.nofr (ok:X.Ok){b:Addr}{o:Obj}(e:X.base.get? b=some o):b∉X.fs:=λhb=>by
 have:=(ok.funs.mem hb).1
 rw[e] at this;cases this
theorem Inv.bs (I:Inv X pins σ H s):∀b o,X.base.get? b=some o->s.heap.get? b=some o/\H b=none:=λb o e=>
 ⟨I.base.keep b o (I.ok.bs b o e).1 (I.ok.bs b o e).2 (I.ok.nofr e) (I.ok.noex b o e),I.base.free b o (I.ok.bs b o e).1 (I.ok.bs b o e).2 (I.ok.noex b o e)⟩
theorem Inv.bk (I:Inv X pins σ H s):∀b o,X.base.get? b=some o->s.heap.get? b=some o:=λb o e=>(I.bs b o e).1
theorem Inv.mod (I:Inv X pins σ H s):Mod X.K X.mg X.base:=I.ok.mod
theorem Inv.kIn (I:Inv X pins σ H s):X.K.In s.heap:=I.ok.mod.kin.keeps I.bk
theorem Inv.lt (I:Inv X pins σ H s):X.env.locals<s.heap.objs.size:=let ⟨_,hn,_⟩:=I.loc;hn.lt
theorem Inv.sz (I:Inv X pins σ H s):X.s₀.heap.objs.size<=s.heap.objs.size:=Nat.le_trans I.ok.above (Nat.le_of_lt I.lt)
theorem Inv.nofs (I:Inv X pins σ H s){a:Addr}(h:s.heap.objs.size<=a):a∉X.fs:=λhb=>by
 obtain⟨_,o,ho,_⟩:=I.ok.funs.mem hb
 exact absurd (Nat.lt_of_lt_of_le (Heap.lt_size ho) (Nat.le_trans I.sz h)) (Nat.lt_irrefl _)
theorem Inv.cne (I:Inv X pins σ H s):∀x c,X.env.cells.lookup x=some c->c≠X.env.locals:=λx c e z=>by
 obtain⟨v,o,ho,hd⟩:=I.cell x c e
 obtain⟨m,⟨o',es,ep,ho',hd',_⟩,_⟩:=I.loc
 rw[z,ho'] at ho;cases ho;rw[hd'] at hd;cases hd
theorem Inv.funs (I:Inv X pins σ H s):s.heap.FunFrames X.base X.outer:=by
 have all:∀(l:List Env),(∀b∈frs l,b∈X.fs)->X.s₀.heap.FunFrames X.base l->s.heap.FunFrames X.base l:=by
  intro l
  induction l with
  |nil=>intro _ _;trivial
  |cons env r ih=>
   intro hs hl
   obtain⟨hk,⟨L,o,hf,hn,ho,hd⟩,hr⟩:=hl
   have hL:L∈X.fs:=hs L (by unfold frs;rw[List.filterMap_cons,hf];exact List.mem_cons_self)
   obtain⟨sl,e⟩:=I.base.slot L o ho (I.ok.frf L hL) hL λz=>I.ok.exfs L z hL
   exact⟨hk,⟨L,_,hf,hn,e,hd⟩,ih (λb hb=>hs b (by unfold frs;rw[List.filterMap_cons,hf];exact List.mem_cons_of_mem _ hb)) hr⟩
 exact all X.outer (λ_ hb=>hb) I.ok.funs
theorem Inv.stack (I:Inv X pins σ H s):s.heap.FunFrames X.base X.stack:=by
 rcases I.ok.stk with e|⟨e,hf⟩
 ·rw[e];exact I.funs
 ·rw[e]
  obtain⟨m,hn,_⟩:=I.loc
  refine .cons (by rw[I.ok.kind];decide) hf hn ?_ I.funs
  exact Heap.get?_none_of_le (Nat.le_trans I.ok.bsz I.ok.above)
theorem Inv.stkSub (I:Inv X pins σ H s):∀b∈frs X.stack,b∈X.env.locals::X.fs:=λb hb=>by
 rcases I.ok.stk with e|⟨e,hf⟩
 ·rw[e] at hb;exact List.mem_cons_of_mem _ hb
 ·rw[e] at hb
  unfold frs at hb
  rw[List.filterMap_cons,hf] at hb
  exact hb
theorem Inv.stkFree (I:Inv X pins σ H s):∀b∈frs X.stack,H b=none:=λb hb=>by
 rcases List.mem_cons.mp (I.stkSub b hb) with e|hb
 ·rw[e];exact I.free
 ·obtain⟨_,o,ho,_⟩:=I.ok.funs.mem hb
  exact I.base.free b o ho (I.ok.frf b hb) λz=>I.ok.exfs b z hb
theorem Inv.step {g':Array GenState}{t':Nat}{d':Drawn}{ch:List Addr}(I:Inv X pins σ H s)
  (hch:∀b∈ch,(b∈X.ex\/X.s₀.heap.objs.size<=b)/\b≠X.env.locals/\(∀x c,X.env.cells.lookup x=some c->c≠b)/\∀p∈X.pn++pins,p.1≠b)
  (keep:∀b o,b≠X.env.locals->b∉X.fs->b∉ch->s.heap.get? b=some o->H b=none->h'.get? b=some o)
  (slot:∀b o,b≠X.env.locals->b∈X.fs->b∉ch->s.heap.get? b=some o->H b=none->∃sl,h'.get? b=some { o with slots:=sl }) (free:∀b o,b∉ch->s.heap.get? b=some o->H b=none->H' b=none)
  (there:∀b o,b∉ch->s.heap.get? b=some o->∃o',h'.get? b=some o')
  (tups:∀b xs,H b=some (.tup xs)->H' b=some (.tup xs)) (frzs:∀b o u,H b=some (.frz o u)->H' b=some (.frz o u)) (tbls:∀b ps,H b=some (.tbl ps)->∃more,H' b=some (.tbl (ps++more)))
  (ns:∀m,s.heap.Ns X.env.locals m->h'.Ns X.env.locals m) (hok:HOk X.prog X.w H' h') (hg:AllBare g') :
  Inv X pins σ H' { s with heap:=h',gens:=g',drawn:=d',toks:=t' }:=by
 have neL:∀b o,X.s₀.heap.get? b=some o->b≠X.env.locals:=λb o e=>Nat.ne_of_lt (Nat.lt_of_lt_of_le (Heap.lt_size e) I.ok.above)
 have neC:∀b o,X.s₀.heap.get? b=some o->b∉X.ex->b∉ch:=λb o e hx hb=>by
  rcases (hch b hb).1 with z|z
  ·exact hx z
  ·exact absurd (Nat.lt_of_lt_of_le (Heap.lt_size e) z) (Nat.lt_irrefl _)
 have cellK:∀x c,X.env.cells.lookup x=some c->∀v,s.heap.IsCell c v->h'.IsCell c v:=λx c e v ⟨o,ho,hd⟩=>by
  have nch:c∉ch:=λz=>(hch c z).2.2.1 x c e rfl
  by_cases hc:c∈X.fs
  ·obtain⟨sl,q⟩:=slot c o (I.cne x c e) hc nch ho (I.freeC x c e)
   exact⟨_,q,hd⟩
  ·exact⟨o,keep c o (I.cne x c e) hc nch ho (I.freeC x c e),hd⟩
 refine⟨I.ok,I.os,hg,⟨λb o e n hb hx=>?_,λb o e n hb hx=>?_,λb o e n hx=>?_,λb o e hx=>?_,λb xs e=>tups b xs (I.base.tups b xs e),λb o xs e=>frzs b o xs (I.base.frzs b o xs e),λb ps e=>?_⟩,?_,λx c e=>?_,?_,λx c e=>?_,λp hp=>?_,hok,I.len⟩
 ·exact keep b o (neL b o e) hb (neC b o e hx) (I.base.keep b o e n hb hx) (I.base.free b o e n hx)
 ·obtain⟨sl,e1⟩:=I.base.slot b o e n hb hx
  obtain⟨sl',e2⟩:=slot b _ (neL b o e) hb (neC b o e hx) e1 (I.base.free b o e n hx)
  exact⟨sl',e2⟩
 ·obtain⟨o',e1⟩:=I.base.there b o e hx
  exact free b o' (neC b o e hx) e1 (I.base.free b o e n hx)
 ·obtain⟨o',e1⟩:=I.base.there b o e hx
  exact there b o' (neC b o e hx) e1
 ·obtain⟨m1,e1⟩:=I.base.tbls b ps e
  obtain⟨m2,e2⟩:=tbls b _ e1
  exact⟨m1++m2,by rw[e2,Array.append_assoc]⟩
 ·obtain⟨m,hn,hl⟩:=I.loc
  refine⟨m,ns m hn,λi x v e1 e2 e3=>?_⟩
  obtain⟨u,r,l⟩:=hl i x v e1 e2 e3
  refine⟨u,r,?_⟩
  rcases l with l|⟨k,c,e,z⟩
  ·exact .inl l
  ·exact .inr ⟨k,c,e,cellK x c e _ z⟩
 ·obtain⟨v,z⟩:=I.cell x c e
  exact⟨v,cellK x c e v z⟩
 ·obtain⟨m,⟨o,_,_,ho,_⟩,_⟩:=I.loc
  exact free _ o (λz=>(hch _ z).2.1 rfl) ho I.free
 ·obtain⟨v,o,ho,hd⟩:=I.cell x c e
  exact free c o (λz=>(hch c z).2.2.1 x c e rfl) ho (I.freeC x c e)
 ·obtain⟨e,n,ne,nf,d⟩:=I.pin p hp
  have nch:p.1∉ch:=λz=>(hch p.1 z).2.2.2 p hp rfl
  exact⟨keep p.1 p.2 ne nf nch e n,free p.1 p.2 nch e n,ne,nf,d⟩
theorem Inv.un {t':Nat}(I:Inv X pins σ H s) (u:Un X.fs [] H H' s.heap h') (hok:HOk X.prog X.w H' h'):Inv X pins σ H' { s with heap:=h',toks:=t' }:=by
 obtain⟨m,⟨o,es,ep,ho,r⟩,_⟩:=id I.loc
 obtain⟨sl,hL⟩:=u.any ho I.free (by simp)
 exact I.step (g':=s.gens) (d':=s.drawn) (ch:=[]) (λ_ z=>nomatch z) (λb o _ hb _ e n=>u.keep b o e n hb (by simp)) (λb o _ hb _ e n=>u.slot b o e n hb (by simp)) (λb o _ e n=>u.free b o e n (by simp)) (λb o _ e=>u.there b o e (by simp)) u.tups u.frzs u.tbls (λm' hm=>by
  obtain⟨o',es',ep',ho',r'⟩:=hm
  rw[ho] at ho';cases ho'
  exact⟨_,es',ep',hL,r'⟩) hok I.bare
theorem Inv.call {g':Array GenState}{t':Nat}{d':Drawn}{ch:List Addr}(I:Inv X pins σ H s) (u:Un (frs X.stack) ch H H' s.heap h') (hok:HOk X.prog X.w H' h') (hg:AllBare g')
  (hch:∀b∈ch,(b∈X.ex\/X.s₀.heap.objs.size<=b)/\b≠X.env.locals/\(∀x c,X.env.cells.lookup x=some c->c≠b)/\∀p∈X.pn++pins,p.1≠b) :
  Inv X pins σ H' { s with heap:=h',gens:=g',drawn:=d',toks:=t' }:=by
 obtain⟨m,⟨o,es,ep,ho,r⟩,_⟩:=id I.loc
 obtain⟨sl,hL⟩:=u.any ho I.free λz=>(hch _ z).2.1 rfl
 exact I.step (ch:=ch) hch (λb o hL hb hc e n=>u.keep b o e n (λz=>(List.mem_cons.mp (I.stkSub b z)).elim hL hb) hc) (λb o _ _ hc e n=>u.any e n hc) (λb o hc e n=>u.free b o e n hc) (λb o hc e=>u.there b o e hc) u.tups u.frzs u.tbls (λm' hm=>by
  obtain⟨o',es',ep',ho',r'⟩:=hm
  rw[ho] at ho';cases ho'
  exact⟨_,es',ep',hL,r'⟩) hok hg
theorem Inv.turned {t':Nat}{it:Addr}(I:Inv X pins σ H s) (k:∀b o,b≠it->s.heap.get? b=some o->h'.get? b=some o) (hn:H it=none) (hL:it≠X.env.locals)
  (h1:it∈X.ex\/X.s₀.heap.objs.size<=it) (h2:∀x c,X.env.cells.lookup x=some c->c≠it) (h3:∀p∈X.pn++pins,p.1≠it):Inv X pins σ H { s with heap:=h',toks:=t' }:=by
 have nit:∀b u,H b=some u->b≠it:=λb u e z=>by rw[z,hn] at e;cases e
 refine I.step (g':=s.gens) (d':=s.drawn) (ch:=[it]) (λb hb=>?_) (λb o _ _ hc e _=>k b o (λz=>hc (by simp[z])) e) (λb o _ _ hc e _=>⟨o.slots,k b o (λz=>hc (by simp[z])) e⟩) (λ_ _ _ _ n=>n)
  (λb o hc e=>⟨o,k b o (λz=>hc (by simp[z])) e⟩) (λ_ _ e=>e) (λ_ _ _ e=>e) (λb ps e=>⟨#[],by rw[e];simp⟩) (λm hm=>?_) (λb u e=>?_) I.bare
 ·have e:b=it:=by simpa using hb
  subst e
  exact⟨h1,hL,h2,h3⟩
 ·obtain⟨o,es,ep,ho,r⟩:=hm
  exact⟨o,es,ep,k _ o (Ne.symm hL) ho,r⟩
 ·refine (I.hok b u e).stay (λc v hc q=>k c v ?_ q) (λ_ q=>q) λ_ _ q=>q
  rcases hc with z|z
  ·rw[z];exact nit b u e
  ·exact nit c _ z
theorem Inv.tok (I:Inv X pins σ H s) (t:Nat):Inv X pins σ H { s with toks:=t }:=I.un (h':=s.heap) (t':=t) Un.refl I.hok
theorem Inv.kept {t':Nat}(I:Inv X pins σ H s) (k:∀b u,s.heap.get? b=some u->h'.get? b=some u):Inv X pins σ H { s with heap:=h',toks:=t' }:=I.un (Un.kept k) (I.hok.kept k)
theorem Inv.laid {a:Addr}{o:HO}{t':Nat}(I:Inv X pins σ H s) (k:∀b u,s.heap.get? b=some u->h'.get? b=some u) (hp:s.heap.objs.size<=a) (new:ObjOk X.prog X.w (upd H a o) h' a o) :
  Inv X pins σ (upd H a o) { s with heap:=h',toks:=t' }:=I.un (Un.laid k hp (I.hok.fresh hp)) (I.hok.laid k hp new)
theorem Inv.write {x e:Addr}{o:HO}{t':Nat}(I:Inv X pins σ H s) (mu:Mut (H x)) (he:e=x\/H e=some (.own x)) (k:∀b u,b≠e->s.heap.get? b=some u->h'.get? b=some u) (heo:∃u,h'.get? e=some u)
  (new:ObjOk X.prog X.w (upd H x o) h' x o):Inv X pins σ (upd H x o) { s with heap:=h',toks:=t' }:=I.un (Un.write mu he k heo) (I.hok.write mu he k heo new)
theorem Inv.pins_of {pins':List (Addr×Obj)}(I:Inv X pins σ H s) (h:∀p∈pins',s.heap.get? p.1=some p.2/\H p.1=none/\p.1≠X.env.locals/\p.1∉X.fs/\∀v,p.2.data≠.cell v):Inv X pins' σ H s:=
 ⟨I.ok,I.os,I.bare,I.base,I.loc,I.cell,I.free,I.freeC,λp hp=>(List.mem_append.mp hp).elim (λz=>I.pin p (List.mem_append_left _ z)) (h p),I.hok,I.len⟩
theorem nodup_ix {N:List Str}(hN:N.Nodup){i j:Nat}{x:Str}(a:N[i]?=some x) (b:N[j]?=some x):i=j:=by
 obtain⟨h1,e1⟩:=gS_ a
 obtain⟨h2,e2⟩:=gS_ b
 exact (List.getElem_inj hN).mp (e1.trans e2.symm)
theorem store_ok2 {M:Model}{A:Around}{E:Value->Shared->Prop}{i:Nat}{x:Str}{v:V}{u:Value}{Q:Unit->Shared->Prop}(I:Inv X pins σ H s) (hN:X.N.Nodup) (hi:X.N[i]?=some x) (hx:Loc X.env.scope x) (r:RelV v u)
  (h:∀s',Inv X pins (σ.set i (some v)) H s'->(∃a,Heap.SameBut a s.heap s'.heap/\(a=X.env.locals\/X.env.cells.lookup x=some a))->Q () s') (hf:X.fn x=true\/X.env.scope.names.lookup x=some .local:=by first|exact .inl rfl|exact .inr rfl|assumption):wpAny M A (storeName X.env x u) Q E s:=by
 obtain⟨m,hn,hl⟩:=id I.loc
 have hcls:(X.env.scope.kind==.class||(X.env.scope.kind==.module&&X.env.locals != X.env.globals))=false:=by rw[I.ok.kind];rfl
 have hiσ:i<σ.length:=by rw[I.len];exact (gS_ hi).1
 have cne:=I.cne
 have tracked:∀{a:Addr}{h':Heap},(∃o,s.heap.get? a=some o/\H a=none)->Heap.SameBut a s.heap h'->HOk X.prog X.w H h':=λ{a h'} ha hs b ob e=>by
  obtain⟨_,_,hfree⟩:=ha
  refine (I.hok b ob e).stay (λc w' hc q=>(hs.2 c ?_).trans q) (λ_ q=>q) λ_ _ q=>q
  rintro rfl
  rcases hc with rfl|hc
  ·rw[hfree] at e;cases e
  ·rw[hfree] at hc;cases hc
 rcases hx with hk|hk
 ·refine wpAny_storeName_local hk hn (λh' hn' hs=>?_) hcls
  obtain⟨oL,_,_,hoL,_⟩:=id hn
  refine h _ ⟨I.ok,I.os,I.bare,⟨λb o e n hb hx=>?_,λb o e n hb hx=>?_,I.base.free,λb o e hx=>?_,I.base.tups,I.base.frzs,I.base.tbls⟩,⟨_,hn',λj y v' e1 e2 e3=>?_⟩,λy c e=>?_,I.free,I.freeC,λp hp=>?_,tracked ⟨oL,hoL,I.free⟩ hs,by simpa using I.len⟩ ⟨_,hs,.inl rfl⟩
  ·exact (hs.2 b (Nat.ne_of_lt (Nat.lt_of_lt_of_le (Heap.lt_size e) I.ok.above))).trans (I.base.keep b o e n hb hx)
  ·obtain⟨sl,e1⟩:=I.base.slot b o e n hb hx
   exact⟨sl,(hs.2 b (Nat.ne_of_lt (Nat.lt_of_lt_of_le (Heap.lt_size e) I.ok.above))).trans e1⟩
  ·obtain⟨o',e1⟩:=I.base.there b o e hx
   exact⟨o',(hs.2 b (Nat.ne_of_lt (Nat.lt_of_lt_of_le (Heap.lt_size e) I.ok.above))).trans e1⟩
  ·by_cases hj:j=i
   ·subst hj
    rw[hi] at e1;cases e1
    rw[List.getElem?_set_self hiσ] at e2
    cases e2
    exact⟨u,r,.inl ⟨hk,by simp⟩⟩
   ·rw[List.getElem?_set_ne (Ne.symm hj)] at e2
    obtain⟨u',r',q⟩:=hl j y v' e1 e2 e3
    refine⟨u',r',?_⟩
    rcases q with ⟨k,e⟩|⟨k,c,e,z⟩
    ·refine .inl ⟨k,?_⟩
     have:y≠x:=λe=>hj (nodup_ix hN e1 (e▸hi))
     simp[this,e]
    ·exact .inr ⟨k,c,e,z.sameBut hs (cne y c e)⟩
  ·obtain⟨w',z⟩:=I.cell y c e
   exact⟨w',z.sameBut hs (cne y c e)⟩
  ·obtain⟨e,n,ne,nf,d⟩:=I.pin p hp
   exact⟨(hs.2 p.1 ne).trans e,n,ne,nf,d⟩
 ·have hfn:X.fn x=true:=by
   rcases hf with z|z
   ·exact z
   ·rw[z] at hk;cases hk
  obtain⟨c,hc⟩:=I.ok.has x (.inl hk)
  obtain⟨w',z⟩:=I.cell x c hc
  refine wpAny_storeName_cell I.ok.kind hk hc z (λh' hc' hs=>?_)
  obtain⟨oc,hoc,hocd⟩:=id z
  refine h { s with heap:=h' } ⟨I.ok,I.os,I.bare,⟨λb o e n hb hx=>?_,λb o e n hb hx=>?_,I.base.free,λb o e hx=>?_,I.base.tups,I.base.frzs,I.base.tbls⟩,⟨m,hn.sameBut hs (Ne.symm (cne x c hc)),λj y v' e1 e2 e3=>?_⟩,λy c' e=>?_,I.free,I.freeC,λp hp=>?_,tracked ⟨oc,hoc,I.freeC x c hc⟩ hs,by simpa using I.len⟩ ⟨c,hs,.inr hc⟩
  ·exact (hs.2 b (Nat.ne_of_lt (Nat.lt_of_lt_of_le (Heap.lt_size e) (I.ok.cab x c hfn hc)))).trans (I.base.keep b o e n hb hx)
  ·obtain⟨sl,e1⟩:=I.base.slot b o e n hb hx
   exact⟨sl,(hs.2 b (Nat.ne_of_lt (Nat.lt_of_lt_of_le (Heap.lt_size e) (I.ok.cab x c hfn hc)))).trans e1⟩
  ·obtain⟨o',e1⟩:=I.base.there b o e hx
   exact⟨o',(hs.2 b (Nat.ne_of_lt (Nat.lt_of_lt_of_le (Heap.lt_size e) (I.ok.cab x c hfn hc)))).trans e1⟩
  ·by_cases hj:j=i
   ·subst hj
    rw[hi] at e1;cases e1
    rw[List.getElem?_set_self hiσ] at e2
    cases e2
    exact⟨u,r,.inr ⟨.inl hk,c,hc,hc'⟩⟩
   ·rw[List.getElem?_set_ne (Ne.symm hj)] at e2
    obtain⟨u',r',q⟩:=hl j y v' e1 e2 e3
    refine⟨u',r',?_⟩
    rcases q with q|⟨k,c',e,z'⟩
    ·exact .inl q
    ·refine .inr ⟨k,c',e,z'.sameBut hs ?_⟩
     rintro rfl
     exact hj (nodup_ix hN e1 (I.ok.inj _ _ _ e hc▸hi))
  ·by_cases hcc:c'=c
   ·subst hcc;exact⟨_,hc'⟩
   ·obtain⟨w2,z2⟩:=I.cell y c' e
    exact⟨w2,z2.sameBut hs hcc⟩
  ·obtain⟨e,n,ne,nf,d⟩:=I.pin p hp
   refine⟨(hs.2 p.1 ?_).trans e,n,ne,nf,d⟩
   intro q
   rw[q,hoc] at e
   have q':oc=p.2:=Option.some.inj e
   exact d w' (by rw[<- q'];exact hocd)
theorem store_ok {M:Model}{A:Around}{E:Value->Shared->Prop}{i:Nat}{x:Str}{v:V}{u:Value}{Q:Unit->Shared->Prop}(I:Inv X pins σ H s) (hN:X.N.Nodup) (hi:X.N[i]?=some x) (hx:Loc X.env.scope x) (r:RelV v u)
  (h:∀s',Inv X pins (σ.set i (some v)) H s'->Q () s') (hf:X.fn x=true\/X.env.scope.names.lookup x=some .local:=by first|exact .inl rfl|exact .inr rfl|assumption):wpAny M A (storeName X.env x u) Q E s:=
 store_ok2 I hN hi hx r (λs' I' _=>h s' I') hf
theorem Inv.call' {s':Shared}{ch:List Addr}(I:Inv X pins σ H s) (ho:s'.os=s.os) (u:Un (frs X.stack) ch H H' s.heap s'.heap) (hok:HOk X.prog X.w H' s'.heap) (hg:AllBare s'.gens)
  (hch:∀b∈ch,(b∈X.ex\/X.s₀.heap.objs.size<=b)/\b≠X.env.locals/\(∀x c,X.env.cells.lookup x=some c->c≠b)/\∀p∈X.pn++pins,p.1≠b):Inv X pins σ H' s':=by
 obtain⟨h',g',d',t',o'⟩:=s'
 have e:o'=s.os:=ho
 subst e
 exact I.call (g':=g') (t':=t') (d':=d') u hok hg hch
end
abbrev XK:=Value->Option Addr->Hp->Prop
abbrev St:=List (Option V)
abbrev VK:=V->Hp->Prop
abbrev TE:=St->Hp->VK->Prop
abbrev TT:=St->Hp->(Bool->Hp->Prop)->Prop
abbrev TA:=St->Hp->(List V->Hp->Prop)->Prop
structure Ends where
 nx:St->Hp->Prop
 rt:VK
 bk:St->Hp->Prop:=λ_ _=>False
 ct:St->Hp->Prop:=λ_ _=>False
abbrev TS:=Ends->St->Hp->Prop
def EP (X:Cx) (pins:List (Addr×Obj)) (σ:St) (Q:VK) (u:Value) (s':Shared):Prop:=∃v H',Inv X pins σ H' s'/\RelV v u/\Q v H'
def TP (X:Cx) (pins:List (Addr×Obj)) (σ:St) (Q:Bool->Hp->Prop) (b:Bool) (s':Shared):Prop:=∃H',Inv X pins σ H' s'/\Q b H'
def AP (X:Cx) (pins:List (Addr×Obj)) (σ:St) (Q:List V->Hp->Prop) (us:List Value) (s':Shared):Prop:=∃vs H',Inv X pins σ H' s'/\Vals vs us/\Q vs H'
def SP (X:Cx) (pins:List (Addr×Obj)) (D:Ends) (f:Flow) (s':Shared):Prop:=
 match f with
 |.next=>∃σ' H',Inv X pins σ' H' s'/\D.nx σ' H'
 |.brk=>∃σ' H',Inv X pins σ' H' s'/\D.bk σ' H'
 |.cont=>∃σ' H',Inv X pins σ' H' s'/\D.ct σ' H'
 |.ret u=>∃v σ' H',Inv X pins σ' H' s'/\RelV v u/\D.rt v H'
def PE (X:Cx) (e:Expr) (t:TE):Prop:=
 ∀(pins:List (Addr×Obj)) (s:Shared) (σ:St) (H:Hp) (Q:VK),Inv X pins σ H s->t σ H Q->wpAny (model X.prog X.w) X.A (eval e X.env) (EP X pins σ Q) X.xe s
def PT (X:Cx) (e:Expr) (t:TT):Prop:=
 ∀(pins:List (Addr×Obj)) (s:Shared) (σ:St) (H:Hp) (Q:Bool->Hp->Prop),Inv X pins σ H s->t σ H Q->wpAny (model X.prog X.w) X.A (isTrue e X.env (eval e X.env)) (TP X pins σ Q) X.xe s
def PW (X:Cx) (e:Expr) (t:TT):Prop:=
 ∀(whole:Sem Value) (pins:List (Addr×Obj)) (s:Shared) (σ:St) (H:Hp) (Q:Bool->Hp->Prop),Inv X pins σ H s->t σ H Q->wpAny (model X.prog X.w) X.A (isTrue e X.env whole) (TP X pins σ Q) X.xe s
theorem PW.pt {X:Cx}{e:Expr}{t:TT}(h:PW X e t):PT X e t:=h _
def PA (X:Cx) (es:List Expr) (t:TA):Prop:=
 ∀(pos:Pos) (pins:List (Addr×Obj)) (s:Shared) (σ:St) (H:Hp) (Q:List V->Hp->Prop),Inv X pins σ H s->t σ H Q->wpAny (model X.prog X.w) X.A (spliced (backTo pos (starEach es X.env))) (AP X pins σ Q) X.xe s
def PS (X:Cx) (st:Stmt) (t:TS):Prop:=
 ∀(pins:List (Addr×Obj)) (s:Shared) (σ:St) (H:Hp) (D:Ends),Inv X pins σ H s->t D σ H->wpAny (model X.prog X.w) X.A (exec st X.env) (SP X pins D) X.xe s
def PSs (X:Cx) (st:List Stmt) (t:TS):Prop:=
 ∀(pins:List (Addr×Obj)) (s:Shared) (σ:St) (H:Hp) (D:Ends),Inv X pins σ H s->t D σ H->wpAny (model X.prog X.w) X.A (execs st X.env) (SP X pins D) X.xe s
theorem thn {α:Type}{t:Sem α}{Q Q':α->Shared->Prop}{M:Model}{A:Around}{E:Value->Shared->Prop}{s:Shared}(h:wpAny M A t Q E s) (hQ:∀a s,Q a s->Q' a s):wpAny M A t Q' E s:=wpAny_mono h hQ λ_ _ x=>x
section
variable {X:Cx}
def tVar (i:Nat):TE:=λσ H Q=>∃v,σ[i]?=some (some v)/\Q v H
def tC (v:V):TE:=λ_ H Q=>Q v H
theorem pe_var {i:Nat}{x:Str}{pos:Pos}(hN:X.N[i]?=some x) (hv:Vis X.env.scope x) (hd:(x==("__debug__" : Str))=false:=by decide) (hcd:(x==("__classdict__" : Str))=false:=by decide):PE X (.Name x pos) (tVar i):=by
 intro pins s σ H Q I h
 obtain⟨v,e,h⟩:=h
 obtain⟨m,hn,hl⟩:=I.loc
 obtain⟨u,r,l⟩:=hl i x v hN e hv
 have fin:EP X pins σ Q u s:=⟨v,H,I,r,h⟩
 rcases l with ⟨hk,hm⟩|⟨hk,c,hc,hcell⟩
 ·exact wpAny_Name (wpAny_loadName_local I.ok.kind hk hn hm fin) hd
 ·rcases hk with hk|hk
  ·exact wpAny_Name (wpAny_loadName_cell I.ok.kind hk hc hcell fin) hd
  ·exact wpAny_Name (wpAny_loadName_free I.ok.kind hk hc hcell fin hcd) hd
theorem qa4 {i j pos}:PE X (.Constant (.int i) j pos) (tC (.int i)):=λ_ _ _ H _ I h=>wpAny_Constant_int ⟨.int i,H,I.tok _,⟨_,rfl⟩,h⟩
theorem pe_bl {b j pos}:PE X (.Constant (.bool b) j pos) (tC (.bl b)):=λ_ _ _ H _ I h=>Constant_bool ⟨.bl b,H,I,rfl,h⟩
def Gl (X:Cx) (x:Str):Prop:=X.env.kindOf x=some .globalImplicit
theorem ld_glob {E:Value->Shared->Prop}{pins:List (Addr×Obj)}{s:Shared}{σ:St}{H:Hp}{x:Str}{u:Value}{pos:Pos}{Q:Value->Shared->Prop}(I:Inv X pins σ H s) (hg:Gl X x) (hm:X.mg x=some u) (h:Q u s)
  (hd:(x==("__debug__" : Str))=false:=by decide):wpAny (model X.prog X.w) X.A (eval (.Name x pos) X.env) Q E s:=
 Calls.Name_function_global I.ok.kind hg (Calls.loadGlobal_global (by rw[I.ok.glob];exact I.mod.glob.keeps I.bk) hm h) hd
theorem ld_blt {E:Value->Shared->Prop}{pins:List (Addr×Obj)}{s:Shared}{σ:St}{H:Hp}{x:Str}{u:Value}{pos:Pos}{Q:Value->Shared->Prop}(I:Inv X pins σ H s) (hg:Gl X x) (hm:X.mg x=none) (hv:bootBuiltins x=some u) (h:Q u s)
  (hn:x ≠ "__name__":=by decide) (hd:(x==("__debug__" : Str))=false:=by decide):wpAny (model X.prog X.w) X.A (eval (.Name x pos) X.env) Q E s:=by
 obtain⟨mb,h1,h2⟩:=I.mod.blt
 exact Calls.Name_function_global I.ok.kind hg (Calls.loadGlobal_builtin (by rw[I.ok.glob];exact I.mod.glob.keeps I.bk) hm (by rw[I.ok.blt];exact h1.keeps I.bk) ((h2 x hn).trans hv) h) hd
theorem pe_glob {x:Str}{v:V}{u:Value}{pos:Pos}(hg:Gl X x) (hm:X.mg x=some u) (r:RelV v u) (hd:(x==("__debug__" : Str))=false:=by decide):PE X (.Name x pos) (tC v):=
 λ_ _ _ H _ I h=>ld_glob I hg hm ⟨v,H,I,r,h⟩ hd
theorem pe_bltn {x:Str}{v:V}{u:Value}{pos:Pos}(hg:Gl X x) (hm:X.mg x=none) (hv:bootBuiltins x=some u) (r:RelV v u) (hn:x ≠ "__name__":=by decide) (hd:(x==("__debug__" : Str))=false:=by decide):PE X (.Name x pos) (tC v):=
 λ_ _ _ H _ I h=>ld_blt I hg hm hv ⟨v,H,I,r,h⟩ hn hd
variable {a b:Expr}{ta tb:TE}{pos:Pos}
def PC (X:Cx) (op:CmpOp) (a b:Expr) (t:TE):Prop:=
 ∀(pins:List (Addr×Obj)) (s:Shared) (σ:St) (H:Hp) (Q:VK),Inv X pins σ H s->t σ H Q ->
  wpAny (model X.prog X.w) X.A (eval a X.env) (λv s₁=>wpAny (model X.prog X.w) X.A (eval b X.env) (λu s₂=>wpAny (model X.prog X.w) X.A (compareOp op v u) (EP X pins σ Q) X.xe s₂) X.xe s₁) X.xe s
def tB (t:TE):TT:=λσ H Q=>t σ H λx H1=>∃c,x=.bl c/\Q c H1
theorem pt_cmp {op:CmpOp}{t:TE}(h:PC X op a b t) (h1:behindInMarks op b=false:=by first|exact nobehind _ (by decide) (by decide)|rfl):PT X (.Compare a [op] [b] pos) (tB t):=by
 intro pins s σ H Q I hw
 refine wpAny_isTrue_Compare1 (thn (h pins s σ H _ I hw) λv s1 h1=>thn h1 λu s2 h2=>thn h2 λc s3 ⟨x,H1,I1,r1,q1⟩=>?_) h1
 obtain⟨d,rfl,q⟩:=q1
 cases r1
 exact wpAny_truthy_bool ⟨H1,I1,q⟩
theorem pt_val {e:Expr}{t:TE}(h:PE X e t) (he:∀whole,isTrue e X.env whole=(do let v <- whole;standAt e.pos;holding [v] (truthy v)):=by intro _;rfl):PT X e (tB t):=by
 intro pins s σ H Q I hw
 refine isTrue_plain (thn (h pins s σ H _ I hw) λv s1 ⟨x,H1,I1,r1,q1⟩=>?_) (he _)
 obtain⟨d,rfl,q⟩:=q1
 cases r1
 exact wpAny_truthy_bool ⟨H1,I1,q⟩
variable {tA tB':TT}{rest:List Expr}
def tAnd (t u:TT):TT:=λσ H Q=>t σ H λc H1=>if c=true then u σ H1 Q else Q false H1
def tOr (t u:TT):TT:=λσ H Q=>t σ H λc H1=>if c=true then Q true H1 else u σ H1 Q
def tNot (t:TT):TT:=λσ H Q=>t σ H λc H1=>Q (!c) H1
theorem pw_and1 (ha:PT X a tA):PW X (.BoolOp .And [a] pos) tA:=by
 intro wh pins s σ H Q I h
 refine isTrue_and (thn (ha pins s σ H Q I h) λc s1 e=>?_)
 cases c with
 |true=>exact isTrue_and_nil e
 |false=>exact e
theorem pw_or1 (ha:PT X a tA):PW X (.BoolOp .Or [a] pos) tA:=by
 intro wh pins s σ H Q I h
 refine isTrue_or (thn (ha pins s σ H Q I h) λc s1 e=>?_)
 cases c with
 |false=>exact isTrue_or_nil e
 |true=>exact e
theorem pw_and (ha:PT X a tA) (hb:PW X (.BoolOp .And (b::rest) pos) tB'):PW X (.BoolOp .And (a::b::rest) pos) (tAnd tA tB'):=by
 intro wh pins s σ H Q I h
 refine isTrue_and (thn (ha pins s σ H _ I h) λc s1 ⟨H1,I1,q1⟩=>?_)
 cases c with
 |true=>exact hb wh pins s1 σ H1 Q I1 q1
 |false=>exact⟨H1,I1,q1⟩
theorem pw_or (ha:PT X a tA) (hb:PW X (.BoolOp .Or (b::rest) pos) tB'):PW X (.BoolOp .Or (a::b::rest) pos) (tOr tA tB'):=by
 intro wh pins s σ H Q I h
 refine isTrue_or (thn (ha pins s σ H _ I h) λc s1 ⟨H1,I1,q1⟩=>?_)
 cases c with
 |true=>exact⟨H1,I1,q1⟩
 |false=>exact hb wh pins s1 σ H1 Q I1 q1
theorem pt_not (ha:PT X a tA):PT X (.UnaryOp .Not a pos) (tNot tA):=by
 intro pins s σ H Q I h
 exact isTrue_not (ha pins s σ H (λc H1=>Q (!c) H1) I h)
def tAndV (ta tb:TE):TE:=λσ H Q=>ta σ H λx H1=>∃c,x=.bl c/\if c=true then tb σ H1 Q else Q (.bl false) H1
def tNotV (ta:TE):TE:=λσ H Q=>ta σ H λx H1=>∃c,x=.bl c/\Q (.bl (!c)) H1
theorem pe_one {op}{t:TE}(h:PE X a t):PE X (.BoolOp op [a] pos) t:=λpins s σ H Q I hw=>BoolOp_one (h pins s σ H Q I hw)
theorem pe_and (ha:PE X a ta) (hb:PE X (.BoolOp .And (b::rest) pos) tb):PE X (.BoolOp .And (a::b::rest) pos) (tAndV ta tb):=by
 intro pins s σ H Q I h
 refine BoolOp_and (thn (ha pins s σ H _ I h) λv s1 ⟨x,H1,I1,r1,q1⟩=>?_)
 obtain⟨c,rfl,q1⟩:=q1
 cases r1
 refine wpAny_truthy_bool ?_
 cases c with
 |true=>exact hb pins s1 σ H1 Q I1 q1
 |false=>exact⟨.bl false,H1,I1,rfl,q1⟩
theorem pe_not (ha:PE X a ta):PE X (.UnaryOp .Not a pos) (tNotV ta):=by
 intro pins s σ H Q I h
 refine UnaryOp_ (thn (ha pins s σ H _ I h) λv s1 ⟨x,H1,I1,r1,q1⟩=>?_)
 obtain⟨c,rfl,q1⟩:=q1
 cases r1
 exact not_of (wpAny_truthy_bool ⟨.bl (!c),H1,I1,rfl,q1⟩)
def tIf (t:TT) (ta tb:TE):TE:=λσ H Q=>t σ H λc H1=>if c=true then ta σ H1 Q else tb σ H1 Q
theorem pe_ifExp {c:Expr}(hc:PT X c tA) (ha:PE X a ta) (hb:PE X b tb):PE X (.IfExp c a b pos) (tIf tA ta tb):=by
 intro pins s σ H Q I h
 refine wpAny_IfExp (thn (hc pins s σ H _ I h) λd s1 ⟨H1,I1,q1⟩=>?_)
 cases d with
 |true=>exact ha pins s1 σ H1 Q I1 q1
 |false=>exact hb pins s1 σ H1 Q I1 q1
end
def SqL (K:PySem.W.Frag) (H:Hp) (a:Addr) (xs:List V):Prop:=
 Rd H a (.lst xs) \/
  ∃(o:Obj) (its:Array Value) (n:Nat),K.lookup a=some o/\o.cls=.type "list" /\ o.dict=none/\o.data=.seq its n/\its.size<=sizeLine/\Vals xs its.toList
def SqT (K:PySem.W.Frag) (H:Hp) (a:Addr) (xs:List V):Prop:=
 Rd H a (.tup xs) \/
  ∃(o:Obj) (its:Array Value) (n:Nat),K.lookup a=some o/\o.cls=.type "tuple" /\ o.data=.seq its n/\its.size<=sizeLine/\Vals xs its.toList
def absV:Value->Option V
 |.none=>some .non
 |.bool b=>some (.bl b)
 |.int i _=>some (.int i)
 |.str x _=>some (.str x)
 |.bytes b _=>some (.byt b)
 |.float b _=>some (.flt b)
 |.ref a=>some (.ref a)
 |.type n=>some (.ty n)
 |_=>none
theorem RelV.abs {x:V}{u:Value}(r:RelV x u):absV u=some x:=by
 cases x with
 |non=>cases r;rfl
 |bl _=>cases r;rfl
 |int _=>obtain⟨t,rfl⟩:=r;rfl
 |str _=>obtain⟨t,rfl⟩:=r;rfl
 |byt _=>obtain⟨t,rfl⟩:=r;rfl
 |flt _=>obtain⟨t,rfl⟩:=r;rfl
 |ref _=>cases r;rfl
 |ty _=>cases r;rfl
theorem RelV.inj {x y:V}{u:Value}(r:RelV x u) (q:RelV y u):x=y:=Option.some.inj (r.abs.symm.trans q.abs)
theorem Vals.inj:∀{xs ys:List V}{us:List Value},Vals xs us->Vals ys us->xs=ys
 |_,_,_,.nil,.nil=>rfl
 |_,_,_,.cons r t,.cons r' t'=>by rw[r.inj r',Vals.inj t t']
section
variable {X:Cx}{pins:List (Addr×Obj)}{σ:St}{H:Hp}{s:Shared}{a:Addr}{xs ys:List V}
theorem SqL.of {K:PySem.W.Frag}(h:H a=some (.lst xs)):SqL K H a xs:=.inl (.inl h)
theorem SqT.of {K:PySem.W.Frag}(h:H a=some (.tup xs)):SqT K H a xs:=.inl (.inl h)
theorem Inv.list (I:Inv X pins σ H s) (h:SqL X.K H a xs):∃its:List Value,Vals xs its/\PlainL s.heap a its.toArray/\xs.length<=sizeLine:=by
 rcases h with h|⟨o,its,n,hk,hc,hd,hs,hz,r⟩
 ·obtain⟨z,its,n,r,e⟩:=h.ok I.hok
  exact⟨its,r,⟨_,n,e,rfl,rfl,rfl⟩,z⟩
 ·refine⟨its.toList,r,⟨o,n,I.kIn a o hk,hc,hd,by simpa using hs⟩,?_⟩
  have e:=r.length
  simp only[Array.length_toList] at e
  lia
theorem Inv.tuple (I:Inv X pins σ H s) (h:SqT X.K H a xs):∃its:List Value,Vals xs its/\IsTup s.heap a its.toArray/\xs.length<=sizeLine:=by
 rcases h with h|⟨o,its,n,hk,hc,hs,hz,r⟩
 ·obtain⟨z,its,r,p⟩:=h.ok I.hok
  exact⟨its,r,p,z⟩
 ·refine⟨its.toList,r,⟨o,I.kIn a o hk,hc,n,by simpa using hs⟩,?_⟩
  have e:=r.length
  simp only[Array.length_toList] at e
  lia
theorem Inv.list_inj (I:Inv X pins σ H s) (h:SqL X.K H a xs) (h':SqL X.K H a ys):xs=ys:=by
 obtain⟨its,r,⟨o,n,e,_,_,d⟩,_⟩:=I.list h
 obtain⟨its',r',⟨o',n',e',_,_,d'⟩,_⟩:=I.list h'
 rw[e] at e';cases e'
 rw[d] at d'
 injection d' with d1 _
 have:its=its':=by simpa using congrArg Array.toList d1
 subst this
 exact r.inj r'
theorem Inv.tuple_inj (I:Inv X pins σ H s) (h:SqT X.K H a xs) (h':SqT X.K H a ys):xs=ys:=by
 obtain⟨its,r,⟨o,e,_,n,d⟩,_⟩:=I.tuple h
 obtain⟨its',r',⟨o',e',_,n',d'⟩,_⟩:=I.tuple h'
 rw[e] at e';cases e'
 rw[d] at d'
 injection d' with d1 _
 have:its=its':=by simpa using congrArg Array.toList d1
 subst this
 exact r.inj r'
end
abbrev Cx.wish (X:Cx) (E:Value->Shared->Prop):Cx:={ X with xe:=E }
abbrev Cx.nox (X:Cx):Cx:=X.wish λ_ _=>False
theorem Cx.Ok.wish {X:Cx}(ok:X.Ok) (E:Value->Shared->Prop):(X.wish E).Ok:=
 ⟨ok.mod,ok.kind,ok.glob,ok.blt,ok.above,ok.inj,ok.has,ok.cab,ok.hd,ok.frames,ok.stk,ok.exf,ok.bs,ok.bsz,ok.noex,ok.exfs,ok.funs,ok.frf⟩
theorem Cx.Ok.unwish {X:Cx}{E:Value->Shared->Prop}(ok:(X.wish E).Ok):X.Ok:=
 ⟨ok.mod,ok.kind,ok.glob,ok.blt,ok.above,ok.inj,ok.has,ok.cab,ok.hd,ok.frames,ok.stk,ok.exf,ok.bs,ok.bsz,ok.noex,ok.exfs,ok.funs,ok.frf⟩
section
variable {X:Cx}{pins:List (Addr×Obj)}{σ:St}{H:Hp}{s:Shared}{E:Value->Shared->Prop}
theorem Inv.wish (I:Inv X pins σ H s) (E:Value->Shared->Prop):Inv (X.wish E) pins σ H s:=⟨I.ok.wish E,I.os,I.bare,I.base,I.loc,I.cell,I.free,I.freeC,I.pin,I.hok,I.len⟩
theorem Inv.unwish (I:Inv (X.wish E) pins σ H s):Inv X pins σ H s:=⟨I.ok.unwish,I.os,I.bare,I.base,I.loc,I.cell,I.free,I.freeC,I.pin,I.hok,I.len⟩
theorem SP.unwish {D:Ends}{f:Flow}{s':Shared}(h:SP (X.wish E) pins D f s'):SP X pins D f s':=by
 cases f with
 |next=>obtain⟨σ',H',I,q⟩:=h;exact⟨σ',H',I.unwish,q⟩
 |brk=>obtain⟨σ',H',I,q⟩:=h;exact⟨σ',H',I.unwish,q⟩
 |cont=>obtain⟨σ',H',I,q⟩:=h;exact⟨σ',H',I.unwish,q⟩
 |ret u=>obtain⟨v,σ',H',I,r,q⟩:=h;exact⟨v,σ',H',I.unwish,r,q⟩
theorem PSs.nox {st:List Stmt}{t:TS}(h:PSs X.nox st t):PSs X st t:=λpins s σ H D I hw=>
 wpAny_mono (h pins s σ H D (I.wish _) hw) (λ_ _ q=>q.unwish) λ_ _ z=>False.elim z
end
section
variable {X:Cx}{st:Stmt}{rest:List Stmt}{t u:TS}{e:Expr}{te:TE}{pos:Pos}
def tNext:TS:=λD σ H=>D.nx σ H
def tSeq (t u:TS):TS:=λD σ H=>t { D with nx:=u D } σ H
theorem pss_nil:PSs X [] tNext:=λ_ _ σ H _ I h=>wpAny_execs_nil ⟨σ,H,I,h⟩
theorem pss_cons (h1:PS X st t) (h2:PSs X rest u):PSs X (st::rest) (tSeq t u):=by
 intro pins s σ H D I h
 refine wpAny_execs_cons (thn (h1 pins s σ H { D with nx:=u D } I h) λf s1 q=>?_)
 cases f with
 |next=>
  obtain⟨σ',H',I',q⟩:=q
  exact h2 pins s1 σ' H' D I' q
 |ret v=>exact q
 |brk=>exact q
 |cont=>exact q
theorem pss_one (h1:PS X st t):PSs X [st] t:=by
 intro pins s σ H D I h
 refine wpAny_execs_cons (thn (h1 pins s σ H D I h) λf s1 q=>?_)
 cases f with
 |next=>exact wpAny_execs_nil q
 |ret v=>exact q
 |brk=>exact q
 |cont=>exact q
theorem Inv.quiet {pins:List (Addr×Obj)}{σ:St}{H:Hp}{s:Shared}(I:Inv X pins σ H s):interactive X.env=false:=by simp[interactive,I.ok.kind]
def tDrop (te:TE):TS:=λD σ H=>te σ H λ_ H1=>D.nx σ H1
theorem ps_expr (he:PE X e te) (hs:swapsWith e none pos.line X.env=pure false:=by rfl):PS X (.Expr e pos) (tDrop te):=by
 intro pins s σ H D I h
 exact wpAny_Expr_any (thn (he pins s σ H _ I h) λv s1 ⟨x,H1,I1,r1,q1⟩=>⟨σ,H1,I1,q1⟩) I.quiet hs
def tRet (te:TE):TS:=λD σ H=>te σ H D.rt
theorem ps_ret (he:PE X e te):PS X (.Return (some e) pos) (tRet te):=by
 intro pins s σ H D I h
 exact wpAny_Return_some (thn (he pins s σ H _ I h) λv s1 ⟨x,H1,I1,r1,q1⟩=>⟨x,σ,H1,I1,r1,q1⟩)
def tRetN:TS:=λD _ H=>D.rt .non H
theorem ps_retN:PS X (.Return none pos) tRetN:=λ_ _ σ H _ I h=>wpAny_Return_none ⟨.non,σ,H,I,rfl,h⟩
def tIfS (c:TT) (t u:TS):TS:=λD σ H=>c σ H λb H1=>if b=true then t D σ H1 else u D σ H1
theorem ps_if {c:Expr}{a b:List Stmt}{tc:TT}(hc:PT X c tc) (ha:PSs X a t) (hb:PSs X b u):PS X (.If c a b pos) (tIfS tc t u):=by
 intro pins s σ H D I h
 refine wpAny_If (thn (hc pins s σ H _ I h) λd s1 ⟨H1,I1,q1⟩=>?_)
 cases d with
 |true=>exact ha pins s1 σ H1 D I1 q1
 |false=>exact hb pins s1 σ H1 D I1 q1
def tNever:TS:=λ_ _ _=>False
theorem pss_never {sts:List Stmt}:PSs X sts tNever:=λ_ _ _ _ _ _ h=>h.elim
end
abbrev TG:=V->St->Hp->(St->Hp->Prop)->Prop
abbrev TGs:=List V->St->Hp->(St->Hp->Prop)->Prop
def PG (X:Cx) (target:Expr) (t:TG):Prop:=
 ∀(pins:List (Addr×Obj)) (s:Shared) (σ:St) (H:Hp) (v:V) (u:Value) (Q:St->Hp->Prop),Inv X pins σ H s->RelV v u->t v σ H Q ->
  wpAny (model X.prog X.w) X.A (assign target X.env u) (λ_ s'=>∃σ' H',Inv X pins σ' H' s'/\Q σ' H') X.xe s
def PGs (X:Cx) (ts:List Expr) (t:TGs):Prop:=
 ∀(pins:List (Addr×Obj)) (s:Shared) (σ:St) (H:Hp) (vs:List V) (us:List Value) (Q:St->Hp->Prop),Inv X pins σ H s->Vals vs us->t vs σ H Q ->
  wpAny (model X.prog X.w) X.A (assignInOrder ((assignEach ts X.env).map (·.2)) us) (λ_ s'=>∃σ' H',Inv X pins σ' H' s'/\Q σ' H') X.xe s
abbrev TSet:=V->V->V->Hp->(Hp->Prop)->Prop
def PSet (X:Cx) (t:TSet):Prop:=
 ∀(pins:List (Addr×Obj)) (s:Shared) (σ:St) (H:Hp) (o i v:V) (ov iv u:Value) (Q:Hp->Prop),Inv X pins σ H s->RelV o ov->RelV i iv->RelV v u->t o i v H Q ->
  wpAny (model X.prog X.w) X.A (setItem ov iv u) (λ_ s'=>∃H',Inv X pins σ H' s'/\Q H') X.xe s
section
variable {X:Cx}{pos:Pos}
def gName (i:Nat):TG:=λv σ H Q=>Q (σ.set i (some v)) H
theorem pg_name {i:Nat}{x:Str}(hN:X.N.Nodup) (hi:X.N[i]?=some x) (hx:Loc X.env.scope x) (hf:X.fn x=true\/X.env.scope.names.lookup x=some .local:=by first|exact .inl rfl|exact .inr rfl|assumption):PG X (.Name x pos) (gName i):=by
 intro pins s σ H v u Q I r h
 exact wpAny_assign_Name (store_ok I hN hi hx r (λs' I'=>⟨_,H,I',h⟩) hf)
def gNil:TGs:=λvs σ H Q=>vs=[]/\Q σ H
def gCons (t:TG) (u:TGs):TGs:=λvs σ H Q=>∃v r,vs=v::r/\t v σ H λσ' H'=>u r σ' H' Q
theorem pgs_nil:PGs X [] gNil:=by
 intro pins s σ H vs us Q I r h
 obtain⟨e,h⟩:=h
 subst e
 cases r
 exact assignInOrder_nil ⟨σ,H,I,h⟩
theorem pgs_cons {e:Expr}{es:List Expr}{t:TG}{u:TGs}(h1:PG X e t) (h2:PGs X es u)
  (hs:(assignEach (e::es) X.env).map (·.2)=assign e X.env::(assignEach es X.env).map (·.2):=by rfl):PGs X (e::es) (gCons t u):=by
 intro pins s σ H vs us Q I r h
 obtain⟨v,vr,e1,h⟩:=h
 subst e1
 cases r with
 |cons r rr=>
  rw[hs]
  refine assignInOrder_cons (thn (h1 pins s σ H _ _ _ I r h) λ_ s1 ⟨σ1,H1,I1,q1⟩=>?_)
  exact h2 pins s1 σ1 H1 _ _ Q I1 rr q1
def gTup (K:PySem.W.Frag) (n:Nat) (t:TGs):TG:=λv σ H Q=>∃a xs,v=.ref a/\SqT K H a xs/\xs.length=n/\t xs σ H Q
theorem pg_tup {es:List Expr}{k:Nat}{t:TGs}{n:Nat}(hc:X.calm=true) (h:PGs X es t)
  (hn:(assignEach es X.env).length=n:=by rfl) (hst:(assignEach es X.env).findIdx? (·.1)=none:=by rfl):PG X (.Tuple es k pos) (gTup X.K n t):=by
 intro pins s σ H v u Q I r hw
 obtain⟨a,xs,e1,hq,hl,hw⟩:=hw
 subst e1
 cases r
 obtain⟨its,rv,ht,hz⟩:=I.tuple hq
 refine assign_Tuple_tuple (I.ok.hd hc) ht (by simp[hn,<- hl,rv.length]) hst λh' hx=>?_
 have I1:Inv X pins σ H { s with heap:=h' }:=I.kept (t':=s.toks) λb o e=>hx b o (Nat.ne_of_lt (Heap.lt_size e)) e
 exact h pins _ σ H xs _ Q I1 (by simpa using rv) hw
def gSub (to ti:TE) (t:TSet):TG:=λv σ H Q=>to σ H λo H1=>ti σ H1 λi H2=>t o i v H2 λH3=>Q σ H3
theorem pg_sub {o i:Expr}{to ti:TE}{t:TSet}(ho:PE X o to) (hi:PE X i ti) (hs:PSet X t)
  (ha:∀v,assign (.Subscript o i pos) X.env v=(do
   let ov <- holding [v] (eval o X.env)
   let iv <- holding [v,ov] (eval i X.env)
   standAt pos
   holding [v,ov,iv] (setItem ov iv v)
   release [v,ov,iv] []):=by intro _;rfl):PG X (.Subscript o i pos) (gSub to ti t):=by
 intro pins s σ H v u Q I r h
 rw[ha]
 refine wpAny_bind (wpAny_holding (thn (ho pins s σ H _ I h) λov s1 ⟨x,H1,I1,r1,q1⟩=>?_))
 refine wpAny_bind (wpAny_holding (thn (hi pins s1 σ H1 _ I1 q1) λiv s2 ⟨y,H2,I2,r2,q2⟩=>?_))
 refine wpAny_bind (wpAny_standAt (wpAny_bind (wpAny_holding (thn (hs pins s2 σ H2 x y v ov iv u _ I2 r1 r2 r q2) λ_ s3 ⟨H3,I3,q3⟩=>?_))))
 exact wpAny_release ⟨σ,H3,I3,q3⟩
def tAsg (te:TE) (g:TG):TS:=λD σ H=>te σ H λx H1=>g x σ H1 D.nx
theorem ps_asg {tg e:Expr}{te:TE}{g:TG}(he:PE X e te) (hg:PG X tg g) (hs:swapsWithSole [tg] e pos.line X.env=pure false:=by rfl) (hw:swappedStores [tg] e X.env=pure none:=by rfl)
  (h1:(assignEach [tg] X.env).map (·.2)=[assign tg X.env]:=by rfl):PS X (.Assign [tg] e pos) (tAsg te g):=by
 intro pins s σ H D I h
 refine wpAny_Assign_stores (thn (he pins s σ H _ I h) λv s1 ⟨x,H1,I1,r1,q1⟩=>?_) hs hw
 rw[h1]
 exact thn (hg pins s1 σ H1 x v _ I1 r1 q1) λ_ s2 q=>q
theorem ps_set {i:Nat}{x:Str}{e:Expr}{te:TE}{pos':Pos}(hN:X.N.Nodup) (hi:X.N[i]?=some x) (hx:Loc X.env.scope x) (he:PE X e te) (hs:swapsWith e (some (.Name x pos')) pos.line X.env=pure false:=by rfl) (hf:X.fn x=true\/X.env.scope.names.lookup x=some .local:=by first|exact .inl rfl|exact .inr rfl|assumption) :
  PS X (.Assign [.Name x pos'] e pos) (tAsg te (gName i)):=by
 intro pins s σ H D I h
 refine wpAny_Assign_Name (thn (he pins s σ H _ I h) λv s1 ⟨y,H1,I1,r1,q1⟩=>?_) hs
 exact store_ok I1 hN hi hx r1 (λs2 I2=>⟨_,H1,I2,q1⟩) hf
end
section
variable {X:Cx}{pos:Pos}
def tWhile (c:TT) (tb:TS):TS:=λD σ H=>∃W:Nat->St->Hp->Prop,(∃m,W m σ H)/\∀m σ H,W m σ H ->
 c σ H λb H1=>if b=true then ∃N:St->Hp->Prop,(∀σ' H',N σ' H'->∃m',m'<m/\W m' σ' H')/\tb { D with nx:=N,ct:=N,bk:=D.nx } σ H1 else D.nx σ H1
theorem ps_while {c:Expr}{body:List Stmt}{tc:TT}{tb:TS}(hp:PassesOwn (model X.prog X.w) X.A X.env X.xe) (hc:PT X c tc) (hb:PSs X body tb):PS X (.While c body [] pos) (tWhile tc tb):=by
 intro pins s σ H D I h
 obtain⟨W,⟨m0,w0⟩,turn⟩:=h
 refine wpAny_While (codeAny_whileLoop (λn s'=>∃σ' H',Inv X pins σ' H' s'/\W n σ' H') ?_ m0 ⟨σ,H,I,w0⟩)
 rintro n s1 ⟨σ1,H1,I1,w1⟩
 refine wpAny_passesOwn hp (thn (hc pins s1 σ1 H1 _ I1 (turn n σ1 H1 w1)) λb s2 ⟨H2,I2,q2⟩=>?_)
 cases b with
 |true=>
  obtain⟨N,hN,q2⟩:=q2
  rw[if_pos rfl]
  refine wpAny_passesOwn hp (thn (hb pins s2 σ1 H2 _ I2 q2) λf s3 q3=>?_)
  cases f with
  |next=>
   obtain⟨σ3,H3,I3,n3⟩:=q3
   obtain⟨m',hm,w3⟩:=hN σ3 H3 n3
   exact⟨m',hm,σ3,H3,I3,w3⟩
  |cont=>
   obtain⟨σ3,H3,I3,n3⟩:=q3
   obtain⟨m',hm,w3⟩:=hN σ3 H3 n3
   exact⟨m',hm,σ3,H3,I3,w3⟩
  |brk=>exact q3
  |ret v=>exact q3
 |false=>
  rw[if_neg Bool.false_ne_true]
  exact wpAny_execs_nil ⟨σ1,H2,I2,q2⟩
end
structure It where
 go:Nat->Hp->Prop
 yld:Nat->Hp->V->Hp->Prop
 stop:Nat->Hp->Prop
def FpOk (X:Cx) (pins:List (Addr×Obj)) (H:Hp) (b:Addr):Prop:=
 H b=none/\b≠X.env.locals/\b∉X.fs/\(b∈X.ex\/X.s₀.heap.objs.size<=b)/\(∀x c,X.env.cells.lookup x=some c->c≠b)/\∀p∈X.pn++pins,p.1≠b
theorem Inv.fpOk {X:Cx}{pins:List (Addr×Obj)}{σ:St}{H H':Hp}{s:Shared}{b:Addr}(I:Inv X pins σ H s) (hb:s.heap.objs.size<=b) (hn:H' b=none):FpOk X pins H' b:=by
 refine⟨hn,Nat.ne_of_gt (Nat.lt_of_lt_of_le I.lt hb),I.nofs hb,.inr (Nat.le_trans I.sz hb),λx c e z=>?_,λp hp z=>?_⟩
 ·obtain⟨v,q⟩:=I.cell x c e
  exact absurd (Nat.lt_of_lt_of_le q.lt (by rw[z];exact hb)) (Nat.lt_irrefl _)
 ·exact absurd (Nat.lt_of_lt_of_le (Heap.lt_size (I.pin p hp).1) (by rw[z];exact hb)) (Nat.lt_irrefl _)
structure Turn (P:Program) (w:World) (K:PySem.W.Frag) (tg:Expr) (J:It) (fp:List Addr) (it:Addr) (tn:Nat->Heap->Prop):Prop where
 mem:it∈fp
 obj:∀i h,tn i h->∀b∈fp,∃o,h.get? b=some o/\∀v,o.data≠.cell v
 keep:∀i h h',tn i h->(∀b∈fp,∀o,h.get? b=some o->h'.get? b=some o)->tn i h'
 item:∀(X:Cx),X.prog=P->X.w=w->X.K=K->X.calm=true->∀(i:Nat) (pins:List (Addr×Obj)) (s:Shared) (σ:St) (H:Hp) (E:Value->Shared->Prop),Inv X pins σ H s->(∀b∈fp,FpOk X pins H b)->tn i s.heap->J.go i H ->
  wpAny (model P w) X.A (pyNext (.ref it)) (λr s1=>∃u,r=some u /\
   wpAny (model P w) X.A (letOwnedTupleGo tg (.ref it) u) (λ_ s2=>∃x H',Inv X pins σ H' s2/\RelV x u/\J.yld i H x H'/\tn (i+1) s2.heap/\∀b∈fp,H' b=none) E s1) E s
 done:∀(X:Cx),X.prog=P->X.w=w->X.K=K->X.calm=true->∀(i:Nat) (pins:List (Addr×Obj)) (s:Shared) (σ:St) (H:Hp) (E:Value->Shared->Prop),Inv X pins σ H s->(∀b∈fp,FpOk X pins H b)->tn i s.heap->J.stop i H ->
  wpAny (model P w) X.A (pyNext (.ref it)) (λr s1=>r=none/\Inv X pins σ H s1) E s
 self:∀(A:Around) (i:Nat) (s:Shared) (Q:Value->Shared->Prop) (E:Value->Shared->Prop),tn i s.heap->Q (.ref it) s->wpAny (model P w) A (pyIter (.ref it)) Q E s
abbrev TI:=St->Hp->(It->Hp->Prop)->Prop
def PIE (X:Cx) (pins:List (Addr×Obj)) (σ:St) (tg:Expr) (R:It->Hp->Prop) (itv:Value) (s2:Shared):Prop:=
 ∃(it:Addr) (fp:List Addr) (tn:Nat->Heap->Prop) (J:It) (H':Hp),itv=.ref it/\Inv X pins σ H' s2/\Turn X.prog X.w X.K tg J fp it tn/\tn 0 s2.heap/\(∀b∈fp,FpOk X pins H' b)/\R J H'
def PI (X:Cx) (tg iter:Expr) (wi:TI):Prop:=
 ∀(pins:List (Addr×Obj)) (s:Shared) (σ:St) (H:Hp) (R:It->Hp->Prop),Inv X pins σ H s->wi σ H R ->
  wpAny (model X.prog X.w) X.A (eval iter X.env) (λv s1=>wpAny (model X.prog X.w) X.A (pyIter v) (PIE X pins σ tg R) X.xe s1) X.xe s
theorem go_of {M:Model}{A:Around}{E:Value->Shared->Prop}{s:Shared}{tg:Expr}{it:Addr}{u:Value}{o:Obj}{n:String}{vs:Array Value}{Q:Unit->Shared->Prop}(ho:s.heap.get? it=some o) (hc:o.cls=.type n) (hd:o.data=.fields vs)
  (hn:["enumerate", "zip", "dict_itemiterator", "dict_reverseitemiterator", "odict_iterator", "itertools.zip_longest", "itertools.pairwise"].contains n=false) (hQ:Q () s):wpAny M A (letOwnedTupleGo tg (.ref it) u) Q E s:=by
 unfold letOwnedTupleGo
 cases tg<;>first
  |exact wpAny_pure hQ
  |(cases u<;>first
    |exact wpAny_pure hQ
    |(refine wpAny_bind (wpAny_load ho ?_)
      rw[hc,hd]
      show wpAny M A (if (["enumerate", "zip", "dict_itemiterator", "dict_reverseitemiterator", "odict_iterator", "itertools.zip_longest", "itertools.pairwise"].contains n&&vs[0]?==some (rawInt _))=true then _ else _) Q E s
      rw[if_neg (by intro h;rw[hn,Bool.false_and] at h;cases h)]
      exact wpAny_pure hQ))
def Itl (K:PySem.W.Frag) (a:Addr):It:=
 ⟨λi H=>∃xs x,SqL K H a xs/\xs[i]?=some x,λi H x H'=>H'=H/\∀xs,SqL K H a xs->xs[i]?=some x,λi H=>∃xs,SqL K H a xs/\xs.length<=i⟩
def Itt (K:PySem.W.Frag) (a:Addr):It:=
 ⟨λi H=>∃xs x,SqT K H a xs/\xs[i]?=some x,λi H x H'=>H'=H/\∀xs,SqT K H a xs->xs[i]?=some x,λi H=>∃xs,SqT K H a xs/\xs.length<=i⟩
def Itr (lo:Int) (n:Nat):It:=⟨λi _=>i<n,λi H x H'=>H'=H/\x=.int (lo+i),λi _=>n<=i⟩
theorem turn_list {P:Program}{w:World}{K:PySem.W.Frag}{tg:Expr}(a it:Addr):Turn P w K tg (Itl K a) [it] it (λi h=>h.IsListIter it a i) where
 mem:=by simp
 obj:=λi h st b hb=>by
  have e:b=it:=by simpa using hb
  subst e
  obtain⟨o,e,c,d⟩:=st
  exact⟨o,e,λv z=>by rw[d] at z;cases z⟩
 keep:=λi h h' st k=>st.at λo e=>k it (by simp) o e
 item:=by
  intro X hP hw hK hc i pins s σ H E I hf st hg
  subst hP hw hK
  obtain⟨xs,x,hq,hx⟩:=hg
  obtain⟨its,rv,p,hz⟩:=I.list hq
  obtain⟨u,hu,ru⟩:=rv.get hx
  obtain⟨f0,f1,f2,f3,f4,f5⟩:=hf it (by simp)
  refine wpAny_pyNext_list_item st p.isList (x:=u) (by simpa using hu) λh' st' sb=>?_
  have I1:Inv X pins σ H { s with heap:=h' }:=I.turned (t':=s.toks) (λb o hb e=>(sb.2 b hb).trans e) f0 f1 f3 f4 f5
  obtain⟨o,e,c,d⟩:=id st'
  exact⟨u,rfl,go_of (s:={ s with heap:=h' }) e c d (by decide) ⟨x,H,I1,ru,⟨rfl,λys hy=>by rw[I.list_inj hy hq];exact hx⟩,st',λb hb=>(hf b hb).1⟩⟩
 done:=by
  intro X hP hw hK hc i pins s σ H E I hf st hg
  subst hP hw hK
  obtain⟨xs,hq,hx⟩:=hg
  obtain⟨its,rv,p,hz⟩:=I.list hq
  obtain⟨f0,f1,f2,f3,f4,f5⟩:=hf it (by simp)
  have hl:=rv.length
  exact wpAny_pyNext_list_end (I.ok.hd hc) st p.isList (by simp;lia) λh' eb=>⟨rfl,I.turned (t':=s.toks) (λb o hb e=>eb b o hb e) f0 f1 f3 f4 f5⟩
 self:=λ_ _ _ _ _ st h=>wpAny_pyIter_listiter st h
theorem turn_tuple {P:Program}{w:World}{K:PySem.W.Frag}{tg:Expr}(a it:Addr):Turn P w K tg (Itt K a) [it] it (λi h=>h.IsTupleIter it a i) where
 mem:=by simp
 obj:=λi h st b hb=>by
  have e:b=it:=by simpa using hb
  subst e
  obtain⟨o,e,c,d⟩:=st
  exact⟨o,e,λv z=>by rw[d] at z;cases z⟩
 keep:=λi h h' st k=>st.at λo e=>k it (by simp) o e
 item:=by
  intro X hP hw hK hc i pins s σ H E I hf st hg
  subst hP hw hK
  obtain⟨xs,x,hq,hx⟩:=hg
  obtain⟨its,rv,p,hz⟩:=I.tuple hq
  obtain⟨u,hu,ru⟩:=rv.get hx
  obtain⟨f0,f1,f2,f3,f4,f5⟩:=hf it (by simp)
  refine wpAny_pyNext_tuple_item st (show s.heap.IsTuple a its.toArray from p) (x:=u) (by simpa using hu) λh' st' sb=>?_
  have I1:Inv X pins σ H { s with heap:=h' }:=I.turned (t':=s.toks) (λb o hb e=>(sb.2 b hb).trans e) f0 f1 f3 f4 f5
  obtain⟨o,e,c,d⟩:=id st'
  exact⟨u,rfl,go_of (s:={ s with heap:=h' }) e c d (by decide) ⟨x,H,I1,ru,⟨rfl,λys hy=>by rw[I.tuple_inj hy hq];exact hx⟩,st',λb hb=>(hf b hb).1⟩⟩
 done:=by
  intro X hP hw hK hc i pins s σ H E I hf st hg
  subst hP hw hK
  obtain⟨xs,hq,hx⟩:=hg
  obtain⟨its,rv,p,hz⟩:=I.tuple hq
  obtain⟨f0,f1,f2,f3,f4,f5⟩:=hf it (by simp)
  have hl:=rv.length
  exact wpAny_pyNext_tuple_end (I.ok.hd hc) st (show s.heap.IsTuple a its.toArray from p) (by simp;lia) λh' eb=>⟨rfl,I.turned (t':=s.toks) (λb o hb e=>eb b o hb e) f0 f1 f3 f4 f5⟩
 self:=λ_ _ _ _ _ st h=>wpAny_pyIter_tupleiter st h
theorem turn_range {P:Program}{w:World}{K:PySem.W.Frag}{tg:Expr}(it:Addr) (lo:Int) (n:Nat):Turn P w K tg (Itr lo n) [it] it (λi h=>IsRangeIter h it (lo+(i:Nat)*1) ((n:Int)-(i:Nat)) 1) where
 mem:=by simp
 obj:=λi h st b hb=>by
  have e:b=it:=by simpa using hb
  subst e
  exact⟨_,st,λv z=>by
   have z':Data.fields _=Data.cell v:=z
   cases z'⟩
 keep:=λi h h' st k=>k it (by simp) _ st
 item:=by
  intro X hP hw hK hc i pins s σ H E I hf st hg
  subst hP hw hK
  obtain⟨f0,f1,f2,f3,f4,f5⟩:=hf it (by simp)
  have W:=Walks.range (prog:=X.prog) (w:=X.w) (I.ok.hd hc) it lo 1 n
  refine W.item i s _ _ hg st λv h' tk hv st' kk=>?_
  obtain⟨t,rfl⟩:=hv
  have I1:Inv X pins σ H { s with heap:=h',toks:=tk }:=I.turned (λb o hb e=>kk b o (by simpa using hb) e) f0 f1 f3 f4 f5
  refine⟨_,rfl,go_of (s:={ s with heap:=h',toks:=tk }) (n:= "range_iterator") st' rfl rfl (by decide) ⟨.int (lo+i),H,I1,⟨t,?_⟩,⟨rfl,rfl⟩,st',λb hb=>(hf b hb).1⟩⟩
  rw[Int.mul_one]
 done:=by
  intro X hP hw hK hc i pins s σ H E I hf st hg
  subst hP hw hK
  obtain⟨f0,f1,f2,f3,f4,f5⟩:=hf it (by simp)
  exact wpAny_pyNext_range_end (I.ok.hd hc) st (by have:n<=i:=hg;lia) λh' eb=>⟨rfl,I.turned (t':=s.toks) (λb o hb e=>eb b o hb e) f0 f1 f3 f4 f5⟩
 self:=λ_ _ _ _ _ st h=>wpAny_pyIter_rangeiter st h
section
variable {X:Cx}{tg:Expr}
def iList (K:PySem.W.Frag) (tl:TE):TI:=λσ H R=>tl σ H λx H1=>∃a,x=.ref a/\(∃xs,SqL K H1 a xs)/\R (Itl K a) H1
def iTup (K:PySem.W.Frag) (tl:TE):TI:=λσ H R=>tl σ H λx H1=>∃a,x=.ref a/\(∃xs,SqT K H1 a xs)/\R (Itt K a) H1
theorem pi_list {l:Expr}{tl:TE}(hl:PE X l tl):PI X tg l (iList X.K tl):=by
 intro pins s σ H R I h
 refine thn (hl pins s σ H _ I h) λv s1 ⟨x,H1,I1,r1,q1⟩=>?_
 obtain⟨a,e,⟨xs,hq⟩,q⟩:=q1
 subst e
 cases r1
 obtain⟨its,rv,p,hz⟩:=I1.list hq
 refine wpAny_pyIter_list p.isList ?_
 refine⟨s1.heap.objs.size,[s1.heap.objs.size],_,_,H1,rfl,I1.kept (t':=s1.toks) λb o e=>Heap.get?_push_of_some _ e,turn_list a _,⟨_,Heap.get?_push_size _ rfl,rfl,rfl⟩,λb hb=>?_,q⟩
 have e:b=s1.heap.objs.size:=by simpa using hb
 subst e
 exact I1.fpOk (Nat.le_refl _) (I1.hok.fresh (Nat.le_refl _))
theorem pi_tup {l:Expr}{tl:TE}(hl:PE X l tl):PI X tg l (iTup X.K tl):=by
 intro pins s σ H R I h
 refine thn (hl pins s σ H _ I h) λv s1 ⟨x,H1,I1,r1,q1⟩=>?_
 obtain⟨a,e,⟨xs,hq⟩,q⟩:=q1
 subst e
 cases r1
 obtain⟨its,rv,p,hz⟩:=I1.tuple hq
 refine wpAny_pyIter_tuple (show s1.heap.IsTuple a its.toArray from p) ?_
 refine⟨s1.heap.objs.size,[s1.heap.objs.size],_,_,H1,rfl,I1.kept (t':=s1.toks) λb o e=>Heap.get?_push_of_some _ e,turn_tuple a _,⟨_,Heap.get?_push_size _ rfl,rfl,rfl⟩,λb hb=>?_,q⟩
 have e:b=s1.heap.objs.size:=by simpa using hb
 subst e
 exact I1.fpOk (Nat.le_refl _) (I1.hok.fresh (Nat.le_refl _))
theorem range_it {pins:List (Addr×Obj)}{σ:St}{H:Hp}{s:Shared}{R:It->Hp->Prop}{E:Value->Shared->Prop}{lo hi:Int}{t u v:Tok}{tk:Nat}(I:Inv X pins σ H s) (h1:-(2^62)<=lo) (h2:lo<2^62) (h3:-(2^62)<=hi) (h4:hi<2^62)
  (q:R (Itr lo (hi-lo).toNat) H):wpAny (model X.prog X.w) X.A (pyIter (.ref s.heap.objs.size)) (PIE X pins σ tg R) E { s with heap:=s.heap.push { cls:=.type "range",data:=.fields #[.int lo t,.int hi u,.int 1 v] },toks:=tk }:=by
 refine wpAny_pyIter_range (IsRange.new ..) (small_one h1 h2 h3 h4) ?_
 have I1:Inv X pins σ H { s with heap:=s.heap.push { cls:=.type "range",data:=.fields #[.int lo t,.int hi u,.int 1 v] },toks:=tk }:=I.kept λb o e=>Heap.get?_push_of_some _ e
 refine⟨(s.heap.push { cls:=.type "range",data:=.fields #[.int lo t,.int hi u,.int 1 v] }).objs.size,[(s.heap.push { cls:=.type "range",data:=.fields #[.int lo t,.int hi u,.int 1 v] }).objs.size],_,_,H,rfl,
  I1.kept (t':=tk) λb o e=>Heap.get?_push_of_some _ e,turn_range _ lo (hi-lo).toNat,?_,λb hb=>?_,q⟩
 ·have e1:lo+((0:Nat):Int)*1=lo:=by simp
  have e2:(((hi-lo).toNat:Nat):Int)-((0:Nat):Int)=Builtin.Range.rangeSize lo hi 1:=by rw[rangeSize_one];split<;>lia
  show IsRangeIter _ _ (lo+((0:Nat):Int)*1) ((((hi-lo).toNat:Nat):Int)-((0:Nat):Int)) 1
  rw[e1,e2]
  exact Heap.get?_push_size _ rfl
 ·have e:b=(s.heap.push { cls:=.type "range",data:=.fields #[.int lo t,.int hi u,.int 1 v] }).objs.size:=by simpa using hb
  subst e
  exact I1.fpOk (Nat.le_refl _) (I1.hok.fresh (Nat.le_refl _))
def iRng1 (ta:TA):TI:=λσ H R=>ta σ H λvs H1=>∃j:Int,vs=[.int j]/\-(2^62)<=j/\j<2^62/\R (Itr 0 j.toNat) H1
theorem pi_range1 {a:Expr}{ta:TA}{p pos:Pos}(hg:Gl X "range") (hm:X.mg "range" = none) (ha:PA X [a] ta) (hs:starEach [a] X.env=[(false,eval a X.env)]:=by rfl):PI X tg (.Call (.Name "range" p) [a] [] pos) (iRng1 ta):=by
 intro pins s σ H R I h
 refine Call_ (ld_blt I hg hm boot_range (PyProof.Rows.callWith_type1 (thn (ha pos pins s σ H _ I h) λus s1 ⟨vs,H1,I1,r1,q1⟩=>?_) hs rfl))
 obtain⟨j,e,q1,q2,q⟩:=q1
 subst e
 cases r1 with
 |cons r rr=>
  cases rr
  obtain⟨t,rfl⟩:=r
  exact call_range_1 (range_it I1 (by lia) (by lia) q1 q2 (by simpa using q))
def tFor (wi:TI) (g:TG) (tb:TS):TS:=λD σ H=>wi σ H λJ H1=>∃W:Nat->Nat->St->Hp->Prop,(∃m,W 0 m σ H1)/\∀i m σ H,W i m σ H ->
 (J.stop i H/\D.nx σ H)\/(J.go i H/\∃N:St->Hp->Prop,(∀σ' H',N σ' H'->∃m',m'<m/\W (i+1) m' σ' H')/\∀x H',J.yld i H x H'->g x σ H' λσ2 H2=>tb { D with nx:=N,ct:=N,bk:=D.nx } σ2 H2)
def pinsAt (fp:List Addr) (h:Heap):List (Addr×Obj):=fp.filterMap λb=>(h.get? b).map λo=>(b,o)
theorem mem_pinsAt {fp:List Addr}{h:Heap}{b:Addr}{o:Obj}(hb:b∈fp) (e:h.get? b=some o):(b,o)∈pinsAt fp h:=List.mem_filterMap.mpr ⟨b,hb,by rw[e];rfl⟩
theorem of_pinsAt {fp:List Addr}{h:Heap}{p:Addr×Obj}(hp:p∈pinsAt fp h):p.1∈fp/\h.get? p.1=some p.2:=by
 obtain⟨b,hb,e⟩:=List.mem_filterMap.mp hp
 cases q:h.get? b with
 |none=>rw[q] at e;cases e
 |some o=>
  rw[q] at e
  have e':(b,o)=p:=Option.some.inj e
  subst e'
  exact⟨hb,q⟩
theorem Inv.pinned {pins:List (Addr×Obj)}{σ:St}{H:Hp}{s:Shared}{fp:List Addr}(I:Inv X pins σ H s) (hf:∀b∈fp,FpOk X pins H b) (ho:∀b∈fp,∃o,s.heap.get? b=some o/\∀v,o.data≠.cell v):Inv X (pins++pinsAt fp s.heap) σ H s:=
 I.pins_of λp hp=>(List.mem_append.mp hp).elim (λz=>I.pin p (List.mem_append_right _ z)) λz=>by
  obtain⟨hb,e⟩:=of_pinsAt z
  obtain⟨f0,f1,f2,_⟩:=hf p.1 hb
  obtain⟨o,e',d⟩:=ho p.1 hb
  rw[e] at e';cases e'
  exact⟨e,f0,f1,f2,d⟩
theorem Inv.unpinned {pins pl:List (Addr×Obj)}{σ:St}{H:Hp}{s:Shared}(I:Inv X (pins++pl) σ H s):Inv X pins σ H s:=I.pins_of λp hp=>I.pin p (List.mem_append_right _ (List.mem_append_left _ hp))
theorem ps_for {iter:Expr}{body:List Stmt}{wi:TI}{g:TG}{tb:TS}{pos:Pos}(hp:PassesOwn (model X.prog X.w) X.A X.env X.xe) (hc:X.calm=true) (hi:PI X tg iter wi) (hg:PG X tg g) (hb:PSs X body tb)
  (hs:∀x,foldedSetIterable iter X.env x=pure x:=by intro _;rfl):PS X (.For tg iter body [] pos) (tFor wi g tb):=by
 intro pins s σ H D I h
 refine wpAny_For (thn (hi pins s σ H _ I h) λv s1 h1=>thn h1 λitv s2 h2=>?_) hs
 obtain⟨it,fp,tn,J,H2,e,I2,T,st2,f2,W,⟨m0,w0⟩,turn⟩:=h2
 subst e
 have stat:∀{H':Hp},(∀b∈fp,H' b=none)->∀b∈fp,FpOk X pins H' b:=λhn b hb=>⟨hn b hb,(f2 b hb).2⟩
 refine codeAny_forLoop_any (λn s'=>∃i σ' H',Inv X pins σ' H' s'/\tn i s'.heap/\(∀b∈fp,H' b=none)/\W i n σ' H') ?_ m0 ⟨0,σ,H2,I2,st2,λb hb=>(f2 b hb).1,w0⟩
 rintro n s3 ⟨i,σ3,H3,I3,st3,fr3,w3⟩
 rcases turn i n σ3 H3 w3 with ⟨stop,qn⟩|⟨go,N,hN,step⟩
 ·refine wpAny_passesOwn hp (thn (T.done X rfl rfl rfl hc i pins s3 σ3 H3 X.xe I3 (stat fr3) st3 stop) λr s4 ⟨hr,I4⟩=>?_)
  subst hr
  exact wpAny_execs_nil ⟨σ3,H3,I4,qn⟩
 ·refine wpAny_passesOwn hp (thn (T.item X rfl rfl rfl hc i pins s3 σ3 H3 X.xe I3 (stat fr3) st3 go) λr s4 ⟨u,hr,h4⟩=>?_)
  subst hr
  refine wpAny_passesOwn hp (thn h4 λ_ s5 ⟨x,H5,I5,r5,y5,st5,fr5⟩=>?_)
  have I5':=I5.pinned (stat fr5) (T.obj _ _ st5)
  refine wpAny_passesOwn hp (thn (hg _ s5 σ3 H5 x u _ I5' r5 (step x H5 y5)) λ_ s6 ⟨σ6,H6,I6,q6⟩=>?_)
  refine wpAny_passesOwn hp (thn (hb _ s6 σ6 H6 _ I6 q6) λf s7 q7=>?_)
  have again:∀{σ7:St}{H7:Hp},Inv X (pins++pinsAt fp s5.heap) σ7 H7 s7->N σ7 H7->∃m,m<n/\∃i σ' H',Inv X pins σ' H' s7/\tn i s7.heap/\(∀b∈fp,H' b=none)/\W i m σ' H':=λ{σ7 H7} I7 n7=>by
   obtain⟨m',hm,w7⟩:=hN σ7 H7 n7
   refine⟨m',hm,i+1,σ7,H7,I7.unpinned,T.keep _ _ _ st5 λb hb o e=>(I7.pin (b,o) (List.mem_append_right _ (List.mem_append_right _ (mem_pinsAt hb e)))).1,λb hb=>?_,w7⟩
   obtain⟨o,e,d⟩:=T.obj _ _ st5 b hb
   exact (I7.pin (b,o) (List.mem_append_right _ (List.mem_append_right _ (mem_pinsAt hb e)))).2.1
  cases f with
  |next=>obtain⟨σ7,H7,I7,n7⟩:=q7;exact again I7 n7
  |cont=>obtain⟨σ7,H7,I7,n7⟩:=q7;exact again I7 n7
  |brk=>obtain⟨σ7,H7,I7,q7⟩:=q7;exact⟨σ7,H7,I7.unpinned,q7⟩
  |ret v=>obtain⟨x7,σ7,H7,I7,r7,q7⟩:=q7;exact⟨x7,σ7,H7,I7.unpinned,r7,q7⟩
end
theorem for_list {K:PySem.W.Frag}{a:Addr}{xs:List V}{g:TG}{tb:TS}{D:Ends}{σ:St}{H:Hp}(Pv:Nat->St->Hp->Prop) (h0:Pv 0 σ H) (hl:∀i σ H,i<=xs.length->Pv i σ H->SqL K H a xs)
  (hs:∀i x σ H,xs[i]?=some x->Pv i σ H->g x σ H λσ2 H2=>tb { D with nx:=Pv (i+1),ct:=Pv (i+1),bk:=D.nx } σ2 H2) (hd:∀σ H,Pv xs.length σ H->D.nx σ H) :
  ∃W:Nat->Nat->St->Hp->Prop,(∃m,W 0 m σ H)/\∀i m σ H,W i m σ H ->
   ((Itl K a).stop i H/\D.nx σ H)\/((Itl K a).go i H/\∃N:St->Hp->Prop,(∀σ' H',N σ' H'->∃m',m'<m/\W (i+1) m' σ' H')/\∀x H',(Itl K a).yld i H x H'->g x σ H' λσ2 H2=>tb { D with nx:=N,ct:=N,bk:=D.nx } σ2 H2):=by
 refine⟨λi m σ H=>m=xs.length-i/\i<=xs.length/\Pv i σ H,⟨xs.length,by simp,Nat.zero_le _,h0⟩,?_⟩
 rintro i m σ H ⟨rfl,hi,p⟩
 have q:=hl i σ H hi p
 by_cases hlt:i<xs.length
 ·refine .inr ⟨⟨xs,xs[i],q,by simp[hlt]⟩,Pv (i+1),λσ' H' p'=>⟨xs.length-(i+1),by lia,rfl,hlt,p'⟩,λx H' y=>?_⟩
  obtain⟨e,y⟩:=y
  subst e
  exact hs i x σ _ (y xs q) p
 ·have e:i=xs.length:=by lia
  subst e
  exact .inl ⟨⟨xs,q,Nat.le_refl _⟩,hd σ H p⟩
theorem for_tup {K:PySem.W.Frag}{a:Addr}{xs:List V}{g:TG}{tb:TS}{D:Ends}{σ:St}{H:Hp}(Pv:Nat->St->Hp->Prop) (h0:Pv 0 σ H) (hl:∀i σ H,i<=xs.length->Pv i σ H->SqT K H a xs)
  (hs:∀i x σ H,xs[i]?=some x->Pv i σ H->g x σ H λσ2 H2=>tb { D with nx:=Pv (i+1),ct:=Pv (i+1),bk:=D.nx } σ2 H2) (hd:∀σ H,Pv xs.length σ H->D.nx σ H) :
  ∃W:Nat->Nat->St->Hp->Prop,(∃m,W 0 m σ H)/\∀i m σ H,W i m σ H ->
   ((Itt K a).stop i H/\D.nx σ H)\/((Itt K a).go i H/\∃N:St->Hp->Prop,(∀σ' H',N σ' H'->∃m',m'<m/\W (i+1) m' σ' H')/\∀x H',(Itt K a).yld i H x H'->g x σ H' λσ2 H2=>tb { D with nx:=N,ct:=N,bk:=D.nx } σ2 H2):=by
 refine⟨λi m σ H=>m=xs.length-i/\i<=xs.length/\Pv i σ H,⟨xs.length,by simp,Nat.zero_le _,h0⟩,?_⟩
 rintro i m σ H ⟨rfl,hi,p⟩
 have q:=hl i σ H hi p
 by_cases hlt:i<xs.length
 ·refine .inr ⟨⟨xs,xs[i],q,by simp[hlt]⟩,Pv (i+1),λσ' H' p'=>⟨xs.length-(i+1),by lia,rfl,hlt,p'⟩,λx H' y=>?_⟩
  obtain⟨e,y⟩:=y
  subst e
  exact hs i x σ _ (y xs q) p
 ·have e:i=xs.length:=by lia
  subst e
  exact .inl ⟨⟨xs,q,Nat.le_refl _⟩,hd σ H p⟩
theorem for_range {lo:Int}{n:Nat}{g:TG}{tb:TS}{D:Ends}{σ:St}{H:Hp}(Pv:Nat->St->Hp->Prop) (h0:Pv 0 σ H)
  (hs:∀i σ H,i<n->Pv i σ H->g (.int (lo+i)) σ H λσ2 H2=>tb { D with nx:=Pv (i+1),ct:=Pv (i+1),bk:=D.nx } σ2 H2) (hd:∀σ H,Pv n σ H->D.nx σ H) :
  ∃W:Nat->Nat->St->Hp->Prop,(∃m,W 0 m σ H)/\∀i m σ H,W i m σ H ->
   ((Itr lo n).stop i H/\D.nx σ H)\/((Itr lo n).go i H/\∃N:St->Hp->Prop,(∀σ' H',N σ' H'->∃m',m'<m/\W (i+1) m' σ' H')/\∀x H',(Itr lo n).yld i H x H'->g x σ H' λσ2 H2=>tb { D with nx:=N,ct:=N,bk:=D.nx } σ2 H2):=by
 refine⟨λi m σ H=>m=n-i/\i<=n/\Pv i σ H,⟨n,by simp,Nat.zero_le _,h0⟩,?_⟩
 rintro i m σ H ⟨rfl,hi,p⟩
 by_cases hlt:i<n
 ·refine .inr ⟨hlt,Pv (i+1),λσ' H' p'=>⟨n-(i+1),by lia,rfl,hlt,p'⟩,λx H' y=>?_⟩
  obtain⟨e,y⟩:=y
  subst e y
  exact hs i σ _ hlt p
 ·have e:i=n:=by lia
  subst e
  exact .inl ⟨Nat.le_refl _,hd σ H p⟩
abbrev R2:=V->V->Hp->VK->Prop
def OpR (X:Cx) (f:Value->Value->Sem Value) (r:R2):Prop:=
 ∀(pins:List (Addr×Obj)) (s:Shared) (σ:St) (H:Hp) (x y:V) (v u:Value) (Q:VK),Inv X pins σ H s->RelV x v->RelV y u->r x y H Q ->
  wpAny (model X.prog X.w) X.A (f v u) (EP X pins σ Q) X.xe s
def CallR (X:Cx) (f:Value) (r:List V->Hp->VK->Prop):Prop:=
 ∀(pins:List (Addr×Obj)) (s:Shared) (σ:St) (H:Hp) (xs:List V) (us:List Value) (Q:VK),Inv X pins σ H s->Vals xs us->r xs H Q ->
  wpAny (model X.prog X.w) X.A (call f us) (EP X pins σ Q) X.xe s
def tOp (r:R2) (ta tb:TE):TE:=λσ H Q=>ta σ H λx H1=>tb σ H1 λy H2=>r x y H2 Q
def rI (C:Int->Int->Prop) (g:Int->Int->V):R2:=λx y H Q=>∃i j,x=.int i/\y=.int j/\C i j/\Q (g i j) H
def rI0 (g:Int->Int->V):R2:=λx y H Q=>∃i j,x=.int i/\y=.int j/\Q (g i j) H
section
variable {X:Cx}{a b c:Expr}{ta tb tc:TE}{pos:Pos}
theorem binT (ha:PE X a ta) (hb:PE X b tb){pins:List (Addr×Obj)}{s:Shared}{σ:St}{H:Hp}{R:V->V->Hp->Prop}(I:Inv X pins σ H s)
  (h:ta σ H λx H1=>tb σ H1 λy H2=>R x y H2){Q:Value->Shared->Prop}{f:Value->Value->Sem Value}
  (hf:∀v u s2 x y H2,Inv X pins σ H2 s2->RelV x v->RelV y u->R x y H2->wpAny (model X.prog X.w) X.A (f v u) Q X.xe s2) :
  wpAny (model X.prog X.w) X.A (eval a X.env) (λv s₁=>wpAny (model X.prog X.w) X.A (eval b X.env) (λu s₂=>wpAny (model X.prog X.w) X.A (f v u) Q X.xe s₂) X.xe s₁) X.xe s:=by
 refine thn (ha pins s σ H _ I h) λv s1 ⟨x,H1,I1,r1,q1⟩=>?_
 refine thn (hb pins s1 σ H1 _ I1 q1) λu s2 ⟨y,H2,I2,r2,q2⟩=>?_
 exact hf v u s2 x y H2 I2 r1 r2 q2
theorem pe_op {op:Operator}{r:R2}(ho:OpR X (binaryOp op) r) (ha:PE X a ta) (hb:PE X b tb):PE X (.BinOp a op b pos) (tOp r ta tb):=by
 intro pins s σ H Q I h
 exact wpAny_BinOp (binT ha hb I h λv u s2 x y H2 I2 rx ry q=>ho pins s2 σ H2 x y v u Q I2 rx ry q)
theorem opI {f:Value->Value->Sem Value}{C:Int->Int->Prop}{g:Int->Int->Int}
  (rule:∀(i j:Int) (t u:Tok) (s:Shared) (Q:Value->Shared->Prop) (E:Value->Shared->Prop),C i j->Q (.int (g i j) s.toks) { s with toks:=s.toks+1 }->wpAny (model X.prog X.w) X.A (f (.int i t) (.int j u)) Q E s) :
  OpR X f (rI C λi j=>.int (g i j)):=by
 intro pins s σ H x y v u Q I rx ry h
 obtain⟨i,j,rfl,rfl,hc,q⟩:=h
 obtain⟨t,rfl⟩:=rx
 obtain⟨t',rfl⟩:=ry
 exact rule i j t t' s _ _ hc ⟨.int (g i j),H,I.tok _,⟨_,rfl⟩,q⟩
theorem opI0 {f:Value->Value->Sem Value}{g:Int->Int->Int}
  (rule:∀(i j:Int) (t u:Tok) (s:Shared) (Q:Value->Shared->Prop) (E:Value->Shared->Prop),Q (.int (g i j) s.toks) { s with toks:=s.toks+1 }->wpAny (model X.prog X.w) X.A (f (.int i t) (.int j u)) Q E s) :
  OpR X f (rI0 λi j=>.int (g i j)):=by
 intro pins s σ H x y v u Q I rx ry h
 obtain⟨i,j,rfl,rfl,q⟩:=h
 obtain⟨t,rfl⟩:=rx
 obtain⟨t',rfl⟩:=ry
 exact rule i j t t' s _ _ ⟨.int (g i j),H,I.tok _,⟨_,rfl⟩,q⟩
theorem opB0 {f:Value->Value->Sem Value}{g:Int->Int->Bool}
  (rule:∀(i j:Int) (t u:Tok) (s:Shared) (Q:Value->Shared->Prop) (E:Value->Shared->Prop),Q (.bool (g i j)) s->wpAny (model X.prog X.w) X.A (f (.int i t) (.int j u)) Q E s) :
  OpR X f (rI0 λi j=>.bl (g i j)):=by
 intro pins s σ H x y v u Q I rx ry h
 obtain⟨i,j,rfl,rfl,q⟩:=h
 obtain⟨t,rfl⟩:=rx
 obtain⟨t',rfl⟩:=ry
 exact rule i j t t' s _ _ ⟨.bl (g i j),H,I,rfl,q⟩
def CDiv (i j:Int):Prop:=0<j/\j<1073741824
def CPow (i j:Int):Prop:=0<=j/\j<=1000000/\i.natAbs<2^64
def CMul (i j:Int):Prop:=(-(2^64)<i/\i<2^64)\/(-(2^64)<j/\j<2^64)
theorem CMul.ok {i j:Int}(h:CMul i j):IntMulOk i j:=by
 rcases h with ⟨h1,h2⟩|⟨h1,h2⟩
 ·exact .of_left (intBits_le_64 h1 h2)
 ·exact .of_right (intBits_le_64 h1 h2)
theorem op_add:OpR X (binaryOp .Add) (rI0 λi j=>.int (i+j)):=opI0 λ_ _ _ _ _ _ _ q=>add_int q
theorem op_sub:OpR X (binaryOp .Sub) (rI0 λi j=>.int (i-j)):=opI0 λ_ _ _ _ _ _ _ q=>sub_int q
theorem op_mul:OpR X (binaryOp .Mult) (rI CMul λi j=>.int (i*j)):=opI λ_ _ _ _ _ _ _ hc q=>mul_int q hc.ok
theorem op_fdiv:OpR X (binaryOp .FloorDiv) (rI CDiv λi j=>.int (i/j)):=opI λi j _ _ _ _ _ hc q=>by
 have h1:(0:Int)<j:=hc.1
 have h2:j<1073741824:=hc.2
 exact floordiv_int (by lia) (by rw[Int.fdiv_eq_ediv_of_nonneg i (by lia)];exact q) (.inl (PyProof.noPylong_small (by lia)))
theorem op_mod:OpR X (binaryOp .Mod) (rI (λ_ j=>0<j) λi j=>.int (i%j)):=opI λi j _ _ _ _ _ hc q=>by
 have h1:(0:Int)<j:=hc
 exact mod_int' (by lia) (by rw[Int.fmod_eq_emod_of_nonneg i (by lia)];exact q)
theorem op_pow:OpR X (binaryOp .Pow) (rI CPow λi j=>.int (i^j.toNat)):=opI λ_ _ _ _ _ _ _ hc q=>pow_int_small hc.1 hc.2.1 hc.2.2 q
end
def scal:V->V->Bool
 |.non,.non=>true|.non,.int _=>true|.int _,.non=>true|.non,.bl _=>true|.bl _,.non=>true|.non,.str _=>true|.str _,.non=>true
 |.int _,.int _=>true|.bl _,.bl _=>true|.str _,.str _=>true|.byt _,.byt _=>true
 |.int _,.str _=>true|.str _,.int _=>true|.bl _,.str _=>true|.str _,.bl _=>true
 |_,_=>false
def rEq:R2:=λx y H Q=>scal x y=true/\Q (.bl (decide (x=y))) H
def rNe:R2:=λx y H Q=>scal x y=true/\Q (.bl (!decide (x=y))) H
theorem dec_int {i j:Int}:decide (V.int i=V.int j)=(i==j):=by
 rw[Bool.eq_iff_iff]
 simp
theorem dec_bl {i j:Bool}:decide (V.bl i=V.bl j)=(i==j):=by
 rw[Bool.eq_iff_iff]
 simp
theorem dec_str {i j:Str}:decide (V.str i=V.str j)=(i==j):=by
 rw[Bool.eq_iff_iff]
 simp
theorem dec_byt {i j:Array UInt8}:decide (V.byt i=V.byt j)=(i.toList==j.toList):=by
 rw[Bool.eq_iff_iff]
 cases i
 cases j
 simp
section
variable {X:Cx}{a b c:Expr}{ta tb tc:TE}{pos:Pos}
theorem fin_bl {pins:List (Addr×Obj)}{σ:St}{H:Hp}{s:Shared}{Q:VK}{k k':Bool}(I:Inv X pins σ H s) (q:Q (.bl k) H) (e:k=k'):EP X pins σ Q (.bool k') s:=by
 subst e
 exact⟨.bl k,H,I,rfl,q⟩
theorem op_eq:OpR X (compareOp .Eq) rEq:=by
 intro pins s σ H x y v u Q I rx ry h
 obtain⟨hs,q⟩:=h
 cases x with
 |non=>
  cases rx
  cases y with
  |non=>cases ry;exact PySem.EqNone.eq_none_none (fin_bl I q (by simp))
  |bl j=>cases ry;exact PySem.EqNone.eq_none_bool (fin_bl I q (by simp))
  |int j=>obtain⟨t',rfl⟩:=ry;exact PySem.EqNone.eq_none_int (fin_bl I q (by simp))
  |str j=>obtain⟨t',rfl⟩:=ry;exact PySem.EqNone.eq_none_str (fin_bl I q (by simp))
  |_=>exact absurd (show false=true from hs) Bool.false_ne_true
 |bl i=>
  cases rx
  cases y with
  |non=>cases ry;exact PySem.EqNone.eq_bool_none (fin_bl I q (by simp))
  |bl j=>cases ry;exact eq_bool (fin_bl I q dec_bl)
  |str j=>obtain⟨t',rfl⟩:=ry;exact PySem.EqMixed.eq_bool_str (fin_bl I q (by simp))
  |_=>exact absurd (show false=true from hs) Bool.false_ne_true
 |int i=>
  obtain⟨t,rfl⟩:=rx
  cases y with
  |non=>cases ry;exact PySem.EqNone.eq_int_none (fin_bl I q (by simp))
  |int j=>obtain⟨t',rfl⟩:=ry;exact eq_int (fin_bl I q dec_int)
  |str j=>obtain⟨t',rfl⟩:=ry;exact PySem.EqMixed.eq_int_str (fin_bl I q (by simp))
  |_=>exact absurd (show false=true from hs) Bool.false_ne_true
 |str i=>
  obtain⟨t,rfl⟩:=rx
  cases y with
  |non=>cases ry;exact PySem.EqNone.eq_str_none (fin_bl I q (by simp))
  |bl j=>cases ry;exact PySem.EqMixed.eq_str_bool (fin_bl I q (by simp))
  |int j=>obtain⟨t',rfl⟩:=ry;exact PySem.EqMixed.eq_str_int (fin_bl I q (by simp))
  |str j=>obtain⟨t',rfl⟩:=ry;exact eq_str (fin_bl I q dec_str)
  |_=>exact absurd (show false=true from hs) Bool.false_ne_true
 |byt i=>
  obtain⟨t,rfl⟩:=rx
  cases y with
  |byt j=>obtain⟨t',rfl⟩:=ry;exact PySem.W.eq_bytes (fin_bl I q dec_byt)
  |_=>exact absurd (show false=true from hs) Bool.false_ne_true
 |_=>cases y<;>exact absurd (show false=true from hs) Bool.false_ne_true
theorem op_ne:OpR X (compareOp .NotEq) rNe:=by
 intro pins s σ H x y v u Q I rx ry h
 obtain⟨hs,q⟩:=h
 cases x with
 |non=>
  cases rx
  cases y with
  |non=>cases ry;exact PySem.EqNone.ne_none_none (fin_bl I q (by simp))
  |bl j=>cases ry;exact PySem.EqNone.ne_none_bool (fin_bl I q (by simp))
  |int j=>obtain⟨t',rfl⟩:=ry;exact PySem.EqNone.ne_none_int (fin_bl I q (by simp))
  |str j=>obtain⟨t',rfl⟩:=ry;exact PySem.EqNone.ne_none_str (fin_bl I q (by simp))
  |_=>exact absurd (show false=true from hs) Bool.false_ne_true
 |bl i=>
  cases rx
  cases y with
  |non=>cases ry;exact PySem.EqNone.ne_bool_none (fin_bl I q (by simp))
  |bl j=>cases ry;exact ne_bool (fin_bl I q (congrArg not dec_bl))
  |str j=>obtain⟨t',rfl⟩:=ry;exact PySem.EqMixed.ne_bool_str (fin_bl I q (by simp))
  |_=>exact absurd (show false=true from hs) Bool.false_ne_true
 |int i=>
  obtain⟨t,rfl⟩:=rx
  cases y with
  |non=>cases ry;exact PySem.EqNone.ne_int_none (fin_bl I q (by simp))
  |int j=>obtain⟨t',rfl⟩:=ry;exact ne_int (fin_bl I q (congrArg not dec_int))
  |str j=>obtain⟨t',rfl⟩:=ry;exact PySem.EqMixed.ne_int_str (fin_bl I q (by simp))
  |_=>exact absurd (show false=true from hs) Bool.false_ne_true
 |str i=>
  obtain⟨t,rfl⟩:=rx
  cases y with
  |non=>cases ry;exact PySem.EqNone.ne_str_none (fin_bl I q (by simp))
  |bl j=>cases ry;exact PySem.EqMixed.ne_str_bool (fin_bl I q (by simp))
  |int j=>obtain⟨t',rfl⟩:=ry;exact PySem.EqMixed.ne_str_int (fin_bl I q (by simp))
  |str j=>obtain⟨t',rfl⟩:=ry;exact ne_str (fin_bl I q (congrArg not dec_str))
  |_=>exact absurd (show false=true from hs) Bool.false_ne_true
 |byt i=>
  obtain⟨t,rfl⟩:=rx
  cases y with
  |byt j=>obtain⟨t',rfl⟩:=ry;exact PySem.W.ne_bytes (fin_bl I q (congrArg not dec_byt))
  |_=>exact absurd (show false=true from hs) Bool.false_ne_true
 |_=>cases y<;>exact absurd (show false=true from hs) Bool.false_ne_true
theorem op_lt:OpR X (compareOp .Lt) (rI0 λi j=>.bl (decide (i<j))):=opB0 λ_ _ _ _ _ _ _ q=>lt_int q
theorem op_le:OpR X (compareOp .LtE) (rI0 λi j=>.bl (decide (i<=j))):=opB0 λ_ _ _ _ _ _ _ q=>le_int q
theorem op_gt:OpR X (compareOp .Gt) (rI0 λi j=>.bl (decide (j<i))):=opB0 λ_ _ _ _ _ _ _ q=>gt_int q
theorem op_ge:OpR X (compareOp .GtE) (rI0 λi j=>.bl (decide (j<=i))):=opB0 λ_ _ _ _ _ _ _ q=>ge_int q
theorem nomark (b:Expr){op:CmpOp}(h:op≠.In:=by decide) (h2:op≠.NotIn:=by decide):behindInMarks op b=false:=by
 have e1:(op==CmpOp.In)=false:=by cases op<;>first|rfl|exact absurd rfl h
 have e2:(op==CmpOp.NotIn)=false:=by cases op<;>first|rfl|exact absurd rfl h2
 cases b<;>simp[behindInMarks,e1,e2]
theorem pe_cmpR {op:CmpOp}{r:R2}(ho:OpR X (compareOp op) r) (ha:PE X a ta) (hb:PE X b tb) (hm:behindInMarks op b=false):PE X (.Compare a [op] [b] pos) (tOp r ta tb):=by
 intro pins s σ H Q I h
 exact wpAny_Compare1 (binT ha hb I h λv u s2 x y H2 I2 rx ry q=>ho pins s2 σ H2 x y v u Q I2 rx ry q) hm
def tTest (t:TE):TT:=λσ H Q=>t σ H λx H'=>∃k,x=.bl k/\Q k H'
theorem pt_cmpR {op:CmpOp}{r:R2}(ho:OpR X (compareOp op) r) (ha:PE X a ta) (hb:PE X b tb) (hm:behindInMarks op b=false):PT X (.Compare a [op] [b] pos) (tTest (tOp r ta tb)):=by
 intro pins s σ H Q I h
 refine wpAny_isTrue_Compare1 (thn (ha pins s σ H _ I h) λv s1 ⟨x,H1,I1,r1,q1⟩=>thn (hb pins s1 σ H1 _ I1 q1) λu s2 ⟨y,H2,I2,r2,q2⟩=>
  thn (ho pins s2 σ H2 x y v u _ I2 r1 r2 q2) λc s3 ⟨z,H3,I3,r3,k,e,q3⟩=>?_) hm
 subst e
 cases r3
 exact wpAny_truthy_bool ⟨H3,I3,q3⟩
def tChain (r r':R2) (ta tb tc:TE):TE:=λσ H Q=>ta σ H λx H1=>tb σ H1 λy H2=>r x y H2 λz H3=>∃k,z=.bl k /\
 (if k=true then tc σ H3 λw' H4=>r' y w' H4 Q else Q (.bl false) H3)
theorem pe_chain {op op':CmpOp}{r r':R2}(ho:OpR X (compareOp op) r) (ho':OpR X (compareOp op') r') (ha:PE X a ta) (hb:PE X b tb) (hc:PE X c tc)
  (hm:lastMarks [op,op'] [b,c]=false:=by with_unfolding_all rfl):PE X (.Compare a [op,op'] [b,c] pos) (tChain r r' ta tb tc):=by
 intro pins s σ H Q I h
 refine Compare_chain (thn (ha pins s σ H _ I h) λv s1 ⟨x,H1,I1,r1,q1⟩=>chain_link (thn (hb pins s1 σ H1 _ I1 q1) λu s2 ⟨y,H2,I2,r2,q2⟩=>
  thn (ho pins s2 σ H2 x y v u _ I2 r1 r2 q2) λd s3 ⟨z,H3,I3,r3,k,e,q3⟩=>?_)) hm
 subst e
 cases r3
 refine wpAny_truthy_bool ?_
 cases k with
 |false=>exact ite_ff ⟨.bl false,H3,I3,rfl,q3⟩
 |true=>exact ite_tt (chain_last (thn (hc pins s3 σ H3 _ I3 q3) λw' s4 ⟨z',H4,I4,r4,q4⟩=>ho' pins s4 σ H4 y z' u w' Q I4 r2 r4 q4))
theorem line63:(sizeLine:Nat)<2^63:=by rw[sizeLine_eq];decide
theorem vals1 {x:V}{us:List Value}(r:Vals [x] us):∃u,us=[u]/\RelV x u:=by
 cases r with
 |cons r1 r2=>cases r2;exact⟨_,rfl,r1⟩
theorem vals2 {x y:V}{us:List Value}(r:Vals [x,y] us):∃u w',us=[u,w']/\RelV x u/\RelV y w':=by
 cases r with
 |cons r1 r2=>
  cases r2 with
  |cons r3 r4=>cases r4;exact⟨_,_,rfl,r1,r3⟩
theorem call_max2 (hc:X.calm=true):CallR X (.builtin "max") (λxs H Q=>∃i j,xs=[.int i,.int j]/\Q (.int (if j>i then j else i)) H):=by
 intro pins s σ H xs us Q I r h
 obtain⟨i,j,rfl,q⟩:=h
 obtain⟨u,w',rfl,⟨t,rfl⟩,⟨t',rfl⟩⟩:=vals2 r
 refine max_two_ints (I.ok.hd hc) λh' tk k=>⟨_,H,I.kept k,?_,q⟩
 by_cases hj:j>i
 ·rw[if_pos hj,if_pos hj];exact⟨_,rfl⟩
 ·rw[if_neg hj,if_neg hj];exact⟨_,rfl⟩
theorem call_min2 (hc:X.calm=true):CallR X (.builtin "min") (λxs H Q=>∃i j,xs=[.int i,.int j]/\Q (.int (if j<i then j else i)) H):=by
 intro pins s σ H xs us Q I r h
 obtain⟨i,j,rfl,q⟩:=h
 obtain⟨u,w',rfl,⟨t,rfl⟩,⟨t',rfl⟩⟩:=vals2 r
 refine min_two_ints (I.ok.hd hc) λh' tk k=>⟨_,H,I.kept k,?_,q⟩
 by_cases hj:j<i
 ·rw[if_pos hj,if_pos hj];exact⟨_,rfl⟩
 ·rw[if_neg hj,if_neg hj];exact⟨_,rfl⟩
theorem call_int1:CallR X (.type "int") (λxs H Q=>(∃i,xs=[.int i]/\Q (.int i) H)\/∃k,xs=[.bl k]/\Q (.int (if k then 1 else 0)) H):=by
 intro pins s σ H xs us Q I r h
 rcases h with ⟨i,rfl,q⟩|⟨k,rfl,q⟩
 ·obtain⟨u,rfl,t,rfl⟩:=vals1 r
  exact call_int_int ⟨.int i,H,I,⟨_,rfl⟩,q⟩
 ·obtain⟨u,rfl,r1⟩:=vals1 r
  cases r1
  exact call_int_bool ⟨.int (if k then 1 else 0),H,I.tok _,⟨_,rfl⟩,q⟩
end
structure ObjM (h:Heap) (x dx C:Addr) (mA:Str->Option Value):Prop where
 obj:h.get? x=some (PySem.W.instObj C dx)
 ns:h.Ns1 dx mA
 ne:dx≠x
theorem lookIn_ns {h:Heap}{dx:Addr}{mA:Str->Option Value}(n:h.Ns1 dx mA):∃od,h.get? dx=some od/\∀name,PySem.W.lookIn name od=some (mA name):=by
 obtain⟨o,es,ep,ho,hd,hk,_,hm⟩:=n
 refine⟨o,ho,λname=>?_⟩
 have e:=hm name
 unfold nsFind findBy at e
 rw[<- Array.find?_toList] at e
 unfold PySem.W.lookIn
 rw[hd]
 dsimp only
 split
 ·rename_i y q
  rw[q] at e
  exact congrArg some e
 ·rename_i q
  rw[q] at e
  have a:es.toList.any (·.refKey)=false:=by
   rw[List.any_eq_false]
   intro y hy
   obtain⟨z,t,hkey⟩:=hk y (Array.mem_toList_iff.mp hy)
   simp[DictEntry.refKey,hkey]
  have a':¬es.toList.any (·.refKey)=true:=by rw[a];exact Bool.false_ne_true
  rw[if_neg a']
  exact congrArg some e
theorem ObjM.look {h:Heap}{x dx C:Addr}{mA:Str->Option Value}(I:ObjM h x dx C mA):∃od,PySem.W.InstAt h x (PySem.W.instObj C dx) C (some od)/\∀name,PySem.W.lookIn name od=some (mA name):=
 let ⟨od,ho,hl⟩:=lookIn_ns I.ns
 ⟨od,⟨I.obj,rfl,rfl,ho⟩,hl⟩
section
variable {prog:Program}{w:World}{A:Around}{E:Value->Shared->Prop}{s:Shared}{K:PySem.W.Frag}{x dx C f:Addr}{mA:Str->Option Value}{name:Str}{v:Value}
theorem get_map {expr:Bool}{Q:Value->Shared->Prop}(X:K.In s.heap) (I:ObjM s.heap x dx C mA) (hg:PySem.W.plainGet K C name=true) (hh:PySem.W.hasDictIn K C=true)
  (ha:PySem.W.findIn K (.ref C) name=some none) (hv:mA name=some v) (hv':PySem.W.handedIn v=true) (h:Q v { s with toks:=s.toks+1 }) :
  wpAny (model prog w) A (getAttr (.ref x) name expr) Q E s:=by
 obtain⟨od,J,hl⟩:=I.look
 exact PySem.W.get_value X J (PySem.W.plainGet_of hg).1 (PySem.W.findObj_own hh ha rfl (by rw[hl,hv])) hv' h
theorem get_meth {pl:Sem Bool}{Q:Value×List Value->Shared->Prop}(X:K.In s.heap) (I:ObjM s.heap x dx C mA) (hg:PySem.W.plainGet K C name=true)
  (hf:PySem.W.findIn K (.ref C) name=some (some (.ref f))) (ht:PySem.W.isFn K (.ref f)=true) (hv:mA name=none) (h:Q (.ref f,[.ref x]) s) :
  wpAny (model prog w) A (getMethod (.ref x) name pl) Q E s:=by
 obtain⟨od,J,hl⟩:=I.look
 exact PySem.W.method_fn X J (PySem.W.plainGet_of hg).1 (PySem.W.plainGet_of hg).2 hf (beq_iff_eq.mp ht) (by show (PySem.W.lookIn name od).map (·.isSome)=some false;rw[hl,hv];rfl) h
theorem set_map {ns:List Str}{Q:Unit->Shared->Prop}(X:K.In s.heap) (I:ObjM s.heap x dx C mA)
  (hs:PySem.W.findIn K (.ref C) "__setattr__" = some (some (.builtin "object.__setattr__"))) (hp:PySem.W.plainOver K C=true) (ht:PySem.W.takerIn K C name=some none) (hh:PySem.W.hasDictIn K C=true)
  (hw:PySem.Within mA ns) (hsz:ns.length<=sizeLine)
  (h:∀h',ObjM h' x dx C (λy=>if y=name then some v else mA y)->Heap.SameBut dx s.heap h'->Q () { s with heap:=h',toks:=s.toks+2 }) :
  wpAny (model prog w) A (setAttr (.ref x) name v) Q E s:=by
 obtain⟨od,J,hl⟩:=I.look
 refine PySem.W.set_plain X J hs (PySem.W.osa_open (s:={ s with toks:=s.toks+1 }) (r:=none) X J hp ht λb=>?_)
 obtain⟨cd,hc,hd'⟩:=PySem.W.any_some hh
 have hx:s.heap.get? x=some ⟨.ref C,some dx,.plain,#[]⟩:=I.obj
 refine wpAny_bind (wpAny_pure (wpAny_bind (wpAny_bind (wpAny_loadPart hx (wpAny_bind (PySem.W.Looks.here (s:={ s with toks:=s.toks+1 }) (PySem.W.looks_clsIn X hc) ?_))))))
 rw[hd']
 refine wpAny_pure (a:=some dx) (wpAny_bind (wpAny_pure (wpAny_bind ?_)))
 refine wpAny_nsSet1 (s:={ s with toks:=s.toks+1 }) I.ns λh' hn2 hs2=>?_
 obtain⟨oD,esD,epD,hoD,hdD,hcD⟩:=hn2.count (PySem.Within.cons name v hw)
 refine wpAny_bind (wpAny_lookBehind hoD (by rw[hdD];exact pastItsLine_dict (Nat.le_trans hcD (by rw[List.length_cons];lia))) ?_)
 exact wpAny_pure (h _ ⟨(hs2.2 _ (Ne.symm I.ne)).trans I.obj,hn2,I.ne⟩ hs2)
theorem make_map {R:Result->Shared->Prop}{vs:List Value}{kw:List (Str×Value)}(X:K.In s.heap) (hm:PySem.W.makesIn K C=true)
  (hi:PySem.W.findIn K (.ref C) "__init__" = some (some (.ref f))) (hf:PySem.W.typeIn K (.ref f)=some (.type "function"))
  (h:codeAny (model prog w) (A.under (.builtin "type.__call__" ⟨.ref C::vs,kw⟩)) (.call (.ref f) ⟨.ref (s.heap.objs.size+1)::vs,kw⟩) (PySem.W.InitBack (s.heap.objs.size+1) R)
   { s with heap:=(s.heap.push PySem.W.emptyDict).push (PySem.W.instObj C s.heap.objs.size) }) :
  codeAny (model prog w) A (.call (.ref C) ⟨vs,kw⟩) R s:=by
 obtain⟨hh,g,d,t,os⟩:=s
 exact PySem.W.make_core (PySem.W.makes_of X hm) (PySem.W.looks_findIn X hi) (λself=>PySem.W.bind_fn X self hf) (.inl rfl) h
end
def putF (f:Str) (v:V):List (Str×V)->List (Str×V)
 |[]=>[(f,v)]
 |(g,x)::r=>if g=f then (g,v)::r else (g,x)::putF f v r
theorem lookup_putF (f g:Str) (v:V):∀fs:List (Str×V),(putF f v fs).lookup g=if g=f then some v else fs.lookup g
 |[]=>by
  show List.lookup g [(f,v)]=_
  by_cases h:g=f
  ·have hb:(g==f)=true:=beq_iff_eq.mpr h
   simp only[List.lookup,hb,if_pos h]
  ·have hb:(g==f)=false:=beq_eq_false_iff_ne.mpr h
   simp only[List.lookup,hb,if_neg h]
 |(k,x)::r=>by
  have ih:=lookup_putF f g v r
  rw[show putF f v ((k,x)::r)=(if k=f then (k,v)::r else (k,x)::putF f v r) from rfl]
  by_cases hk:k=f
  ·rw[if_pos hk]
   by_cases h:g=k
   ·have hb:(g==k)=true:=beq_iff_eq.mpr h
    simp only[List.lookup,hb,if_pos (h.trans hk)]
   ·have hb:(g==k)=false:=beq_eq_false_iff_ne.mpr h
    simp only[List.lookup,hb,if_neg (λe:g=f=>h (e.trans hk.symm))]
  ·rw[if_neg hk]
   by_cases h:g=k
   ·have hb:(g==k)=true:=beq_iff_eq.mpr h
    simp only[List.lookup,hb,if_neg (λe:g=f=>hk (h.symm.trans e))]
   ·have hb:(g==k)=false:=beq_eq_false_iff_ne.mpr h
    simp only[List.lookup,hb]
    exact ih
theorem keys_putF (f:Str) (v:V):∀fs:List (Str×V),f∈(putF f v fs).map (·.1)/\∀g,g∈fs.map (·.1)->g∈(putF f v fs).map (·.1)
 |[]=>⟨by simp[putF],λg h=>by simp at h⟩
 |(k,x)::r=>by
  obtain⟨i1,i2⟩:=keys_putF f v r
  rw[show putF f v ((k,x)::r)=(if k=f then (k,v)::r else (k,x)::putF f v r) from rfl]
  by_cases hk:k=f
  ·rw[if_pos hk]
   subst hk
   exact⟨by simp,λg h=>by simpa using h⟩
  ·rw[if_neg hk]
   refine⟨?_,λg h=>?_⟩
   ·rw[List.map_cons]
    exact List.mem_cons_of_mem _ i1
   ·rw[List.map_cons] at h ⊢
    rcases List.mem_cons.mp h with e|e
    ·exact List.mem_cons.mpr (.inl e)
    ·exact List.mem_cons_of_mem _ (i2 g e)
theorem length_putF (f:Str) (v:V):∀fs:List (Str×V),(putF f v fs).length<=fs.length+1
 |[]=>by simp[putF]
 |(k,x)::r=>by
  have ih:=length_putF f v r
  rw[show putF f v ((k,x)::r)=(if k=f then (k,v)::r else (k,x)::putF f v r) from rfl]
  by_cases hk:k=f
  ·rw[if_pos hk,List.length_cons,List.length_cons];lia
  ·rw[if_neg hk,List.length_cons,List.length_cons];lia
theorem RelO.some_of {v:V}{o:Option Value}(r:RelO (some v) o):∃u,o=some u/\RelV v u:=by
 cases o with
 |none=>exact (show False from r).elim
 |some u=>exact⟨u,rfl,r⟩
theorem RelO.none_of {o:Option Value}(r:RelO none o):o=none:=by
 cases o with
 |none=>rfl
 |some u=>exact (show False from r).elim
theorem handed_of {v:V}{u:Value}(r:RelV v u):PySem.W.handedIn u=true:=by
 cases v with
 |non=>cases (show u=Value.none from r);rfl
 |bl b=>cases (show u=Value.bool b from r);rfl
 |int i=>obtain⟨t,e⟩:=(show ∃t,u=Value.int i t from r);cases e;rfl
 |str x=>obtain⟨t,e⟩:=(show ∃t,u=Value.str x t from r);cases e;rfl
 |byt b=>obtain⟨t,e⟩:=(show ∃t,u=Value.bytes b t from r);cases e;rfl
 |flt b=>obtain⟨t,e⟩:=(show ∃t,u=Value.float b t from r);cases e;rfl
 |ref a=>cases (show u=Value.ref a from r);rfl
 |ty n=>cases (show u=Value.type n from r);rfl
section
variable {P:Program}{w:World}{H H':Hp}{h h':Heap}{a C dx:Addr}{fs fs':List (Str×V)}
theorem ins_get (hok:HOk P w H h) (e:H a=some (.ins C dx fs)):∃mA,ObjM h a dx C mA/\(∀f,RelO (fs.lookup f) (mA f))/\PySem.Within mA (fs.map (·.1))/\fs.length<=1000/\H dx=some (.own a):=by
 obtain⟨d,z,ne,ob,mA,n,r,q⟩:=(show ObjOk P w H h a (.ins C dx fs) from hok a _ e)
 exact⟨mA,⟨ob,n,ne⟩,r,q,z,d⟩
end
structure Cls (K:PySem.W.Frag) (C:Addr):Prop where
 pg:PySem.W.plainGet K C Str.empty=true
 hd:PySem.W.hasDictIn K C=true
 po:PySem.W.plainOver K C=true
 sa:PySem.W.findIn K (.ref C) "__setattr__" = some (some (.builtin "object.__setattr__"))
theorem Cls.get {K:PySem.W.Frag}{C:Addr}(c:Cls K C) (f:Str):PySem.W.plainGet K C f=true:=c.pg
def NoAttr (K:PySem.W.Frag) (C:Addr) (f:Str):Prop:=PySem.W.findIn K (.ref C) f=some none
theorem NoAttr.taker {K:PySem.W.Frag}{C:Addr}{f:Str}(n:NoAttr K C f):PySem.W.takerIn K C f=some none:=by
 unfold PySem.W.takerIn
 rw[show PySem.W.findIn K (.ref C) f=some none from n]
 rfl
structure Meth (K:PySem.W.Frag) (C:Addr) (m:Str) (f:Addr):Prop where
 at_:PySem.W.findIn K (.ref C) m=some (some (.ref f))
 fn:PySem.W.isFn K (.ref f)=true
 kp:PySem.W.keepIn K (.ref f)=true
section
variable {X:Cx}{pins:List (Addr×Obj)}{σ:St}{H:Hp}{s:Shared}{a C dx:Addr}{fs:List (Str×V)}{f:Str}{v:V}{A:Around}{E:Value->Shared->Prop}
theorem getattr_ok {b:Bool}{Q:Value->Shared->Prop}(I:Inv X pins σ H s) (e:H a=some (.ins C dx fs)) (c:Cls X.K C) (n:NoAttr X.K C f) (l:fs.lookup f=some v)
  (h:∀u s',Inv X pins σ H s'->RelV v u->Q u s'):wpAny (model X.prog X.w) A (getAttr (.ref a) f b) Q E s:=by
 obtain⟨mA,O,r,_,_,_⟩:=ins_get I.hok e
 obtain⟨u,hu,ru⟩:=RelO.some_of (v:=v) (o:=mA f) (by rw[<- l];exact r f)
 exact get_map I.kIn O (c.get f) c.hd n hu (handed_of ru) (h u _ (I.tok _) ru)
theorem getmeth_ok {m:Str}{g:Addr}{pl:Sem Bool}{Q:Value×List Value->Shared->Prop}(I:Inv X pins σ H s) (e:H a=some (.ins C dx fs)) (c:Cls X.K C) (k:Meth X.K C m g) (l:fs.lookup m=none)
  (h:Q (.ref g,[.ref a]) s):wpAny (model X.prog X.w) A (getMethod (.ref a) m pl) Q E s:=by
 obtain⟨mA,O,r,_,_,_⟩:=ins_get I.hok e
 have hn:mA m=none:=RelO.none_of (by rw[<- l];exact r m)
 exact get_meth I.kIn O (c.get m) k.at_ k.fn hn h
theorem setattr_ok {y:V}{u:Value}{Q:Unit->Shared->Prop}(I:Inv X pins σ H s) (e:H a=some (.ins C dx fs)) (c:Cls X.K C) (n:NoAttr X.K C f) (hl:fs.length<1000) (ry:RelV y u)
  (h:∀s',Inv X pins σ (upd H a (.ins C dx (putF f y fs))) s'->Q () s'):wpAny (model X.prog X.w) A (setAttr (.ref a) f u) Q E s:=by
 obtain⟨mA,O,r,wi,_,ho⟩:=ins_get I.hok e
 have hz:(fs.map (·.1)).length<=sizeLine:=by rw[List.length_map,sizeLine_eq];lia
 refine set_map I.kIn O c.sa c.po n.taker c.hd wi hz λh' O' sb=>h _ ?_
 have hd:∃o,h'.get? dx=some o:=let ⟨o,_,_,e',_⟩:=O'.ns;⟨o,e'⟩
 refine I.write (x:=a) (e:=dx) (by rw[e];exact True.intro) (.inr ho) (λb q hb z=>(sb.2 b hb).trans z) hd ?_
 refine⟨by rw[upd_ne O.ne];exact ho,?_,O.ne,O'.obj,_,O'.ns,λg=>?_,λg hg=>?_⟩
 ·have:=length_putF f y fs;lia
 ·show RelO ((putF f y fs).lookup g) (if g=f then some u else mA g)
  rw[lookup_putF]
  by_cases q:g=f
  ·rw[if_pos q,if_pos q];exact ry
  ·rw[if_neg q,if_neg q];exact r g
 ·by_cases q:g=f
  ·rw[q];exact (keys_putF f y fs).1
  ·refine (keys_putF f y fs).2 g (wi g λz=>hg ?_)
   show (if g=f then some u else mA g)=none
   rw[if_neg q];exact z
theorem Inv.made (I:Inv X pins σ H s):Inv X pins σ (upd (upd H s.heap.objs.size (.own (s.heap.objs.size+1))) (s.heap.objs.size+1) (.ins C s.heap.objs.size []))
  { s with heap:=(s.heap.push PySem.W.emptyDict).push (PySem.W.instObj C s.heap.objs.size) }:=by
 have e1:(s.heap.push PySem.W.emptyDict).get? s.heap.objs.size=some PySem.W.emptyDict:=Heap.get?_push_size s.heap rfl
 have e2:((s.heap.push PySem.W.emptyDict).push (PySem.W.instObj C s.heap.objs.size)).get? (s.heap.objs.size+1)=some (PySem.W.instObj C s.heap.objs.size):=by
  have:=Heap.get?_push_size (s.heap.push PySem.W.emptyDict) (o:=PySem.W.instObj C s.heap.objs.size) rfl
  rwa [Heap.size_push] at this
 have e3:(s.heap.push PySem.W.emptyDict).Ns s.heap.objs.size (λ_=>none):=⟨PySem.W.emptyDict,#[],_,e1,rfl,(λe he=>absurd he (by simp)),λ_=>rfl⟩
 have I1:=I.laid (a:=s.heap.objs.size) (o:=.own (s.heap.objs.size+1)) (h':=s.heap.push PySem.W.emptyDict) (t':=s.toks) (λb u q=>Heap.get?_push_of_some _ q) (Nat.le_refl _) ⟨_,e1⟩
 refine I1.laid (a:=s.heap.objs.size+1) (o:=.ins C s.heap.objs.size []) (t':=s.toks) (λb u q=>Heap.get?_push_of_some _ q) (Nat.le_of_eq (Heap.size_push _ _)) ?_
 have ne:s.heap.objs.size≠s.heap.objs.size+1:=Nat.ne_of_lt (Nat.lt_succ_self _)
 refine⟨by rw[upd_ne ne,qa1],Nat.zero_le _,ne,e2,λ_=>none,(Heap.Ns1.of_empty e3).at λo q=>Heap.get?_push_of_some _ q,λ_=>True.intro,λy hy=>absurd rfl hy⟩
theorem attr_of {prog:Program}{w:World}{env:Env}{e:Expr}{f:Str}{pos:Pos}{s:Shared}{Q:Value->Shared->Prop}(hb:attributeBase e f env (eval e env)=eval e env)
  (h:wpAny (model prog w) A (eval e env) (λo s₁=>wpAny (model prog w) A (getAttr o f true) Q E s₁) E s):wpAny (model prog w) A (eval (.Attribute e f pos) env) Q E s:=
 Attribute_any_ h (by rw[arm_eval_Attribute,hb])
end
def tFld (K:PySem.W.Frag) (ta:TE) (f:Str):TE:=λσ H Q=>ta σ H λx H1=>∃a C dx fs v,x=.ref a/\H1 a=some (.ins C dx fs)/\Cls K C/\NoAttr K C f/\fs.lookup f=some v/\Q v H1
def sFld (K:PySem.W.Frag) (ta tv:TE) (f:Str):TS:=λD σ H=>tv σ H λy H1=>ta σ H1 λx H2=>∃a C dx fs,x=.ref a/\H2 a=some (.ins C dx fs)/\Cls K C/\NoAttr K C f/\fs.length<1000 /\
 D.nx σ (upd H2 a (.ins C dx (putF f y fs)))
section
variable {X:Cx}{o e value:Expr}{f:Str}{pos pos' tpos:Pos}{ta tv:TE}
theorem pe_fld (he:PE X e ta) (hb:attributeBase e f X.env (eval e X.env)=eval e X.env):PE X (.Attribute e f pos) (tFld X.K ta f):=by
 intro pins s σ H Q I h
 refine attr_of hb (thn (he pins s σ H _ I h) λu s1 ⟨x,H1,I1,rx,a,C,dx,fs,v,ex,ea,c,n,l,q⟩=>?_)
 subst ex
 obtain rfl:u=Value.ref a:=rx
 exact getattr_ok I1 ea c n l λu' s2 I2 ru=>⟨v,H1,I2,ru,q⟩
theorem ps_fld (ha:PE X o ta) (hv:PE X value tv) (hs:swapsWith value (some (.Attribute o f pos')) pos.line X.env=pure false):PS X (.Assign [.Attribute o f pos'] value pos) (sFld X.K ta tv f):=by
 intro pins s σ H D I h
 refine plainObj_wpAny_Assign_Attribute (thn (hv pins s σ H _ I h) λu s1 ⟨y,H1,I1,ry,q⟩=>thn (ha pins s1 σ H1 _ I1 q) λov s2 ⟨x,H2,I2,rx,a,C,dx,fs,ex,ea,c,n,l,q2⟩=>?_) hs
 subst ex
 obtain rfl:ov=Value.ref a:=rx
 exact setattr_ok I2 ea c n l ry λs3 I3=>⟨σ,_,I3,q2⟩
end
section
variable {X:Cx}{pins:List (Addr×Obj)}{σ:St}{H:Hp}{s:Shared}{A:Around}{E:Value->Shared->Prop}{Q:Value->Shared->Prop}{c:Value}{b:Bool}
inductive TyOf (K:PySem.W.Frag) (H:Hp):V->Value->Prop where
 |non:TyOf K H .non (.type "NoneType")
 |bl (x:Bool):TyOf K H (.bl x) (.type "bool")
 |int (i:Int):TyOf K H (.int i) (.type "int")
 |str (x:Str):TyOf K H (.str x) (.type "str")
 |flt (x:UInt64):TyOf K H (.flt x) (.type "float")
 |lst {a:Addr}{xs:List V}(e:H a=some (.lst xs)):TyOf K H (.ref a) (.type "list")
 |frz {a:Addr}{o:Obj}{xs:List V}(e:H a=some (.frz o (.lst xs))):TyOf K H (.ref a) (.type "list")
 |tup {a:Addr}{xs:List V}(e:H a=some (.tup xs)):TyOf K H (.ref a) (.type "tuple")
 |dK {a:Addr}{kvs:List (Key×V)}(e:H a=some (.dK kvs)):TyOf K H (.ref a) (.type "dict")
 |dT {a:Addr}{kvs:List (List Key×V)}(e:H a=some (.dT kvs)):TyOf K H (.ref a) (.type "dict")
 |ins {a C dx:Addr}{fs:List (Str×V)}(e:H a=some (.ins C dx fs)) (cl:Cls K C) (ha:PySem.W.findIn K (.ref C) "__class__" = some (some (.builtin "object.__class__")))
   (hn:PySem.W.specialIn K (.builtin "object.__class__") "__get__" = some (some (.builtin "getset_descriptor.__get__"))) (htk:PySem.W.takesIn K (.builtin "object.__class__")=some true)
   (hm:PySem.W.mroIn K C (.type "object")=some true):TyOf K H (.ref a) (.ref C)
theorem isinst_ok {x:V}{u t:Value}(I:Inv X pins σ H s) (rx:RelV x u) (ty:TyOf X.K H x t) (e:PySem.W.kitOne X.K t c=some b) (h:∀tk,Q (.bool b) { s with toks:=tk }) :
  wpAny (model X.prog X.w) A (call (.builtin "isinstance") [u,c]) Q E s:=by
 cases ty with
 |non=>cases (show u=Value.none from rx);exact PySem.W.kia_one PySem.W.kitx_none I.kIn True.intro e (λz=>nomatch z) h
 |bl y=>cases (show u=Value.bool y from rx);exact PySem.W.kia_one PySem.W.kitx_bool I.kIn True.intro e (λz=>nomatch z) h
 |int i=>obtain⟨t,q⟩:=(show ∃t,u=Value.int i t from rx);cases q;exact PySem.W.kia_one PySem.W.kitx_int I.kIn True.intro e (λz=>nomatch z) h
 |str y=>obtain⟨t,q⟩:=(show ∃t,u=Value.str y t from rx);cases q;exact PySem.W.kia_one PySem.W.kitx_str I.kIn True.intro e (λz=>nomatch z) h
 |flt y=>obtain⟨t,q⟩:=(show ∃t,u=Value.float y t from rx);cases q;exact PySem.W.kia_one PySem.W.kitx_float I.kIn True.intro e (λz=>nomatch z) h
 |@lst a xs ea=>
  cases (show u=Value.ref a from rx)
  obtain⟨_,_,n,_,h1⟩:=(show ObjOk X.prog X.w H s.heap a (.lst xs) from I.hok a _ ea)
  exact PySem.W.kia_one PySem.W.kitx_list I.kIn ⟨_,h1,rfl⟩ e (λz=>nomatch z) h
 |@frz a ob xs ea=>
  cases (show u=Value.ref a from rx)
  obtain⟨_,_,_,n,_,h1⟩:=(show ObjOk X.prog X.w H s.heap a (.frz ob (.lst xs)) from I.hok a _ ea)
  exact PySem.W.kia_one PySem.W.kitx_list I.kIn ⟨_,h1,rfl⟩ e (λz=>nomatch z) h
 |@tup a xs ea=>
  cases (show u=Value.ref a from rx)
  obtain⟨_,_,_,p⟩:=(show ObjOk X.prog X.w H s.heap a (.tup xs) from I.hok a _ ea)
  obtain⟨o,h1,h2,_⟩:=p
  exact PySem.W.kia_one PySem.W.kitx_tuple I.kIn ⟨o,h1,h2⟩ e (λz=>nomatch z) h
 |@dK a kvs ea=>
  cases (show u=Value.ref a from rx)
  obtain⟨_,_,vs,_,p⟩:=(show ObjOk X.prog X.w H s.heap a (.dK kvs) from I.hok a _ ea)
  obtain⟨o,es,ep,h1,h2,_⟩:=p
  exact PySem.W.kia_one PySem.W.kitx_dict I.kIn ⟨o,h1,h2.1⟩ e (λz=>nomatch z) h
 |@dT a kvs ea=>
  cases (show u=Value.ref a from rx)
  obtain⟨_,_,xs,_,o,es,ep,h1,h2,_⟩:=(show ObjOk X.prog X.w H s.heap a (.dT kvs) from I.hok a _ ea)
  exact PySem.W.kia_one PySem.W.kitx_dict I.kIn ⟨o,h1,h2.1⟩ e (λz=>nomatch z) h
 |@ins a C dx fs ea cl ha hn htk hm=>
  cases (show u=Value.ref a from rx)
  obtain⟨mA,O,_⟩:=ins_get I.hok ea
  obtain⟨od,J,_⟩:=O.look
  exact PySem.W.kia_one (PySem.W.kitx_own (cl.get _) cl.hd ha hn htk hm) I.kIn J e (λz=>nomatch z) h
end
structure Room (k:Nat) (A:Around):Prop where
 hd:A.handled=none
 dp:A.depth+3*k+5<recursionLimit
 un:A.units+16*k+200<cLine
 gd:A.guards=some []
theorem Room.mono {j k:Nat}{A:Around}(r:Room k A) (h:j<=k):Room j A:=⟨r.hd,by have:=r.dp;lia,by have:=r.un;lia,r.gd⟩
theorem Room.deeper {k:Nat}{A:Around}(r:Room (k+1) A) (env:Env):Room k (A.deeper env):=
 ⟨r.hd,by have:=r.dp;show A.depth+1+3*k+5<_;lia,by have:=r.un;show A.units+3+16*k+200<_;lia,r.gd⟩
theorem make_depth {A:Around}{C:Addr}{us:List Value}{kw:List (Str×Value)}:(A.under (.builtin "type.__call__" ⟨.ref C::us,kw⟩)).depth=A.depth+1:=by
 first|rfl|simp[Around.under,Code.weight,Code.isCreation,Code.isGuard,Code.isCaller,Code.frames,Code.isFrame,guardIds]
theorem make_units {A:Around}{C:Addr}{us:List Value}{kw:List (Str×Value)}:(A.under (.builtin "type.__call__" ⟨.ref C::us,kw⟩)).units=A.units+1:=by
 first|rfl|simp[Around.under,Code.cUnits,Code.frames,Code.isFrame]
theorem make_guards {A:Around}{C:Addr}{us:List Value}{kw:List (Str×Value)}:(A.under (.builtin "type.__call__" ⟨.ref C::us,kw⟩)).guards=A.guards:=by
 first|rfl|(unfold Around.under;simp[Code.guards,Code.isGuard,guardIds,pushGuards])|(cases h:A.guards<;>simp[Around.under,Code.guards,Code.isGuard,guardIds,pushGuards,h])
theorem Room.make {k:Nat}{A:Around}(r:Room (k+1) A) (C:Addr) (us:List Value) (kw:List (Str×Value)):Room k (A.under (.builtin "type.__call__" ⟨.ref C::us,kw⟩)):=
 ⟨r.hd,by have:=r.dp;rw[make_depth];lia,by have:=r.un;rw[make_units];lia,by rw[make_guards];exact r.gd⟩
theorem Room.depth {k:Nat}{A:Around}(r:Room k A):A.depth<recursionLimit:=by have:=r.dp;lia
theorem Room.units {k:Nat}{A:Around}(r:Room k A):A.units+64<cLine:=by have:=r.un;lia
def tNil:TA:=λ_ H Q=>Q [] H
def tCons (ta:TE) (tr:TA):TA:=λσ H Q=>ta σ H λx H1=>tr σ H1 λxs H2=>Q (x::xs) H2
section
variable {X:Cx}{e:Expr}{es:List Expr}{te:TE}{t:TA}{pos:Pos}
theorem qa3:PA X [] tNil:=λ_ _ _ _ H Q I h=>Calls.spliced_nil ⟨[],H,I,.nil,h⟩
theorem qa0 (ha:PE X e te) (hr:PA X es t) (hs:starEach (e::es) X.env=(false,eval e X.env)::starEach es X.env:=by rfl):PA X (e::es) (tCons te t):=by
 intro pos pins s σ H Q I h
 rw[hs]
 show wpAny _ _ (spliced ((false,eval e X.env)::backTo pos (starEach es X.env))) _ _ s
 refine Calls.spliced_cons (thn (ha pins s σ H _ I h) λu s1 ⟨x,H1,I1,r1,q1⟩=>?_)
 exact thn (hr pos pins s1 σ H1 _ I1 q1) λus s2 ⟨xs,H2,I2,r2,q2⟩=>⟨x::xs,H2,I2,.cons r1 r2,q2⟩
def tTup (t:TA):TE:=λσ H Q=>t σ H λxs H1=>xs.length<=sizeLine/\∀p,H1 p=none->Q (.ref p) (upd H1 p (.tup xs))
def tLst (t:TA):TE:=λσ H Q=>t σ H λxs H1=>xs.length<=sizeLine/\∀p,H1 p=none->Q (.ref p) (upd H1 p (.lst xs))
theorem pe_tup {x1} (h:PA X es t):PE X (.Tuple es x1 pos) (tTup t):=by
 intro pins s σ H Q I hq
 refine wpAny_Tuple_spliced (thn (h pos pins s σ H _ I hq) λus s1 ⟨xs,H1,I1,r,z,q⟩=>⟨by rw[<- r.length];exact z,?_⟩)
 have hf:H1 s1.heap.objs.size=none:=I1.hok.fresh (Nat.le_refl _)
 refine⟨.ref s1.heap.objs.size,upd H1 s1.heap.objs.size (.tup xs),I1.laid (t':=s1.toks) (λb u e=>Heap.get?_push_of_some _ e) (Nat.le_refl _) ?_,rfl,q _ hf⟩
 exact⟨z,us,r,⟨_,Heap.get?_push_size _ rfl,rfl,⟨_,rfl⟩,rfl⟩⟩
theorem pe_lst (h:PA X es t):PE X (.List es pos) (tLst t):=by
 intro pins s σ H Q I hq
 refine wpAny_List_spliced (thn (h pos pins s σ H _ I hq) λus s1 ⟨xs,H1,I1,r,z,q⟩=>⟨by rw[<- r.length];exact z,?_⟩)
 have hf:H1 s1.heap.objs.size=none:=I1.hok.fresh (Nat.le_refl _)
 refine⟨.ref s1.heap.objs.size,upd H1 s1.heap.objs.size (.lst xs),I1.laid (t':=s1.toks) (λb u e=>Heap.get?_push_of_some _ e) (Nat.le_refl _) ?_,rfl,q _ hf⟩
 exact⟨z,us,0,r,Heap.get?_push_size _ rfl⟩
end
abbrev Sp:=List V->Hp->VK->XK->Prop
abbrev CXT:=List Env->Hp->Shared->XK->Value->Shared->Prop
structure Env0 (P:Program) (w:World) (K:PySem.W.Frag) (mg:Str->Option Value) (base:Heap) (A:Around) (outer:List Env) (s:Shared) (H:Hp):Prop where
 frames:A.frames=some outer
 mod:Mod K mg base
 bs:∀b o,base.get? b=some o->s.heap.get? b=some o/\H b=none
 bsz:base.objs.size<=s.heap.objs.size
 funs:s.heap.FunFrames base outer
 frf:∀b∈frs outer,H b=none
 hok:HOk P w H s.heap
 bare:AllBare s.gens
def CE (outer:List Env) (P:Program) (w:World) (H:Hp) (s:Shared) (Q:VK) (u:Value) (s':Shared):Prop:=
 ∃v H',s'.os=s.os/\AllBare s'.gens/\Un (frs outer) [] H H' s.heap s'.heap/\HOk P w H' s'.heap/\RelV v u/\Q v H'
def CR (CX:CXT) (outer:List Env) (P:Program) (w:World) (H:Hp) (s:Shared) (Q:VK) (E:XK) (r:Result) (s':Shared):Prop:=
 match r with
 |.ok (.ret u)=>CE outer P w H s Q u s'
 |.ok _=>False
 |.error e=>CX outer H s E e s'
structure FnOk (P:Program) (w:World) (K:PySem.W.Frag) (mg:Str->Option Value) (base:Heap) (CX:CXT) (k:Nat) (f:Addr) (fd:FuncData) (ps:List Str) (sp:Sp):Prop where
 len:∀vs H Q E,sp vs H Q E->vs.length=ps.length
 run:∀(A:Around) (outer:List Env) (s:Shared) (H:Hp) (args:Args) (us:List Value) (vs:List V) (Q:VK) (E:XK),Room k A->Env0 P w K mg base A outer s H->BindsTo s fd args (ps.zip us)->Vals vs us->sp vs H Q E ->
  codeAny (model P w) A (.call (.ref f) args) (CR CX outer P w H s Q E) s
theorem Env0.make {P:Program}{w:World}{K:PySem.W.Frag}{mg:Str->Option Value}{base:Heap}{A:Around}{outer:List Env}{s:Shared}{H:Hp}(e:Env0 P w K mg base A outer s H) (C:Addr) (us:List Value) (kw:List (Str×Value)) :
  Env0 P w K mg base (A.under (.builtin "type.__call__" ⟨.ref C::us,kw⟩)) outer s H:=⟨by first|exact e.frames|(simpa [Around.under,Code.envs,Code.isFrame,pushEnvs] using e.frames),e.mod,e.bs,e.bsz,e.funs,e.frf,e.hok,e.bare⟩
section
variable {X:Cx}{pins:List (Addr×Obj)}{σ:St}{H:Hp}{s s':Shared}
theorem Inv.env0 (I:Inv X pins σ H s):Env0 X.prog X.w X.K X.mg X.base X.A X.stack s H:=
 ⟨I.ok.frames,I.ok.mod,I.bs,Nat.le_trans I.ok.bsz I.sz,I.stack,I.stkFree,I.hok,I.bare⟩
theorem Inv.after {Q:VK}{u:Value}(I:Inv X pins σ H s) (h:CE X.stack X.prog X.w H s Q u s'):EP X pins σ Q u s':=by
 obtain⟨v,H',os,bare,un,hok,r,q⟩:=h
 obtain⟨hh,g,d,t,os'⟩:=s'
 obtain rfl:os'=s.os:=os
 exact⟨v,H',I.call (h':=hh) (g':=g) (d':=d) (t':=t) (ch:=[]) un hok bare (λb z=>absurd z (by simp)),r,q⟩
end
def tCall (sp:Sp) (dvs:List V) (E:XK) (t:TA):TE:=λσ H Q=>t σ H λvs H1=>sp (vs++dvs) H1 Q E
def tMeth (C:Addr) (m:Str) (sp:Sp) (dvs:List V) (E:XK) (ta:TE) (t:TA):TE:=λσ H Q=>ta σ H λx H1=>∃a dx fs,x=.ref a/\H1 a=some (.ins C dx fs)/\fs.lookup m=none /\
 t σ H1 λvs H2=>sp (x::(vs++dvs)) H2 Q E
def tMake (C:Addr) (sp:Sp) (dvs:List V) (E:XK) (t:TA):TE:=λσ H Q=>t σ H λvs H1=>∀x dx,H1 x=none->H1 dx=none->dx≠x ->
 sp (.ref x::(vs++dvs)) (upd (upd H1 dx (.own x)) x (.ins C dx [])) (λv H2=>v=.non/\Q (.ref x) H2) E
def Binds (K:PySem.W.Frag) (fd:FuncData) (ps:List Str) (ds:List Value):Prop:=
 ∀(s:Shared) (us:List Value),K.In s.heap->(us++ds).length=ps.length->BindsTo s fd ⟨us,[]⟩ (ps.zip (us++ds))
theorem Binds.all {K:PySem.W.Frag}{fd:FuncData}{ps:List Str}(h:∀us:List Value,us.length=ps.length->bindArgs fd ⟨us,[]⟩=pure (ps.zip us)):Binds K fd ps []:=λs us _ hl=>by
 rw[List.append_nil] at hl ⊢
 exact .of_eq (h us hl)
def Passes (CX:CXT) (X:Cx) (E:XK):Prop:=∀(pins:List (Addr×Obj)) (σ:St) (H:Hp) (s:Shared) (e:Value) (s':Shared),Inv X pins σ H s->CX X.stack H s E e s'->X.xe e s'
section
variable {X:Cx}{CX:CXT}{k:Nat}{f C:Addr}{fd:FuncData}{ps:List Str}{sp:Sp}{dvs:List V}{ds:List Value}{E:XK}{x m:Str}{p pos apos:Pos}{e o:Expr}{es:List Expr}{ta:TE}{t:TA}
theorem run_fn {pins:List (Addr×Obj)}{σ:St}{H:Hp}{s:Shared}{Q:VK}{us:List Value}{vs:List V}(F:FnOk X.prog X.w X.K X.mg X.base CX k f fd ps sp) (hr:Room k X.A) (hb:Binds X.K fd ps ds) (hd:Vals dvs ds) (hx:Passes CX X E)
  (I:Inv X pins σ H s) (r:Vals vs us) (h:sp (vs++dvs) H Q E):wpAny (model X.prog X.w) X.A (call (.ref f) us) (EP X pins σ Q) X.xe s:=by
 have r2:Vals (vs++dvs) (us++ds):=r.append hd
 have hl:(us++ds).length=ps.length:=by rw[<- r2.length];exact F.len _ _ _ _ h
 refine wpAny_call (codeAny_mono (F.run X.A X.stack s H ⟨us,[]⟩ (us++ds) (vs++dvs) Q E hr I.env0 (hb s us I.kIn hl) r2 h) λr s' hq=>?_)
 cases r with
 |error e=>exact hx pins σ H s e s' I hq
 |ok fl=>
  cases fl with
  |ret u=>exact I.after hq
  |next=>exact False.elim hq
  |brk=>exact False.elim hq
  |cont=>exact False.elim hq
theorem pe_call (F:FnOk X.prog X.w X.K X.mg X.base CX k f fd ps sp) (hr:Room k X.A) (hg:Gl X x) (hm:X.mg x=some (.ref f)) (hk:PySem.W.keepIn X.K (.ref f)=true) (hb:Binds X.K fd ps ds) (hd:Vals dvs ds) (hx:Passes CX X E)
  (ha:PA X (e::es) t) (hdb:(x==("__debug__" : Str))=false:=by decide) (he:starEach (e::es) X.env=(false,eval e X.env)::starEach es X.env:=by rfl) (hpl:(backTo pos (starEach es X.env)).any (·.1)=false:=by rfl) :
  PE X (.Call (.Name x p) (e::es) [] pos) (tCall sp dvs E t):=by
 intro pins s σ H Q I h
 refine wpAny_Call_Name_kw (ld_glob I hg hm ?_ hdb)
 refine PySem.W.callWith_K (h₀:=X.base) I.ok.mod.kin hk (thn (ha pos pins s σ H _ I h) λus s1 ⟨vs,H1,I1,r,q⟩=>⟨I1.kIn,?_⟩) he hpl
 exact run_fn F hr hb hd hx I1 r q
theorem pe_meth {pl:Sem Bool}(he:PE X o ta) (c:Cls X.K C) (hm:Meth X.K C m f) (F:FnOk X.prog X.w X.K X.mg X.base CX k f fd ps sp) (hr:Room k X.A) (hb:Binds X.K fd ps ds) (hd:Vals dvs ds) (hx:Passes CX X E) (ha:PA X (e::es) t)
  (hst:starEach (e::es) X.env=(false,eval e X.env)::starEach es X.env:=by rfl) (hpl:(backTo pos (starEach es X.env)).any (·.1)=false:=by rfl)
  (ht:eval (.Call (.Attribute o m apos) (e::es) [] pos) X.env=(do
   let ov <- eval o X.env
   standAt apos.atName
   let (f,first) <- holding [ov] (getMethod ov m pl)
   callWith pos f first (backTo pos (starEach (e::es) X.env)) (backToKw pos (keywordEach [] X.env))):=by rfl) :
  PE X (.Call (.Attribute o m apos) (e::es) [] pos) (tMeth C m sp dvs E ta t):=by
 intro pins s σ H Q I h
 refine PySem.W.methodCall_KW (pl:=pl) (thn (he pins s σ H _ I h) λu s1 ⟨x,H1,I1,rx,a,dx,fs,ex,ea,l,q⟩=>?_) ht
 subst ex
 obtain rfl:u=Value.ref a:=rx
 refine getmeth_ok I1 ea c hm l ?_
 refine PySem.W.callWith_K (first:=[.ref a]) (h₀:=X.base) I.ok.mod.kin hm.kp (thn (ha pos pins s1 σ H1 _ I1 q) λus s2 ⟨vs,H2,I2,r,q2⟩=>⟨I2.kIn,?_⟩) hst hpl
 exact run_fn (us:=.ref a::us) (vs:=.ref a::vs) F hr hb hd hx I2 (.cons rfl r) q2
structure Mk (K:PySem.W.Frag) (C f:Addr):Prop where
 makes:PySem.W.makesIn K C=true
 init:PySem.W.findIn K (.ref C) "__init__" = some (some (.ref f))
 fn:PySem.W.isFn K (.ref f)=true
 kp:PySem.W.keepIn K (.ref C)=true
theorem run_make {pins:List (Addr×Obj)}{σ:St}{H:Hp}{s:Shared}{Q:VK}{us:List Value}{vs:List V}(M:Mk X.K C f) (F:FnOk X.prog X.w X.K X.mg X.base CX k f fd ps sp) (hr:Room (k+1) X.A) (hb:Binds X.K fd ps ds) (hd:Vals dvs ds)
  (hx:Passes CX X E) (I:Inv X pins σ H s) (r:Vals vs us)
  (h:∀x dx,H x=none->H dx=none->dx≠x->sp (.ref x::(vs++dvs)) (upd (upd H dx (.own x)) x (.ins C dx [])) (λv H2=>v=.non/\Q (.ref x) H2) E) :
  wpAny (model X.prog X.w) X.A (call (.ref C) us) (EP X pins σ Q) X.xe s:=by
 have hq:=h (s.heap.objs.size+1) s.heap.objs.size (I.hok.fresh (Nat.le_succ _)) (I.hok.fresh (Nat.le_refl _)) (Nat.ne_of_lt (Nat.lt_succ_self _))
 have I2:=Inv.made (C:=C) I
 have r2:Vals (V.ref (s.heap.objs.size+1)::(vs++dvs)) (Value.ref (s.heap.objs.size+1)::(us++ds)):=.cons rfl (r.append hd)
 have hl:(Value.ref (s.heap.objs.size+1)::us++ds).length=ps.length:=by
  have e:=r2.length
  rw[F.len _ _ _ _ hq] at e
  exact e.symm
 refine wpAny_call (make_map (f:=f) I.kIn M.makes M.init (beq_iff_eq.mp M.fn) (codeAny_mono (F.run _ X.stack _ _ ⟨Value.ref (s.heap.objs.size+1)::us,[]⟩ (Value.ref (s.heap.objs.size+1)::(us++ds)) _ _ E (hr.make C us [])
  (I2.env0.make C us []) (hb _ (Value.ref (s.heap.objs.size+1)::us) I2.kIn hl) r2 hq) λr s' hq'=>?_))
 cases r with
 |error e=>exact hx pins σ _ _ e s' I2 hq'
 |ok fl=>
  cases fl with
  |ret u=>
   obtain⟨v,H',I3,rv,ev,q3⟩:=I2.after hq'
   subst ev
   exact⟨rv,⟨V.ref (s.heap.objs.size+1),H',I3,rfl,q3⟩⟩
  |next=>exact False.elim hq'
  |brk=>exact False.elim hq'
  |cont=>exact False.elim hq'
theorem pe_make (M:Mk X.K C f) (F:FnOk X.prog X.w X.K X.mg X.base CX k f fd ps sp) (hr:Room (k+1) X.A) (hg:Gl X x) (hm:X.mg x=some (.ref C)) (hb:Binds X.K fd ps ds) (hd:Vals dvs ds) (hx:Passes CX X E)
  (ha:PA X (e::es) t) (hdb:(x==("__debug__" : Str))=false:=by decide) (he:starEach (e::es) X.env=(false,eval e X.env)::starEach es X.env:=by rfl) (hpl:(backTo pos (starEach es X.env)).any (·.1)=false:=by rfl) :
  PE X (.Call (.Name x p) (e::es) [] pos) (tMake C sp dvs E t):=by
 intro pins s σ H Q I h
 refine wpAny_Call_Name_kw (ld_glob I hg hm ?_ hdb)
 refine PySem.W.callWith_K (h₀:=X.base) I.ok.mod.kin M.kp (thn (ha pos pins s σ H _ I h) λus s1 ⟨vs,H1,I1,r,q⟩=>⟨I1.kIn,?_⟩) he hpl
 exact run_make M F hr hb hd hx I1 r q
theorem pe_make0 (M:Mk X.K C f) (F:FnOk X.prog X.w X.K X.mg X.base CX k f fd ps sp) (hr:Room (k+1) X.A) (hg:Gl X x) (hm:X.mg x=some (.ref C)) (hb:Binds X.K fd ps ds) (hd:Vals dvs ds) (hx:Passes CX X E)
  (hdb:(x==("__debug__" : Str))=false:=by decide):PE X (.Call (.Name x p) [] [] pos) (tMake C sp dvs E tNil):=by
 intro pins s σ H Q I h
 refine wpAny_Call_Name_kw (ld_glob I hg hm ?_ hdb)
 exact PySem.W.callWith_K0 I.kIn M.kp (run_make (us:=[]) M F hr hb hd hx I .nil h)
end
section
variable {X:Cx}{CX:CXT}{k:Nat}{f C:Addr}{fd:FuncData}{ps ks:List Str}{sp:Sp}{E:XK}{x m:Str}{p pos apos kpos:Pos}{e o:Expr}{es:List Expr}{kws:List Keyword}{te ta:TE}{t tk:TA}{nm:Option Str}
variable {g:List Value->List Value->List Value}{gV:List V->List V->List V}
end
structure FnScope (N P:List Str) (sc:Scope):Prop where
 kind:sc.kind=.function
 co:sc.isCoroutine=false
 gen:sc.isGenerator=false
 nd:N.Nodup
 pre:N.take P.length=P
 par:∀x∈P,sc.names.lookup x=some .local\/sc.names.lookup x=some .cell
 nofree:∀y∈sc.names,y.2≠.free
theorem bindL_out {kindOf:Str->Option NameKind}{x:Str}:∀{binds:List (Str×Value)}{m:Str->Option Value},(∀v,(x,v)∉binds)->bindL kindOf binds m x=m x
 |[],_,_=>rfl
 |(n,v)::r,m,h=>by
  unfold bindL
  rw[bindL_out λw hw=>h w (List.mem_cons_of_mem _ hw)]
  split
  ·have:x≠n:=by rintro rfl;exact h v List.mem_cons_self
   simp[this]
  ·rfl
theorem bindC_out {kindOf:Str->Option NameKind}{x:Str}:∀{binds:List (Str×Value)}{m:Str->Option Value},(∀v,(x,v)∉binds)->bindC kindOf binds m x=m x
 |[],_,_=>rfl
 |(n,v)::r,m,h=>by
  unfold bindC
  rw[bindC_out λw hw=>h w (List.mem_cons_of_mem _ hw)]
  split
  ·rfl
  ·have:x≠n:=by rintro rfl;exact h v List.mem_cons_self
   simp[this]
theorem bindL_get {kindOf:Str->Option NameKind}{x:Str}{v:Value}:∀{P:List Str}{vs:List Value}{i:Nat}{m:Str->Option Value},P.Nodup->P[i]?=some x->vs[i]?=some v->kindOf x=some .local ->
  bindL kindOf (P.zip vs) m x=some v
 |[],_,_,_,_,h,_,_=>by simp at h
 |_::_,[],_,_,_,_,h,_=>by simp at h
 |p::P,w::vs,0,m,nd,h1,h2,hk=>by
  simp at h1 h2;subst h1;subst h2
  show bindL kindOf ((p,w)::P.zip vs) m p=_
  unfold bindL
  rw[bindL_out λv hv=>(List.nodup_cons.mp nd).1 (List.of_mem_zip hv).1,if_pos hk]
  simp
 |p::P,w::vs,i+1,m,nd,h1,h2,hk=>by
  show bindL kindOf ((p,w)::P.zip vs) m x=_
  unfold bindL
  exact bindL_get (i:=i) (List.nodup_cons.mp nd).2 (by simpa using h1) (by simpa using h2) hk
theorem bindC_get {kindOf:Str->Option NameKind}{x:Str}{v:Value}:∀{P:List Str}{vs:List Value}{i:Nat}{m:Str->Option Value},P.Nodup->P[i]?=some x->vs[i]?=some v->kindOf x≠some .local ->
  bindC kindOf (P.zip vs) m x=some v
 |[],_,_,_,_,h,_,_=>by simp at h
 |_::_,[],_,_,_,_,h,_=>by simp at h
 |p::P,w::vs,0,m,nd,h1,h2,hk=>by
  simp at h1 h2;subst h1;subst h2
  show bindC kindOf ((p,w)::P.zip vs) m p=_
  unfold bindC
  rw[bindC_out λv hv=>(List.nodup_cons.mp nd).1 (List.of_mem_zip hv).1,if_neg hk]
  simp
 |p::P,w::vs,i+1,m,nd,h1,h2,hk=>by
  show bindC kindOf ((p,w)::P.zip vs) m x=_
  unfold bindC
  exact bindC_get (i:=i) (List.nodup_cons.mp nd).2 (by simpa using h1) (by simpa using h2) hk
def start (N:List Str) (vs:List V):St:=vs.map some++List.replicate (N.length-vs.length) none
def cxOf (CX:CXT) (P:Program) (w:World) (K:PySem.W.Frag) (mg:Str->Option Value) (base:Heap) (N:List Str) (qual:Str) (scope:Scope) (f:Addr) (cd:Value) (A:Around) (outer:List Env) (s:Shared) (H:Hp) (E:XK):Cx where
 prog:=P
 w:=w
 K:=K
 mg:=mg
 base:=base
 A:=A.deeper (envOfC qual scope s.heap.objs.size f cd)
 N:=N
 s₀:=s
 H₀:=H
 env:=envOfC qual scope s.heap.objs.size f cd
 outer:=outer
 stack:=envOfC qual scope s.heap.objs.size f cd::outer
 ex:=[]
 calm:=true
 fn:=λ_=>true
 pn:=[]
 xe:=λe s'=>wpAny (model P w) (A.deeper (envOfC qual scope s.heap.objs.size f cd)) (leaving (envOfC qual scope s.heap.objs.size f cd) e) (λ_ s''=>CX outer H s E e s'') (λe' s''=>CX outer H s E e' s'') s'
theorem cell_has {sc:Scope}{n:Nat}{x:Str}(h:sc.names.lookup x=some .cell):∃c,(cellsFrom n sc.names []).lookup x=some c:=by
 have q:=PySem.W.cellsFrom_some sc.names n [] (.inl h)
 exact Option.isSome_iff_exists.mp q
theorem inv_start {CX:CXT}{P:Program}{w:World}{K:PySem.W.Frag}{mg:Str->Option Value}{base:Heap}{N ps:List Str}{qual:Str}{scope:Scope}{f:Addr}{cd:Value}{A:Around}{outer:List Env}{s s1:Shared}{H:Hp}{E:XK}{us:List Value}{vs:List V}
  (S:FnScope N ps scope) (hd:A.handled=none) (e0:Env0 P w K mg base A outer s H) (hl:vs.length=ps.length) (r:Vals vs us)
  (x:InCallC s s.heap.objs.size (bindL (envOfC qual scope s.heap.objs.size f cd).kindOf (ps.zip us) λ_=>none) (cellsFrom (s.heap.objs.size+1) scope.names []) (bindC (envOfC qual scope s.heap.objs.size f cd).kindOf (ps.zip us) λ_=>none) s1) :
  Inv (cxOf CX P w K mg base N qual scope f cd A outer s H E) [] (start N vs) H s1:=by
 have hpl:ps.length<=N.length:=by have:=congrArg List.length S.pre;rw[List.length_take] at this;lia
 obtain⟨h1,tk,rfl,hk⟩:=x.done
 have noA:∀b:Addr,b∉(cxOf CX P w K mg base N qual scope f cd A outer s H E).ex:=λb z=>absurd (show b∈([]:List Addr) from z) (by simp)
 refine⟨⟨e0.mod,S.kind,rfl,rfl,Nat.le_refl _,λy z c h1 h2=>?_,λy hy=>?_,λy c _ h=>?_,λ_=>hd,Around.frames_deeper e0.frames,.inr ⟨rfl,rfl⟩,λb z=>absurd z (noA b),e0.bs,e0.bsz,λb _ _=>noA b,λb z=>absurd z (noA b),e0.funs,e0.frf⟩,
  rfl,e0.bare,Un.kept hk,⟨_,x.toInCall.ns,λi y v h1 h2 h3=>?_⟩,λy c h=>⟨_,x.cell y c h⟩,e0.hok.fresh (Nat.le_refl _),λy c h=>?_,λp hp=>absurd (show p∈([]:List (Addr×Obj)) from hp) (by simp),e0.hok.kept hk,?_⟩
 ·exact name_of_addr x.apart (PySem.mem_of_lookup h1) (PySem.mem_of_lookup h2)
 ·have hy:scope.names.lookup y=some .cell\/scope.names.lookup y=some .free:=hy
  rcases hy with hy|hy
  ·exact cell_has hy
  ·exact absurd rfl (S.nofree _ (PySem.mem_of_lookup hy))
 ·exact Nat.le_of_lt (x.above y c (PySem.mem_of_lookup h))
 ·have hi:i<vs.length:=by
   unfold start at h2
   by_cases hi:i<vs.length
   ·exact hi
   ·rw[List.getElem?_append_right (by simpa using hi)] at h2
    rw[List.getElem?_replicate] at h2
    split at h2<;>cases h2
  have ha:vs[i]?=some v:=by
   unfold start at h2
   rw[List.getElem?_append_left (by simpa using hi),List.getElem?_map] at h2
   cases e:vs[i]? with
   |none=>rw[e] at h2;cases h2
   |some a=>rw[e] at h2;cases h2;rfl
  obtain⟨u,hu,rv⟩:=r.get ha
  have hp:ps[i]?=some y:=by
   rw[<- S.pre,List.getElem?_take_of_lt (by lia)];exact h1
  have ndP:ps.Nodup:=by rw[<- S.pre];exact S.nd.sublist (List.take_sublist _ _)
  refine⟨u,rv,?_⟩
  rcases S.par y (List.mem_of_getElem? hp) with k|k
  ·exact .inl ⟨k,bindL_get ndP hp hu k⟩
  ·obtain⟨c,e⟩:=cell_has (n:=s.heap.objs.size+1) k
   refine .inr ⟨.inl k,c,e,?_⟩
   have q:=x.cell y c e
   rw[bindC_get ndP hp hu (by show scope.names.lookup y≠_;rw[k];decide)] at q
   exact q
 ·exact e0.hok.fresh (Nat.le_of_lt (x.above y c (PySem.mem_of_lookup h)))
 ·unfold start
  show _=N.length
  rw[List.length_append,List.length_map,List.length_replicate]
  lia
theorem fn_of {CX:CXT}{P:Program}{w:World}{K:PySem.W.Frag}{mg:Str->Option Value}{base:Heap}{k:Nat}{f:Addr}{name qual:Str}{params:Arguments}{body:List Stmt}{scope:Scope}{dV kV doc pm cdv ct oc:Value}{an od:Option Addr}
  {osl:Array (Option Value)}{N ps:List Str}{sp:Sp}(lk:K.lookup f=some ⟨oc,od,.func (PySem.W.fnOf name qual params body scope dV kV doc pm an cdv ct),osl⟩) (hcd:PySem.W.codeIn K cdv qual=true) (S:FnScope N ps scope)
  (len:∀vs H Q E,sp vs H Q E->vs.length=ps.length)
  (hbody:∀(A:Around) (outer:List Env) (s:Shared) (H:Hp) (vs:List V) (Q:VK) (E:XK),Room k (A.deeper (envOfC qual scope s.heap.objs.size f cdv))->sp vs H Q E ->
   ∃t,PSs (cxOf CX P w K mg base N qual scope f cdv A outer s H E) body t/\t { nx:=λ_ H'=>Q .non H',rt:=Q } (start N vs) H) :
  FnOk P w K mg base CX (k+1) f (PySem.W.fnOf name qual params body scope dV kV doc pm an cdv ct) ps sp:=by
 refine⟨len,λA outer s H args us vs Q E hr e0 hb r hsp=>?_⟩
 have hl:=len _ _ _ _ hsp
 have KX:K.In s.heap:=e0.mod.kin.keeps λb o e=>(e0.bs b o e).1
 have lim:s.heap.NoLimit:=e0.mod.nolimit.keeps λb o e=>(e0.bs b o e).1
 have hkind:∀y∈ps.zip us,scope.names.lookup y.1=some .local\/(scope.names.lookup y.1=some .cell/\((cellsFrom (s.heap.objs.size+1) scope.names []).lookup y.1).isSome=true):=λ⟨n,v⟩ hy=>by
  rcases S.par n (List.of_mem_zip hy).1 with q|q
  ·exact .inl q
  ·exact .inr ⟨q,PySem.W.cellsFrom_some _ _ _ (.inl q)⟩
 refine codeAny_call_function hr.depth (KX _ _ lk) rfl S.co S.gen rfl (PySem.W.codeRec_of KX hcd) (hb _ _ _ _ ?_)
 refine wpAny_newFunctionEnv_cells S.kind hkind λenv he s1 x=>?_
 subst he
 refine⟨lim.keeps x.toInCall.keep,codeAny_func ?_⟩
 obtain⟨t,ht,hq⟩:=hbody A outer s H vs Q E (hr.deeper _) hsp
 have I:Inv (cxOf CX P w K mg base N qual scope f cdv A outer s H E) [] (start N vs) H s1:=inv_start S hr.hd e0 hl r x
 refine wpAny_mono (ht [] s1 (start N vs) H _ I hq) (λfl s' hs=>?_) λe s' hs=>hs
 have fin:∀{σ':St}{H':Hp}{v:V}{u:Value},Inv (cxOf CX P w K mg base N qual scope f cdv A outer s H E) [] σ' H' s'->RelV v u->Q v H'->CE outer P w H s Q u s':=
  λ{σ' H' v u} J rv q=>⟨v,H',J.os,J.bare,J.base,J.hok,rv,q⟩
 cases fl with
 |ret u=>
  obtain⟨v,σ',H',J,rv,q⟩:=hs
  exact fin J rv q
 |next=>
  obtain⟨σ',H',J,q⟩:=hs
  exact fin (v:=V.non) (u:=Value.none) J rfl q
 |brk=>
  obtain⟨_,_,_,q⟩:=hs
  exact False.elim q
 |cont=>
  obtain⟨_,_,_,q⟩:=hs
  exact False.elim q
section
variable {X:Cx}{x:Str}{p pos:Pos}{e:Expr}{es:List Expr}{t:TA}{id T:String}{r:List V->Hp->VK->Prop}
def tCB (r:List V->Hp->VK->Prop) (t:TA):TE:=λσ H Q=>t σ H λvs H1=>r vs H1 Q
theorem pe_callB (hc:CallR X (.builtin id) r) (hg:Gl X x) (hm:X.mg x=none) (hv:bootBuiltins x=some (.builtin id)) (ha:PA X (e::es) t) (hn:x ≠ "__name__":=by decide) (hdb:(x==("__debug__" : Str))=false:=by decide)
  (he:starEach (e::es) X.env=(false,eval e X.env)::starEach es X.env:=by rfl) (hpl:(backTo pos (starEach es X.env)).any (·.1)=false:=by rfl):PE X (.Call (.Name x p) (e::es) [] pos) (tCB r t):=by
 intro pins s σ H Q I h
 refine wpAny_Call_Name_kw (ld_blt I hg hm hv ?_ hn hdb)
 exact PyProof.Rows.callWith_builtin1 (thn (ha pos pins s σ H _ I h) λus s1 ⟨vs,H1,I1,r1,q1⟩=>hc pins s1 σ H1 vs us Q I1 r1 q1) he hpl
theorem pe_callTy (hc:CallR X (.type T) r) (hg:Gl X x) (hm:X.mg x=none) (hv:bootBuiltins x=some (.type T)) (ha:PA X (e::es) t) (hn:x ≠ "__name__":=by decide) (hdb:(x==("__debug__" : Str))=false:=by decide)
  (he:starEach (e::es) X.env=(false,eval e X.env)::starEach es X.env:=by rfl) (hpl:(backTo pos (starEach es X.env)).any (·.1)=false:=by rfl):PE X (.Call (.Name x p) (e::es) [] pos) (tCB r t):=by
 intro pins s σ H Q I h
 refine wpAny_Call_Name_kw (ld_blt I hg hm hv ?_ hn hdb)
 exact PyProof.Rows.callWith_type1 (thn (ha pos pins s σ H _ I h) λus s1 ⟨vs,H1,I1,r1,q1⟩=>hc pins s1 σ H1 vs us Q I1 r1 q1) he hpl
end
end L2
namespace HT
open PySem PyProof.Rows
section
open PySem.SeqAt
open PySem.AutoSeq1 (wpAny_loadPart')
open PySem.MeetsSeq PySem.MeetsSeq2 PySem.MeetsSeq3
end
section
variable {prog:Program}{w:World}{A:Around}{E:Value->Shared->Prop}{s:Shared}
def sIx (n d:Nat):Option Int->Nat
 |none=>d
 |some v=>if v<0 then (v+(n:Int)).toNat else min v.toNat n
theorem sIx_none (n d:Nat):sIx n d none=d:=rfl
theorem sIx_nat (n d k:Nat):sIx n d (some (k:Int))=min k n:=by
 show (if (k:Int)<0 then ((k:Int)+(n:Int)).toNat else min (k:Int).toNat n)=min k n
 rw[if_neg (by lia),Int.toNat_natCast]
theorem sIx_le (n d:Nat) (hd:d<=n) (o:Option Int):sIx n d o<=n:=by
 cases o with
 |none=>exact hd
 |some v=>
  show (if v<0 then (v+(n:Int)).toNat else min v.toNat n)<=n
  by_cases hv:v<0
  ·rw[if_pos hv];lia
  ·rw[if_neg hv];exact Nat.min_le_right _ _
theorem clip_eq (v:Int) (n d:Nat):(if v<0 then max (v+(n:Int)) 0 else min v (n:Int))=((sIx n d (some v):Nat):Int):=by
 show (if v<0 then max (v+(n:Int)) 0 else min v (n:Int))=(((if v<0 then (v+(n:Int)).toNat else min v.toNat n):Nat):Int)
 by_cases hv:v<0
 ·simp only[if_pos hv];lia
 ·simp only[if_neg hv];lia
theorem adjust_gen (lo hi:Option Int) (n:Nat):Builtin.Slice.sliceAdjust lo hi 1 (n:Int)=(((sIx n 0 lo:Nat):Int),((sIx n n hi:Nat):Int)):=by
 have h1:¬((1:Int)<0):=by lia
 unfold Builtin.Slice.sliceAdjust
 simp only[h1,if_false]
 refine Prod.ext ?_ ?_
 ·cases lo with
  |none=>rfl
  |some v=>exact clip_eq v n 0
 ·cases hi with
  |none=>rfl
  |some v=>exact clip_eq v n n
theorem places_gen (i j:Nat):Builtin.Slice.slicePlaces (i:Int) (j:Int) 1=j-i:=by
 unfold Builtin.Slice.slicePlaces
 have h1:(1:Int)>0:=by lia
 simp only[h1,if_true,Int.ediv_one]
 split<;>lia
theorem slicePart_ {v:Value}{o:Option Int}{Q:Option Int->Shared->Prop}(p:IsPart v o) (h:Q o s):wpAny (model prog w) A (Builtin.Slice.slicePartIndex v) Q E s:=by
 cases p with
 |none=>exact slicePart_none h
 |int i t=>exact slicePart_int h
theorem sliceApplied_gen {sl:Addr}{vl vu:Value}{lo hi:Option Int}{n:Nat}{Q:Int×Int×Nat->Shared->Prop}(hs:s.heap.IsSliceOf sl vl vu .none) (pl:IsPart vl lo) (pu:IsPart vu hi)
  (h:Q (((sIx n 0 lo:Nat):Int),1,sIx n n hi-sIx n 0 lo) s):wpAny (model prog w) A (Builtin.Slice.sliceApplied (.ref sl) (pure (n:Int))) Q E s:=by
 obtain⟨os,hos,hcs,hds⟩:=id hs
 unfold Builtin.Slice.sliceApplied Builtin.Slice.sliceFields
 refine wpAny_bind (wpAny_bind (wpAny_field hos hds (x:=vl) rfl (wpAny_bind (wpAny_field hos hds (x:=vu) rfl (wpAny_bind (wpAny_field hos hds (x:=.none) rfl (wpAny_pure ?_)))))))
 refine wpAny_bind (slicePart_none ?_)
 show wpAny _ _ (if ((1:Int)==0)=true then _ else _) _ _ s
 rw[if_neg (by decide)]
 refine wpAny_bind (slicePart_ pl (wpAny_bind (slicePart_ pu (wpAny_bind (wpAny_pure ?_)))))
 show wpAny _ _ (match Builtin.Slice.sliceAdjust lo hi 1 (n:Int) with|(lo,hi)=>pure (lo,(1:Int),Builtin.Slice.slicePlaces lo hi 1)) _ _ s
 rw[adjust_gen lo hi n]
 show wpAny _ _ (pure (((sIx n 0 lo:Nat):Int),(1:Int),Builtin.Slice.slicePlaces ((sIx n 0 lo:Nat):Int) ((sIx n n hi:Nat):Int) 1)) _ _ s
 rw[places_gen]
 exact wpAny_pure h
theorem pick_gen (xs:Array Value) (i k:Nat):((List.range k).filterMap λ(m:Nat)=>xs[((i:Int)+(m:Int)*1).toNat]?).toArray=((xs.toList.drop i).take k).toArray:=by
 have e:(λ(m:Nat)=>xs[((i:Int)+(m:Int)*1).toNat]?)=λm=>xs[i+m]?:=by
  funext m
  have:((i:Int)+(m:Int)*1).toNat=i+m:=by lia
  rw[this]
 rw[e]
 have:=pick_run xs i k
 rw[List.filterMap_map] at this
 have e2:((λx=>xs[x]?)∘λx=>i+x)=λm=>xs[i+m]?:=rfl
 rw[e2] at this
 rw[this]
theorem getItem_tuple_cut {t sl:Addr}{items:Array Value}{vl vu:Value}{lo hi:Option Int}{Q:Value->Shared->Prop}(ht:IsTup s.heap t items) (hs:s.heap.IsSliceOf sl vl vu .none) (pl:IsPart vl lo) (pu:IsPart vu hi)
  (hw:¬(sIx items.size 0 lo=0/\sIx items.size items.size hi=items.size))
  (h:Q (.ref s.heap.objs.size) { s with heap:=s.heap.push { cls:=.type "tuple",data:=.seq ((items.toList.drop (sIx items.size 0 lo)).take (sIx items.size items.size hi-sIx items.size 0 lo)).toArray } })
  (hsz:items.size<=sizeLine):wpAny (model prog w) A (getItem (.ref t) (.ref sl)) Q E s:=by
 have htake:sizeOk (.seq ((items.toList.drop (sIx items.size 0 lo)).take (sIx items.size items.size hi-sIx items.size 0 lo)).toArray):=by
  show ((items.toList.drop (sIx items.size 0 lo)).take (sIx items.size items.size hi-sIx items.size 0 lo)).toArray.size<=sizeLine
  rw[List.size_toArray,List.length_take,List.length_drop,Array.length_toList]
  lia
 have hj:sIx items.size items.size hi<=items.size:=sIx_le _ _ (Nat.le_refl _) hi
 obtain⟨os,hos,hcs,hds⟩:=id hs
 have hTs:s.TypeIs (.ref sl) "slice":=⟨os,hos,hcs⟩
 unfold getItem
 try with_reducible refine wpAny_holding ?_
 first|refine wpAny_bind (wpAny_pure ?_)|skip
 refine wpAny_bind (wpAny_sequenceKey ht.typeIs (by decide) ?_)
 refine wpAny_bind (wpAny_callSpecial?_slot (name:=Str.ofString "__getitem__") ht.typeIs PyProof.Rows.slot_tuple_getitem
  (wpAny_call_entry PyProof.Rows.slot_tuple_getitem ht.typeIs entry_tuple_getitem ?_ (args_tuple_getitem _ _)))
 show wpAny _ _ (Builtin.Tuple.tupleItemsOf (.ref t) >>= _) _ _ s
 refine wpAny_bind (tupleItemsOf_ ht ?_)
 refine wpAny_bind (wpAny_typeOf hTs ?_)
 rw[if_pos (by decide)]
 refine wpAny_bind (sliceApplied_gen hs pl pu ?_)
 have hno:¬((((sIx items.size 0 lo:Nat):Int)==0&&(1:Int)==1&&(sIx items.size items.size hi-sIx items.size 0 lo)==items.size)=true):=by
  intro q
  rw[Bool.and_eq_true,Bool.and_eq_true] at q
  have q1:((sIx items.size 0 lo:Nat):Int)=0:=eq_of_beq q.1.1
  have q2:sIx items.size items.size hi-sIx items.size 0 lo=items.size:=eq_of_beq q.2
  exact hw ⟨by lia,by lia⟩
 show wpAny _ _ (if (((sIx items.size 0 lo:Nat):Int)==0&&(1:Int)==1&&(sIx items.size items.size hi-sIx items.size 0 lo)==items.size)=true then _ else _) _ _ s
 rw[if_neg hno,pick_gen]
 first
  |exact wpAny_bind (m:=Builtin.Tuple.tupleExact _) (wpAny_newObj_type (wpAny_pure ⟨_,rfl,wpAny_pure h⟩) htake)
  |exact wpAny_bind (m:=Builtin.Tuple.tupleExact _) (wpAny_newObj_type (wpAny_bind (wpAny_pure (wpAny_pure ⟨_,rfl,wpAny_pure h⟩))) htake)
  |exact wpAny_bind (wpAny_bind (m:=Builtin.Tuple.tupleExact _) (wpAny_newObj_type (wpAny_pure (wpAny_pure ⟨_,rfl,wpAny_pure h⟩)) htake))
  |exact wpAny_bind (wpAny_bind (m:=Builtin.Tuple.tupleExact _) (wpAny_newObj_type (wpAny_pure ⟨_,rfl,wpAny_pure h⟩) htake))
end
end HT
namespace L2
open PySem PySem.Spec PyProof.Rows
abbrev TO:=St->Hp->(Option Int->Hp->Prop)->Prop
def PO (X:Cx) (e:Option Expr) (t:TO):Prop:=
 ∀(pins:List (Addr×Obj)) (s:Shared) (σ:St) (H:Hp) (Q:Option Int->Hp->Prop),Inv X pins σ H s->t σ H Q ->
  wpAny (model X.prog X.w) X.A (evalPart e X.env) (λu s'=>∃o H',Inv X pins σ H' s'/\IsPart u o/\Q o H') X.xe s
def tNoPart:TO:=λ_ H Q=>Q none H
def tPart (t:TE):TO:=λσ H Q=>t σ H λx H1=>∃i,x=.int i/\Q (some i) H1
section
variable {X:Cx}{e:Expr}{te:TE}{lo hi:Option Expr}{tl th:TO}{pos p2:Pos}
theorem po_none:PO X none tNoPart:=by
 intro pins s σ H Q I h
 rw[evalPart_none]
 exact wpAny_pure ⟨none,H,I,.none,h⟩
theorem po_some (h:PE X e te):PO X (some e) (tPart te):=by
 intro pins s σ H Q I hw
 rw[evalPart_some]
 refine thn (h pins s σ H _ I hw) λu s1 ⟨x,H1,I1,r1,q1⟩=>?_
 obtain⟨i,rfl,q⟩:=q1
 obtain⟨t,rfl⟩:=r1
 exact⟨some i,H1,I1,.int i t,q⟩
def SlR (X:Cx) (r:V->Option Int->Option Int->Hp->VK->Prop):Prop:=
 ∀(pins:List (Addr×Obj)) (s:Shared) (σ:St) (H:Hp) (x:V) (v vl vu:Value) (lo hi:Option Int) (sl:Addr) (Q:VK),Inv X pins σ H s->RelV x v->s.heap.IsSliceOf sl vl vu .none->IsPart vl lo->IsPart vu hi->r x lo hi H Q ->
  ∃T id,typeLookup (.type T) "__getitem__" = pure (some (.builtin id))/\s.TypeIs v T/\wpAny (model X.prog X.w) X.A (getItem v (.ref sl)) (EP X pins σ Q) X.xe s
def tSl (r:V->Option Int->Option Int->Hp->VK->Prop) (te:TE) (tl th:TO):TE:=λσ H Q=>te σ H λx H1=>tl σ H1 λl H2=>th σ H2 λu H3=>r x l u H3 Q
theorem pe_slice {r:V->Option Int->Option Int->Hp->VK->Prop}(hr:SlR X r) (he:PE X e te) (hl:PO X lo tl) (hu:PO X hi th):PE X (.Subscript e (.Slice lo hi none p2) pos) (tSl r te tl th):=by
 intro pins s σ H Q I h
 refine Subscript_ (thn (he pins s σ H _ I h) λv s1 ⟨x,H1,I1,r1,q1⟩=>?_)
 refine wpAny_Slice (thn (hl pins s1 σ H1 _ I1 q1) λvl s2 ⟨l,H2,I2,pl,q2⟩=>thn (hu pins s2 σ H2 _ I2 q2) λvu s3 ⟨u,H3,I3,pu,q3⟩=>?_)
 rw[evalPart_none]
 refine wpAny_pure ?_
 have I4:Inv X pins σ H3 { s3 with heap:=s3.heap.push { cls:=.type "slice",data:=.fields #[vl,vu,.none] } }:=I3.kept (t':=s3.toks) λb ob q=>Heap.get?_push_of_some _ q
 obtain⟨T,id,hT,ht,hg⟩:=hr pins { s3 with heap:=s3.heap.push { cls:=.type "slice",data:=.fields #[vl,vu,.none] } } σ H3 x v vl vu l u s3.heap.objs.size Q I4 r1 (Heap.IsSliceOf.new ..) pl pu q3
 show wpAny (model X.prog X.w) X.A (subscriptTail e (.Slice lo hi none p2) v (.ref s3.heap.objs.size)) (EP X pins σ Q) X.xe { s3 with heap:=s3.heap.push { cls:=.type "slice",data:=.fields #[vl,vu,.none] } }
 exact tail_any (ops:=[.ref s3.heap.objs.size,v]) ht hT hg (by with_unfolding_all rfl)
def cutV (xs:List V) (lo hi:Option Int):List V:=(xs.drop (HT.sIx xs.length 0 lo)).take (HT.sIx xs.length xs.length hi-HT.sIx xs.length 0 lo)
theorem cutV_length (xs:List V) (lo hi:Option Int):(cutV xs lo hi).length<=xs.length:=by
 unfold cutV
 rw[List.length_take,List.length_drop]
 lia
def rSlT (K:PySem.W.Frag):V->Option Int->Option Int->Hp->VK->Prop:=λx lo hi H Q=>∃a xs,x=.ref a/\SqT K H a xs /\
 ¬(HT.sIx xs.length 0 lo=0/\HT.sIx xs.length xs.length hi=xs.length)/\∀p,H p=none->Q (.ref p) (upd H p (.tup (cutV xs lo hi)))
theorem sl_tup:SlR X (rSlT X.K):=by
 intro pins s σ H x v vl vu lo hi sl Q I rx hs pl pu h
 obtain⟨a,xs,rfl,hx,hw,q⟩:=h
 cases rx
 obtain⟨its,r,ht,hz⟩:=I.tuple hx
 have hlen:its.toArray.size=xs.length:=by rw[List.size_toArray];exact r.length.symm
 refine⟨"tuple",_,PyProof.Rows.slot_tuple_getitem.lookup,ht.typeIs,?_⟩
 refine HT.getItem_tuple_cut ht hs pl pu (by rw[hlen];exact hw) ?_ (by rw[hlen];exact hz)
 rw[hlen]
 refine⟨.ref s.heap.objs.size,_,I.laid (t':=s.toks) (o:=.tup (cutV xs lo hi)) (λb ob q=>Heap.get?_push_of_some _ q) (Nat.le_refl _) ?_,rfl,q _ (I.hok.fresh (Nat.le_refl _))⟩
 exact⟨Nat.le_trans (cutV_length xs lo hi) hz,_,(r.drop (HT.sIx xs.length 0 lo)).take (HT.sIx xs.length xs.length hi-HT.sIx xs.length 0 lo),IsTupX.new _ _⟩
end
def ixN (n:Nat) (i:Int):Option Nat:=if 0<=i then (if i<n then some i.toNat else none) else if -(n:Int)<=i then some (i+n).toNat else none
def atI {α:Type}(xs:List α) (i:Int):Option α:=(ixN xs.length i).bind λj=>xs[j]?
theorem ixN_seq {n:Nat}{i:Int}{j:Nat}(h:ixN n i=some j):seqIndex? i n=some j/\j<n/\-(n:Int)<=i/\i<n:=by
 unfold ixN at h
 by_cases h0:0<=i
 ·rw[if_pos h0] at h
  by_cases h1:i<n
  ·rw[if_pos h1] at h
   have e:i.toNat=j:=Option.some.inj h
   exact⟨by rw[seqIndex_of h0 h1,e],by lia,by lia,h1⟩
  ·rw[if_neg h1] at h;cases h
 ·rw[if_neg h0] at h
  by_cases h1:-(n:Int)<=i
  ·rw[if_pos h1] at h
   have e:(i+n).toNat=j:=Option.some.inj h
   exact⟨by rw[seqIndex_neg (by lia) h1,e],by lia,h1,by lia⟩
  ·rw[if_neg h1] at h;cases h
theorem atI_get {α:Type}{xs:List α}{i:Int}{v:α}(h:atI xs i=some v):∃j,seqIndex? i xs.length=some j/\xs[j]?=some v/\j<xs.length/\-(xs.length:Int)<=i/\i<xs.length:=by
 unfold atI at h
 cases e:ixN xs.length i with
 |none=>rw[e] at h;cases h
 |some j=>
  rw[e] at h
  obtain⟨h1,h2,h3,h4⟩:=ixN_seq e
  exact⟨j,h1,h,h2,h3,h4⟩
theorem atI_nat {α:Type}{xs:List α}{j:Nat}{v:α}(h:xs[j]?=some v):atI xs (j:Int)=some v:=by
 have hj:j<xs.length:=(gS_ h).1
 have e:ixN xs.length (j:Int)=some j:=by
  unfold ixN
  rw[if_pos (by lia),if_pos (by lia)];simp
 unfold atI;rw[e];exact h
def PlainIx (b:Expr):Prop:=∀o i,subscripted b false o i=operate [o,i] (getItem o i)
def IxR (X:Cx) (r:R2):Prop:=
 ∀(value slice:Expr) (pins:List (Addr×Obj)) (s:Shared) (σ:St) (H:Hp) (x y:V) (v u:Value) (Q:VK),Inv X pins σ H s->RelV x v->RelV y u->r x y H Q ->
  subscripted slice false v u=operate [v,u] (getItem v u)->wpAny (model X.prog X.w) X.A (subscriptTail value slice v u) (EP X pins σ Q) X.xe s
def MtR (X:Cx) (id:String) (r:V->List V->Hp->VK->Prop):Prop:=
 ∀(pins:List (Addr×Obj)) (s:Shared) (σ:St) (H:Hp) (x:V) (xs:List V) (v:Value) (us:List Value) (Q:VK),Inv X pins σ H s->RelV x v->Vals xs us->r x xs H Q ->
  wpAny (model X.prog X.w) X.A (call (.builtin id) (v::us)) (EP X pins σ Q) X.xe s
section
variable {X:Cx}{a b:Expr}{ta tb:TE}{pos:Pos}
theorem IxR.or {r r':R2}(h:IxR X r) (h':IxR X r'):IxR X (λx y H Q=>r x y H Q\/r' x y H Q):=by
 intro value slice pins s σ H x y v u Q I rx ry q hs
 rcases q with q|q
 ·exact h value slice pins s σ H x y v u Q I rx ry q hs
 ·exact h' value slice pins s σ H x y v u Q I rx ry q hs
theorem pe_ix {r:R2}(hr:IxR X r) (ha:PE X a ta) (hb:PE X b tb) (hs:PlainIx b):PE X (.Subscript a b pos) (tOp r ta tb):=by
 intro pins s σ H Q I h
 exact Subscript_ (binT ha hb I h λv u s2 x y H2 I2 rx ry q=>hr a b pins s2 σ H2 x y v u Q I2 rx ry q (hs _ _))
def rIxL (K:PySem.W.Frag):R2:=λx y H Q=>∃p xs i v,x=.ref p/\y=.int i/\SqL K H p xs/\atI xs i=some v/\Q v H
def rIxT (K:PySem.W.Frag):R2:=λx y H Q=>∃p xs i v,x=.ref p/\y=.int i/\SqT K H p xs/\atI xs i=some v/\Q v H
theorem ix_list:IxR X (rIxL X.K):=by
 intro value slice pins s σ H x y v u Q I rx ry h hs
 obtain⟨p,xs,i,z,rfl,rfl,hq,he,q⟩:=h
 cases rx
 obtain⟨t,rfl⟩:=ry
 obtain⟨its,r,pl,hz⟩:=I.list hq
 obtain⟨j,h1,h2,h3,h4,h5⟩:=atI_get he
 obtain⟨w,ew,rw'⟩:=r.get h2
 have hl:=r.length
 have hn:=line63
 have fin:EP X pins σ Q w s:=⟨z,H,I,rw',q⟩
 by_cases h0:0<=i
 ·have hj:i.toNat=j:=by
   rw[seqIndex_of h0 h5] at h1
   exact Option.some.inj h1
  exact item_listR pl.isList h0 (by lia) (by rw[hj];simpa using ew) fin hs
 ·have hj:(i+(its.toArray.size:Int)).toNat=j:=by
   rw[seqIndex_neg (by lia) h4] at h1
   rw[List.size_toArray,<- hl]
   exact Option.some.inj h1
  exact subscriptTail_builtinR (x:=w) pl.isList.typeIs slot_list_getitem.lookup
   (wpAny_getItem_list_neg (Q:=λr s'=>r=w/\EP X pins σ Q r s') pl.isList (by lia) (by rw[List.size_toArray]<;>lia) (by lia) (by rw[hj];simpa using ew) ⟨rfl,fin⟩) hs
theorem ix_tup:IxR X (rIxT X.K):=by
 intro value slice pins s σ H x y v u Q I rx ry h hs
 obtain⟨p,xs,i,z,rfl,rfl,hq,he,q⟩:=h
 cases rx
 obtain⟨t,rfl⟩:=ry
 obtain⟨its,r,pl,hz⟩:=I.tuple hq
 obtain⟨j,h1,h2,h3,h4,h5⟩:=atI_get he
 obtain⟨w,ew,rw'⟩:=r.get h2
 have hl:=r.length
 have hn:=line63
 have fin:EP X pins σ Q w s:=⟨z,H,I,rw',q⟩
 exact subscriptTail_builtinR (x:=w) pl.typeIs slot_tuple_getitem.lookup
  (getItem_tuple (j:=j) (Q:=λr s'=>r=w/\EP X pins σ Q r s') pl (by lia) (by lia) (by rw[List.size_toArray,<- hl];exact h1) (by simpa using ew) ⟨rfl,fin⟩) hs
theorem mapSeq_set (its:List Value) (n j:Nat) (u:Value):Obj.mapSeq (·.setIfInBounds j u) { cls:=.type "list",data:=.seq its.toArray n }={ cls:=.type "list",data:=.seq (its.set j u).toArray n }:=by
 simp[Obj.mapSeq]
theorem Inv.lst {pins:List (Addr×Obj)}{σ:St}{H:Hp}{s:Shared}{p:Addr}{xs:List V}(I:Inv X pins σ H s) (h:H p=some (.lst xs)) :
  ∃(its:List Value) (n:Nat),Vals xs its/\s.heap.get? p=some { cls:=.type "list",data:=.seq its.toArray n }/\xs.length<=sizeLine:=by
 obtain⟨z,its,n,r,e⟩:=I.hok p _ h
 exact⟨its,n,r,e,z⟩
theorem Inv.lstUpd {pins:List (Addr×Obj)}{σ:St}{H:Hp}{s:Shared}{p:Addr}{xs ys:List V}{its its':List Value}{n n':Nat}{f:Obj->Obj}(I:Inv X pins σ H s) (h:H p=some (.lst xs))
  (ho:s.heap.get? p=some { cls:=.type "list",data:=.seq its.toArray n }) (hf:f { cls:=.type "list",data:=.seq its.toArray n }={ cls:=.type "list",data:=.seq its'.toArray n' }) (r:Vals ys its') (hz:ys.length<=sizeLine) (t:Nat) :
  Inv X pins σ (upd H p (.lst ys)) { s with heap:=s.heap.update p f,toks:=t }:=by
 have e:(s.heap.update p f).get? p=some { cls:=.type "list",data:=.seq its'.toArray n' }:=by
  rw[Heap.get?_update_self f ho (by rw[hf]<;>rfl),hf]
 refine I.write (x:=p) (e:=p) (by rw[h];trivial) (.inl rfl) (λb u hb q=>(Heap.get?_update_other _ _ (Ne.symm hb)).trans q) ⟨_,e⟩ ?_
 exact⟨hz,its',n',r,e⟩
def rSetL:V->V->V->Hp->(Hp->Prop)->Prop:=λo i v H Q=>∃p xs k j,o=.ref p/\i=.int k/\H p=some (.lst xs)/\ixN xs.length k=some j/\Q (upd H p (.lst (xs.set j v)))
theorem set_list:PSet X rSetL:=by
 intro pins s σ H o i v ov iv u Q I ro ri rv h
 obtain⟨p,xs,k,j,rfl,rfl,hp,hj,q⟩:=h
 cases ro
 obtain⟨t,rfl⟩:=ri
 obtain⟨its,n,r,ho,hz⟩:=I.lst hp
 obtain⟨h1,h2,h3,h4⟩:=ixN_seq hj
 have hl:=r.length
 have hn:=line63
 have I':Inv X pins σ (upd H p (.lst (xs.set j v))) { s with heap:=s.heap.update p (Obj.mapSeq (·.setIfInBounds j u)) }:=
  I.lstUpd hp ho (mapSeq_set its n j u) (r.set rv j) (by rw[List.length_set];exact hz) s.toks
 by_cases h0:0<=k
 ·have hk:k.toNat=j:=by
   rw[seqIndex_of h0 h4] at h1
   exact Option.some.inj h1
  exact PySem.W.ki_setAt ho h0 (by lia) (by rw[List.size_toArray,<- hl];exact h4) (by rw[hk];exact⟨_,I',q⟩)
 ·have hk:(k+(its.toArray.size:Int)).toNat=j:=by
   rw[seqIndex_neg (by lia) h3] at h1
   rw[List.size_toArray,<- hl]
   exact Option.some.inj h1
  exact PySem.W.ki_setBack ho (by lia) (by rw[List.size_toArray,<- hl];exact h3) (by lia) (by rw[hk];exact⟨_,I',q⟩)
theorem slice_bounds (lo hi:Option Int) (n:Nat):(sliceBounds lo hi none n).1=((HT.sIx n 0 lo:Nat):Int)/\(sliceBounds lo hi none n).2.1=((HT.sIx n n hi:Nat):Int)/\(sliceBounds lo hi none n).2.2=1:=by
 refine⟨?_,?_,rfl⟩
 ·cases lo with
  |none=>simp[sliceBounds,HT.sIx]
  |some i=>
   simp only[sliceBounds,HT.sIx,Option.getD_none,show (1:Int)>0 by decide,if_true]
   by_cases h:i<0
   ·simp only[h,if_true]<;>lia
   ·simp only[h,if_false]<;>lia
 ·cases hi with
  |none=>simp[sliceBounds,HT.sIx]
  |some i=>
   simp only[sliceBounds,HT.sIx,Option.getD_none,show (1:Int)>0 by decide,if_true]
   by_cases h:i<0
   ·simp only[h,if_true]<;>lia
   ·simp only[h,if_false]<;>lia
theorem slicePick_cut (its:List Value) (lo hi:Option Int):slicePick its.toArray lo hi none=((its.drop (HT.sIx its.length 0 lo)).take (HT.sIx its.length its.length hi-HT.sIx its.length 0 lo)).toArray:=by
 obtain⟨h1,h2,h3⟩:=slice_bounds lo hi its.toArray.size
 unfold slicePick
 rw[h1,h2,h3]
 simp only[sliceRange_one,pick_run,List.size_toArray]<;>rfl
def rSlL (K:PySem.W.Frag):V->Option Int->Option Int->Hp->VK->Prop:=λx lo hi H Q=>∃a xs,x=.ref a/\SqL K H a xs/\∀p,H p=none->Q (.ref p) (upd H p (.lst (cutV xs lo hi)))
theorem sl_list:SlR X (rSlL X.K):=by
 intro pins s σ H x v vl vu lo hi sl Q I rx hs pl pu h
 obtain⟨a,xs,rfl,hx,q⟩:=h
 cases rx
 obtain⟨its,r,ht,hz⟩:=I.list hx
 have hlen:=r.length
 refine⟨"list",_,slot_list_getitem.lookup,ht.isList.typeIs,?_⟩
 refine wpAny_getItem_list_slice ht.isList hs pl pu .none (by simp) ?_ (by rw[List.size_toArray]<;>lia)
 rw[slicePick_cut,<- hlen]
 refine⟨.ref s.heap.objs.size,_,I.laid (t':=s.toks) (o:=.lst (cutV xs lo hi)) (λb ob q=>Heap.get?_push_of_some _ q) (Nat.le_refl _) ?_,rfl,q _ (I.hok.fresh (Nat.le_refl _))⟩
 exact⟨Nat.le_trans (cutV_length xs lo hi) hz,_,0,(r.drop (HT.sIx xs.length 0 lo)).take (HT.sIx xs.length xs.length hi-HT.sIx xs.length 0 lo),Heap.get?_push_size _ rfl⟩
theorem call_len_seq:CallR X (.builtin "len") (λxs H Q=>∃p ys,xs=[.ref p]/\(SqL X.K H p ys\/SqT X.K H p ys)/\Q (.int ys.length) H):=by
 intro pins s σ H xs us Q I r h
 obtain⟨p,ys,rfl,hq,q⟩:=h
 obtain⟨u,rfl,rx⟩:=vals1 r
 cases rx
 have hn:=line63
 rcases hq with hq|hq
 ·obtain⟨its,r',pl,hz⟩:=I.list hq
  have hlen:=r'.length
  exact Calls.call_len_list pl.isList (by simp only[List.size_toArray]<;>lia) ⟨.int ys.length,H,I.tok _,⟨s.toks+1,by rw[List.size_toArray,hlen]⟩,q⟩
 ·obtain⟨its,r',pl,hz⟩:=I.tuple hq
  have hlen:=r'.length
  exact len_tuple pl (by simp only[List.size_toArray]<;>lia) ⟨.int ys.length,H,I.tok _,⟨s.toks+1,by rw[List.size_toArray,hlen]⟩,q⟩
theorem call_list_of:CallR X (.type "list") (λxs H Q=>∃p ys,xs=[.ref p]/\(SqL X.K H p ys\/SqT X.K H p ys)/\∀l,H l=none->Q (.ref l) (upd H l (.lst ys))):=by
 intro pins s σ H xs us Q I r h
 obtain⟨p,ys,rfl,hq,q⟩:=h
 obtain⟨u,rfl,rx⟩:=vals1 r
 cases rx
 have fin:∀(its:List Value),Vals ys its->ys.length<=sizeLine->∀(h':Heap) (c':Nat),(∀b o',s.heap.get? b=some o'->h'.get? b=some o') ->
   h'.get? s.heap.objs.size=some { cls:=.type "list",dict:=none,data:=.seq its.toArray c',slots:=#[] }->EP X pins σ Q (.ref s.heap.objs.size) { s with heap:=h' }:=λits r' hz h' c' kp e=>
  ⟨.ref s.heap.objs.size,_,I.laid (t':=s.toks) kp (Nat.le_refl _) (show ObjOk X.prog X.w _ h' _ (.lst ys) from ⟨hz,its,c',r',e⟩),rfl,q _ (I.hok.fresh (Nat.le_refl _))⟩
 rcases hq with hq|hq
 ·obtain⟨its,r',pl,hz⟩:=I.list hq
  have hlen:=r'.length
  obtain⟨o,ho,hc,n,hd⟩:=pl.isList
  exact call_list_seq p (.inl rfl) ho hc hd (λh' c' kp e=>fin its r' hz h' c' kp e) (by simp only[List.size_toArray]<;>lia)
 ·obtain⟨its,r',pl,hz⟩:=I.tuple hq
  have hlen:=r'.length
  obtain⟨o,ho,hc,n,hd⟩:=pl
  exact call_list_seq p (.inr rfl) ho hc hd (λh' c' kp e=>fin its r' hz h' c' kp e) (by simp only[List.size_toArray]<;>lia)
theorem call_tuple_of:CallR X (.type "tuple") (λxs H Q=>∃p ys,xs=[.ref p]/\((SqL X.K H p ys/\∀l,H l=none->Q (.ref l) (upd H l (.tup ys)))\/(SqT X.K H p ys/\Q (.ref p) H))):=by
 intro pins s σ H xs us Q I r h
 obtain⟨p,ys,rfl,h⟩:=h
 obtain⟨u,rfl,rx⟩:=vals1 r
 cases rx
 rcases h with ⟨hq,q⟩|⟨hq,q⟩
 ·obtain⟨its,r',pl,hz⟩:=I.list hq
  have hlen:=r'.length
  refine call_tuple_list pl.isList (λh' kp=>?_) (by simp only[List.size_toArray]<;>lia)
  have I1:Inv X pins σ H { s with heap:=h' }:=I.kept (t':=s.toks) kp
  have I2:Inv X pins σ (upd H h'.objs.size (.tup ys)) { s with heap:=h'.push { cls:=.type "tuple",data:=.seq its.toArray } }:=
   I1.laid (t':=s.toks) (λb o e=>Heap.get?_push_of_some _ e) (Nat.le_refl _) (show ObjOk X.prog X.w _ _ _ (.tup ys) from ⟨hz,its,r',IsTupX.new _ _⟩)
  exact⟨.ref h'.objs.size,_,I2,rfl,q _ (I1.hok.fresh (Nat.le_refl _))⟩
 ·obtain⟨its,r',pl,hz⟩:=I.tuple hq
  exact call_tuple_same pl ⟨.ref p,H,I,rfl,q⟩
def tyV (K:PySem.W.Frag) (T:String) (x:V) (H:Hp):Prop:=match x with
 |.str _=>T = "str"
 |.int _=>T = "int"
 |.ref p=>(T = "list" /\ ∃xs,SqL K H p xs)\/(T = "tuple" /\ ∃o,K.lookup p=some o/\o.cls=.type "tuple" /\ o.dict=none) \/
   (T = "dict" /\ ((∃kvs,H p=some (.dK kvs))\/∃kvs,H p=some (.dT kvs)))\/(T = "set" /\ ∃S n,H p=some (.set S n))
 |_=>False
theorem tyV_is {pins:List (Addr×Obj)}{σ:St}{H:Hp}{s:Shared}{T:String}{x:V}{v:Value}(I:Inv X pins σ H s) (r:RelV x v) (ty:tyV X.K T x H) :
  s.TypeIs v T/\∀a,v=.ref a->∃ob,s.heap.get? a=some ob/\ob.dict=none:=by
 cases x with
 |str z=>
  obtain⟨t,rfl⟩:=r
  cases (show T = "str" from ty)
  exact⟨typeIs_str s z t,λ_ e=>nomatch e⟩
 |int i=>
  obtain⟨t,rfl⟩:=r
  cases (show T = "int" from ty)
  exact⟨typeIs_int s i t,λ_ e=>nomatch e⟩
 |ref p=>
  cases r
  rcases ty with ⟨rfl,xs,hq⟩|⟨rfl,o,hk,hc,hd⟩|⟨rfl,hk⟩|⟨rfl,S,n,hk⟩
  ·obtain⟨its,_,pl,_⟩:=I.list hq
   refine⟨pl.isList.typeIs,λa e=>?_⟩
   cases e
   obtain⟨o,n,e,c,hd,_⟩:=pl
   exact⟨o,e,hd⟩
  ·refine⟨⟨o,I.kIn p o hk,hc⟩,λa e=>?_⟩
   cases e
   exact⟨o,I.kIn _ o hk,hd⟩
  ·have z:∃o,s.heap.get? p=some o/\o.ExactDict:=by
    rcases hk with ⟨kvs,hk⟩|⟨kvs,hk⟩
    ·obtain⟨_,_,_,_,o,_,_,e,ex,_⟩:=I.hok p _ hk
     exact⟨o,e,ex⟩
    ·obtain⟨_,_,_,_,o,_,_,e,ex,_⟩:=I.hok p _ hk
     exact⟨o,e,ex⟩
   obtain⟨o,e,ex⟩:=z
   refine⟨⟨o,e,ex.1⟩,λa e2=>?_⟩
   cases e2
   exact⟨o,e,ex.2.1⟩
  ·obtain⟨o,_,_,_,e,ex,_⟩:=I.hok p _ hk
   refine⟨⟨o,e,ex.1⟩,λa e2=>?_⟩
   cases e2
   exact⟨o,e,ex.2.1⟩
 |_=>exact False.elim ty
def tBM0 (K:PySem.W.Frag) (T:String) (r:V->List V->Hp->VK->Prop) (to:TE):TE:=λσ H Q=>to σ H λx H1=>tyV K T x H1/\r x [] H1 Q
def tBM (K:PySem.W.Frag) (T:String) (r:V->List V->Hp->VK->Prop) (to:TE) (t:TA):TE:=λσ H Q=>to σ H λx H1=>tyV K T x H1/\t σ H1 λxs H2=>r x xs H2 Q
variable {o e:Expr}{es:List Expr}{to:TE}{t:TA}{name:Str}{apos cpos:Pos}{T id:String}{r:V->List V->Hp->VK->Prop}
theorem pe_bm0 (pa:PlainAttrs T) (slot:Slot T name id) (hty:typeOf (.builtin id)=pure (.type "method_descriptor")) (hm:MtR X id r) (ho:PE X o to)
  (hbase:attributeBase o name X.env (eval o X.env)=eval o X.env:=by rfl) (hline:(apos.endLine==cpos.line)=true:=by rfl):PE X (.Call (.Attribute o name apos) [] [] cpos) (tBM0 X.K T r to):=by
 intro pins s σ H Q I h
 refine wpAny_Call_method0_late hbase hline (thn (ho pins s σ H _ I h) λv s1 ⟨x,H1,I1,r1,ty,q1⟩=>?_)
 obtain⟨h1,h2⟩:=tyV_is I1 r1 ty
 exact⟨T,id,pa,slot,hty,h1,h2,Calls.callWith_builtin rfl (PySem.evalArgs_none (hm pins s1 σ H1 x [] v [] Q I1 r1 .nil q1))⟩
theorem pe_bm (pa:PlainAttrs T) (slot:Slot T name id) (hty:typeOf (.builtin id)=pure (.type "method_descriptor")) (hm:MtR X id r) (ho:PE X o to) (ha:PA X (e::es) t)
  (hbase:attributeBase o name X.env (eval o X.env)=eval o X.env:=by rfl)
  (hfew:((backTo cpos (starEach (e::es) X.env)).all (λx=>!x.1)&&(backToKw cpos (keywordEach [] X.env)).all (λx=>x.1.isSome)
   && decide ((e::es).length+([]:List Keyword).length+(if ([]:List Keyword).isEmpty then 0 else 1)<30))=true:=by rfl)
  (hline:(apos.endLine==cpos.line)=true:=by rfl) (hs:starEach (e::es) X.env=(false,eval e X.env)::starEach es X.env:=by rfl) (hplain:(backTo cpos (starEach es X.env)).any (·.1)=false:=by rfl) :
  PE X (.Call (.Attribute o name apos) (e::es) [] cpos) (tBM X.K T r to t):=by
 intro pins s σ H Q I h
 refine wpAny_Call_method_late hbase hfew hline rfl (thn (ho pins s σ H _ I h) λv s1 ⟨x,H1,I1,r1,ty,q1⟩=>?_)
 obtain⟨h1,h2⟩:=tyV_is I1 r1 ty
 refine⟨T,id,pa,slot,hty,h1,h2,?_⟩
 have hA:=ha cpos pins s1 σ H1 _ I1 q1
 rw[hs] at hA ⊢
 refine Calls.callWith_builtin (by show (false||(backTo cpos (starEach es X.env)).any (·.1))=false;rw[hplain]<;>rfl) (Calls.evalArgs_plain ?_)
 exact thn hA λus s2 ⟨vs,H2,I2,r2,q2⟩=>hm pins s2 σ H2 x vs v us Q I2 r1 r2 q2
end
def MtM (X:Cx) (id:String) (r:V->List V->Hp->VK->Prop):Prop:=
 ∀(pins:List (Addr×Obj)) (s:Shared) (σ:St) (H:Hp) (x:V) (xs:List V) (v:Value) (us:List Value) (Q:VK),Inv X pins σ H s->RelV x v->Vals xs us->r x xs H Q ->
  wpAny (model X.prog X.w) X.A (call (.builtin id) (v::us)) (EP X pins σ Q) X.xe s
theorem Vals.one:∀{x:V}{us:List Value},Vals [x] us->∃u,us=[u]/\RelV x u
 |_,_,.cons r .nil=>⟨_,rfl,r⟩
theorem Vals.zero:∀{us:List Value},Vals [] us->us=[]
 |_,.nil=>rfl
theorem Vals.dropLast {xs:List V}{us:List Value}(h:Vals xs us):Vals xs.dropLast us.dropLast:=by
 induction h with
 |nil=>exact .nil
 |cons r t ih=>
  cases t with
  |nil=>exact .nil
  |cons q t'=>exact .cons r ih
theorem erase_last {α:Type}(l:List α):l.eraseIdx (l.length-1)=l.dropLast:=by
 induction l with
 |nil=>rfl
 |cons a r ih=>
  cases r with
  |nil=>rfl
  |cons b r=>
   have e:(a::b::r).length-1=((b::r).length-1)+1:=by
    have h1:(a::b::r).length=r.length+2:=rfl
    have h2:(b::r).length=r.length+1:=rfl
    lia
   rw[e,List.eraseIdx_cons_succ,ih]
   all_goals rfl
section
variable {X:Cx}{pins:List (Addr×Obj)}{σ:St}{H:Hp}{s:Shared}{l b:Addr}{xs ys zs:List V}
theorem Inv.lset {its its':List Value}{n:Nat}{f:Array Value->Array Value}{t':Nat}(I:Inv X pins σ H s) (hH:H l=some (.lst xs))
  (e:s.heap.get? l=some { cls:=.type "list",data:=.seq its.toArray n }) (hf:f its.toArray=its'.toArray) (hv:Vals ys its') (hz:ys.length<=sizeLine) :
  Inv X pins σ (upd H l (.lst ys)) { s with heap:=s.heap.update l (Obj.mapSeq f),toks:=t' }:=by
 have q:=PySem.IsL.update e f
 rw[hf] at q
 refine I.write (x:=l) (e:=l) (by rw[hH];exact trivial) (.inl rfl) (λb' u hb hu=>(Heap.get?_update_other s.heap (Obj.mapSeq f) (Ne.symm hb)).trans hu) ⟨_,q⟩ ?_
 exact⟨hz,its',_,hv,q⟩
theorem Inv.lnew {its:List Value}{t':Nat}(I:Inv X pins σ H s) (hv:Vals ys its) (hz:ys.length<=sizeLine) :
  Inv X pins σ (upd H s.heap.objs.size (.lst ys)) { s with heap:=s.heap.push { cls:=.type "list",data:=.seq its.toArray },toks:=t' }:=
 I.laid (λ_ _ q=>Heap.get?_push_of_some _ q) (Nat.le_refl _) ⟨hz,its,0,hv,Heap.get?_push_size _ rfl⟩
theorem Inv.fresh (I:Inv X pins σ H s):H s.heap.objs.size=none:=I.hok.fresh (Nat.le_refl _)
theorem Inv.lstM (I:Inv X pins σ H s) (hH:H l=some (.lst xs)):xs.length<=sizeLine/\∃(its:List Value) (n:Nat),Vals xs its/\xs.length=its.length/\s.heap.get? l=some { cls:=.type "list",data:=.seq its.toArray n }:=by
 obtain⟨z,its,n,r,e⟩:=I.hok l _ hH
 exact⟨z,its,n,r,r.length,e⟩
end
section
variable {X:Cx}
def rAppend:V->List V->Hp->VK->Prop:=λx vs H Q=>∃l xs y,x=.ref l/\vs=[y]/\H l=some (.lst xs)/\xs.length<sizeLine/\Q .non (upd H l (.lst (xs++[y])))
theorem mt_append:MtM X "list.append" rAppend:=by
 intro pins s σ H x vs v us Q I rx rv h
 obtain⟨l,xs,y,rfl,rfl,hH,hz,q⟩:=h
 cases rx
 obtain⟨u,rfl,ru⟩:=rv.one
 obtain⟨z,its,n,r,hl,e⟩:=I.lstM hH
 refine call_meets F.slot_list_append ⟨_,e,rfl⟩ F.entry_list_append (F.args_list_append_2 _ _) (PySem.list_append l its.toArray n u (by rw[List.size_toArray];lia)) ⟨e,?_⟩
 refine⟨.non,_,I.lset (its':=its++[u]) hH e (by simp) (r.append (.cons ru .nil)) ?_,rfl,q⟩
 rw[List.length_append,List.length_singleton]
 lia
def rPop:V->List V->Hp->VK->Prop:=λx vs H Q=>∃l xs y,x=.ref l/\vs=[]/\H l=some (.lst xs)/\xs[xs.length-1]?=some y/\Q y (upd H l (.lst xs.dropLast))
theorem mt_pop:MtM X "list.pop" rPop:=by
 intro pins s σ H x vs v us Q I rx rv h
 obtain⟨l,xs,y,rfl,rfl,hH,hy,q⟩:=h
 cases rx
 have hus:=rv.zero
 subst hus
 obtain⟨z,its,n,r,hl,e⟩:=I.lstM hH
 obtain⟨u,hu,ru⟩:=r.get hy
 have hy':its.toArray[its.toArray.size-1]?=some u:=by
  show its.toArray[its.length-1]?=some u
  rw[<- Array.getElem?_toList,<- hl]
  exact hu
 refine call_meets F.slot_list_pop ⟨_,e,rfl⟩ F.entry_list_pop (F.args_list_pop_1 _) (MeetsSeq.list_pop_last l its.toArray n u hy' (by rw[List.size_toArray];lia)) ⟨e,?_⟩
 refine⟨y,_,I.lset (its':=its.dropLast) hH e ?_ r.dropLast ?_,ru,q⟩
 ·show its.toArray.eraseIdxIfInBounds (its.toArray.size-1)=its.dropLast.toArray
  rw[List.size_toArray,List.eraseIdxIfInBounds_toArray,erase_last]
 ·rw[List.length_dropLast]
  lia
def rCat:R2:=λx y H Q=>∃l b xs zs,x=.ref l/\y=.ref b/\H l=some (.lst xs)/\H b=some (.lst zs)/\xs.length+zs.length<=sizeLine/\∀p,H p=none->Q (.ref p) (upd H p (.lst (xs++zs)))
theorem op_cat:OpR X (binaryOp .Add) rCat:=by
 intro pins s σ H x y v u Q I rx ry h
 obtain⟨l,b,xs,zs,rfl,rfl,hH,hB,hz,q⟩:=h
 cases rx
 cases ry
 obtain⟨z,its,n,r,hl,e⟩:=I.lstM hH
 obtain⟨z2,its2,n2,r2,hl2,e2⟩:=I.lstM hB
 refine PySem.P.add_list e e2 ?_ (by rw[List.size_toArray,List.size_toArray];lia)
 have ea:its.toArray++its2.toArray=(its++its2).toArray:=by simp
 rw[ea]
 exact⟨.ref _,_,I.lnew (t':=s.toks) (r.append r2) (by rw[List.length_append];lia),rfl,q _ I.fresh⟩
end
section
variable {prog:Program}{w:World}{A:Around}{E:Value->Shared->Prop}{s:Shared}
end
section
variable {X:Cx}
end
end L2
namespace Att
open PySem PySem.W PySem.Calls PyProof.Rows
theorem ints_of_wellAll {P:Params}{h:Heap}:∀(ns:List Int) (vs:List Value),WellAll P h vs (ns.map WData.int)->IntsAre vs ns:=by
 intro ns
 induction ns with
 |nil=>
  intro vs w
  rw[List.map_nil] at w
  cases w
  exact .nil
 |cons n ns ih=>
  intro vs w
  rw[List.map_cons] at w
  cases w with
  |cons a b=>
   cases a
   exact .cons _ _ (ih _ b)
theorem script_of {l:OpenLaw}{n:Nat}(hn:l.most=some n){P:Params}{h:Heap}{args:List WData}{vals:List Value}
  (hpre:l.row.toRowW.claim.pre args=true) (hwl:WellAll P h vals args) :
  ∃a vs ns,vals=[Value.ref a]/\args=[WData.list (ns.map WData.int)]/\h.get? a=some { cls:=.type "list",data:=.seq vs.toArray }/\IntsAre vs ns/\ns.length<=n:=by
 have hsh:WShape.hasAll [] args [.list .int]=true:=(pre_splitW hpre).1
 have hc:l.pre.holds [] { args:=args }=true:=(pre_splitW hpre).2
 obtain⟨d,r,rfl,h1,h2⟩:=hasAllW_cons hsh
 obtain rfl:=hasAllW_nil h2
 obtain⟨xs,rfl,h3⟩:=hasW_list h1
 obtain⟨ns,rfl⟩:=items_int h3
 have hlen:ns.length<=n:=by
  unfold OpenLaw.pre at hc
  have h4:(WTm.not (.lt (.lit (.int (n:Int))) (.len (.arg 0)))).holds [] { args:=[.list (ns.map .int)] }=true:=by
   have h4:=(holds_andW hc).1
   rw[hn] at h4
   exact h4
  have h5:=condW_of h4 (w_not (w_lt w_lit (w_len_list (w_arg rfl))))
  rw[List.length_map] at h5
  refine Nat.le_of_not_lt λq=>?_
  have q':(n:Int)<((ns.length:Nat):Int):=by lia
  first
   |(rw[decide_eq_true q'] at h5;exact absurd h5 (by decide))
   |(simp at h5;lia)
 cases hwl with
 |cons w1 w2=>
  cases w2
  cases w1 with
  |list ho hall=>exact⟨_,_,ns,rfl,rfl,ho,ints_of_wellAll ns _ hall,hlen⟩
theorem post_true (l:OpenLaw) (args:List WData):l.row.toRowW.claim.post args (.bool true) args=true:=
 postW_of (r:=l.row.toRowW) (X:=(true==true))
  (show WShape.has [] (.bool true) .bool=true by first|rfl|decide|simp[WShape.has,WShape.arms,WShape.armsAll])
  (show (WTm.eq .res (.lit (.bool true))).value [] { args:=args,res:=some (.bool true),after:=args }=some (.bool (true==true)) from w_eq_bool (w_res rfl) w_lit) rfl
theorem attach_call {l:OpenLaw}{n:Nat}{q:Program}{loose:List Str}{XP:(Str->Option Value)->Heap->Prop}{YP:World->Heap->Prop}{d:DefRec}
  (hn:l.most=some n) (hdf:d.params.defaults=[])
  (call:∀(w:World) (s₀ s₁:Shared) (mg mb:Str->Option Value) (fa:Addr) (o:Obj) (pm cd doc:Value) (a:Addr) (vs:List Value) (ns:List Int),
   Ground q loose [] XP w s₀ mg mb s₁.heap->YP w s₁.heap ->
   s₁.heap.get? fa=some o->o.data=.func (docDef d.name d.params d.body d.scope pm cd doc)->s₁.heap.CodeRec cd d.name->mg d.name=some (.ref fa) ->
   s₁.heap.get? a=some { cls:=.type "list",data:=.seq vs.toArray }->IntsAre vs ns->ns.length<=n->s₁.gens=#[] ->
   codeAny (model l.prog w) callerA (.call (.ref fa) ⟨[.ref a],[]⟩) (λr s'=>r=.ok (.ret (.bool true))/\OldK s₁.heap s'.heap/\s'.os=s₁.os/\AllBare s'.gens) s₁) :
  WalkO q loose XP YP l.row.toRowW d [] (λf vs=>PySem.call f vs):=by
 intro w s₀ s₁ mg mb G Y fa o pm cd doc dV kV ho hd hcd hD hmg hg args vals as hpre hlay hrd hwl hlo
 obtain rfl:dV=.none:=Dflts.none hD hdf
 obtain rfl:kV=.none:=Dflts.noKw hD
 obtain⟨a,vs,ns,rfl,rfl,hobj,hints,hlen⟩:=script_of hn hpre hwl
 refine enter_call (codeAny_mono (call w s₀ s₁ mg mb fa o pm cd doc a vs ns G Y ho (fd_plain hd) hcd hmg hobj hints hlen hg) λr s' hq=>?_)
 obtain⟨rfl,h2,h3,h4⟩:=hq
 exact⟨.inl ⟨.bool true,.bool true,[],rfl,λ_=>rfl,.bool true,post_true l _,λ_=>⟨List.Pairwise.nil,λ_ hm=>(nomatch hm)⟩⟩,h2,h3,h4⟩
section
variable {prog:Program}{w:World}{A:Around}{E:Value->Shared->Prop}{s:Shared}{K:Frag}
end
end Att
namespace L2
open PySem PySem.Spec PyProof.Rows
theorem vals_ints:∀{vs:List Value}{ns:List Int},IntsAre vs ns->Vals (ns.map V.int) vs
 |_,_,.nil=>.nil
 |_,_,.cons n t h=>.cons ⟨t,rfl⟩ (vals_ints h)
def Only (H:Hp):Prop:=∀b,H b=none\/∃o xs,H b=some (.frz o (.lst xs))
theorem law_call {P:Program}{w:World}{K:PySem.W.Frag}{mg mb:Str->Option Value}{CX:CXT}{k:Nat}{fa a:Addr}{fd:FuncData}{x:Str}{sp:Sp}{s₁:Shared}{vs:List Value}{ns:List Int}
  (KX:K.In s₁.heap) (hns:s₁.heap.Ns mainGlobals mg) (hb:s₁.heap.Ns builtinsNs mb) (hbb:∀x:Str,x ≠ "__name__" -> mb x=bootBuiltins x) (hlim:s₁.heap.NoLimit) (hg:s₁.gens=#[])
  (ha:s₁.heap.get? a=some { cls:=.type "list",data:=.seq vs.toArray }) (hi:IntsAre vs ns) (hl:ns.length<=sizeLine) (hr:Room k callerA)
  (F:∀base:Heap,K.In base->base.Ns mainGlobals mg->FnOk P w K mg base CX k fa fd [x] sp) (hbind:∀(s:Shared) (u:Value),BindsTo s fd ⟨[u],[]⟩ [(x,u)])
  (hsp:∀H:Hp,Only H->SqL K H a (ns.map V.int)->sp [.ref a] H (λv _=>v=.bl true) λ_ _ _=>False)
  (hCX:∀H e s',CX [] H s₁ (λ_ _ _=>False) e s'->False) :
  codeAny (model P w) callerA (.call (.ref fa) ⟨[.ref a],[]⟩) (λr s'=>r=.ok (.ret (.bool true))/\OldK s₁.heap s'.heap/\s'.os=s₁.os/\AllBare s'.gens) s₁:=by
 have rv:=vals_ints hi
 have lenV:=hi.length
 have core:∀H:Hp,Only H->SqL K H a (ns.map V.int)->HOk P w H s₁.heap->(∀b,H b≠none->b=a)->(H a≠none->K.lookup a=none) ->
   codeAny (model P w) callerA (.call (.ref fa) ⟨[.ref a],[]⟩) (λr s'=>r=.ok (.ret (.bool true))/\OldK s₁.heap s'.heap/\s'.os=s₁.os/\AllBare s'.gens) s₁:=by
  intro H hO hS hok hA hK
  have base_of:∀{b:Addr}{o:Obj},s₁.heap.get? b=some o->H b=none->(hidT s₁.heap H).get? b=some o:=λe n=>hidT_get e n
  have noA:∀{b:Addr}{o:Obj}{es:Array DictEntry}{ep:Nat},s₁.heap.get? b=some o->o.data=.dict es ep->H b=none:=λ{b o es ep} e d=>by
   cases q:H b with
   |none=>rfl
   |some u=>
    have e':b=a:=hA b (by rw[q];simp)
    subst e'
    rw[ha] at e;cases e
    have d':Data.seq vs.toArray _=Data.dict es ep:=d
    cases d'
  have nsK:∀{b:Addr}{m:Str->Option Value},s₁.heap.Ns b m->(hidT s₁.heap H).Ns b m:=λ{b m} ⟨o,es,ep,e,d,r⟩=>⟨o,es,ep,base_of e (noA e d),d,r⟩
  have hKb:K.In (hidT s₁.heap H):=λb o e=>base_of (KX b o e) (by
   cases q:H b with
   |none=>rfl
   |some u=>
    have e':b=a:=hA b (by rw[q];simp)
    subst e'
    rw[hK (by rw[q];simp)] at e;cases e)
  have hM:Mod K mg (hidT s₁.heap H):=⟨hKb,nsK hns,⟨mb,nsK hb,hbb⟩,let ⟨mc,h1,h2⟩:=hlim;⟨mc,nsK h1,h2⟩⟩
  have e0:Env0 P w K mg (hidT s₁.heap H) callerA [] s₁ H:=⟨rfl,hM,λb o e=>of_hidT e,Nat.le_of_eq (hidT_size _ _),trivial,λb hb=>absurd (show b∈([]:List Addr) from hb) (by simp),hok,.of_eq hg⟩
  refine codeAny_mono ((F _ hKb (nsK hns)).run callerA [] s₁ H ⟨[.ref a],[]⟩ [.ref a] [.ref a] _ _ hr e0 (hbind s₁ (.ref a)) (.cons rfl .nil) (hsp H hO hS)) λr s' h=>?_
  cases r with
  |error e=>exact (hCX H e s' h).elim
  |ok fl=>
   cases fl with
   |next=>exact False.elim h
   |brk=>exact False.elim h
   |cont=>exact False.elim h
   |ret u=>
    obtain⟨v,H',os,bare,un,hok',r',q⟩:=h
    have q':v=.bl true:=q
    subst q'
    obtain rfl:u=Value.bool true:=r'
    refine⟨rfl,OldK.of_keep λb o e=>?_,os,bare⟩
    cases q:H b with
    |none=>exact un.keep b o e q (by intro z;exact absurd (show b∈([]:List Addr) from z) (by simp)) (by simp)
    |some u=>
     rcases hO b with z|⟨ob,xs,z⟩
     ·rw[q] at z;cases z
     ·have z2:=un.frzs b ob _ z
      obtain⟨e1,_⟩:=hok b _ z
      obtain⟨e2,_⟩:=hok' b _ z2
      rw[e] at e1;cases e1
      exact e2
 cases hk:K.lookup a with
 |some o=>
  have e:=KX a o hk
  rw[ha] at e
  cases e
  refine core (λ_=>none) (λ_=>.inl rfl) (.inr ⟨_,vs.toArray,_,hk,rfl,rfl,rfl,by rw[List.size_toArray,lenV];exact hl,by simpa using rv⟩) (λb u z=>by have z':(none:Option HO)=some u:=z;cases z') (λb z=>absurd rfl z) λz=>absurd rfl z
 |none=>
  refine core (λb=>if b=a then some (.frz { cls:=.type "list",data:=.seq vs.toArray } (.lst (ns.map V.int))) else none) (λb=>?_) (.inl (.inr ⟨{ cls:=.type "list",data:=.seq vs.toArray },if_pos rfl⟩)) (λb u z=>?_) (λb z=>?_) λ_=>hk
  ·by_cases hb:b=a
   ·exact .inr ⟨_,_,if_pos hb⟩
   ·exact .inl (if_neg hb)
  ·by_cases hb:b=a
   ·have z':=(if_pos hb).symm.trans z
    cases z'
    subst hb
    exact⟨ha,by rw[List.length_map];exact hl,vs,_,rv,ha⟩
   ·have z':=(if_neg hb).symm.trans z
    cases z'
  ·by_cases hb:b=a
   ·exact hb
   ·exact absurd (if_neg hb) z
theorem walk_of {l:PySem.W.OpenLaw}{n k:Nat}{q:Program}{loose:List Str}{XP:(Str->Option Value)->Heap->Prop}{YP:World->Heap->Prop}{d:DefRec}{K:Params->PySem.W.Frag}{CX:World->CXT}{sp:World->Sp}{x:Str}
  (hn:l.most=some n) (hn2:n<=sizeLine) (hdf:d.params.defaults=[]) (hr:Room k callerA)
  (hY:∀(w:World) (h:Heap),YP w h->(K w.params).In h)
  (F:∀(w:World) (mg:Str->Option Value) (fa:Addr) (h:Heap),(K w.params).In h->h.Ns mainGlobals mg->mg d.name=some (.ref fa) ->
   ∃fd:FuncData,(∀(s:Shared) (u:Value),BindsTo s fd ⟨[u],[]⟩ [(x,u)]) /\
    ∀base:Heap,(K w.params).In base->base.Ns mainGlobals mg->FnOk l.prog w (K w.params) mg base (CX w) k fa fd [x] (sp w))
  (hsp:∀(w:World) (H:Hp) (a:Addr) (ns:List Int),ns.length<=n->Only H->SqL (K w.params) H a (ns.map V.int)->sp w [.ref a] H (λv _=>v=.bl true) λ_ _ _=>False)
  (hCX:∀(w:World) (H:Hp) (s:Shared) (e:Value) (s':Shared),CX w [] H s (λ_ _ _=>False) e s'->False) :
  PySem.W.WalkO q loose XP YP l.row.toRowW d [] (λf vs=>PySem.call f vs):=by
 refine Att.attach_call hn hdf λw s₀ s₁ mg mb fa o pm cd doc a vs ns G Y ho hd hcd hmg hobj hints hlen hg=>?_
 have KX:=hY w _ Y
 obtain⟨fd,hb,hF⟩:=F w mg fa _ KX G.T.g hmg
 exact law_call KX G.T.g G.T.b G.T.builtins G.T.nolimit hg hobj hints (Nat.le_trans hlen hn2) hr hF hb (λH hO hS=>hsp w H a ns hlen hO hS) λH e s'=>hCX w H s₁ e s'
abbrev CX0:CXT:=λ_ _ _ _ _ _=>False
abbrev E0:XK:=λ_ _ _=>False
theorem pass0 {X:Cx}:Passes CX0 X E0:=λ_ _ _ _ _ _ _ h=>h.elim
structure Fun (K:PySem.W.Frag) (x qual:Str) (st:Stmt) (f:Addr) (fd:FuncData):Prop where
 ex:∃(oc:Value) (od:Option Addr) (kV doc pm:Value) (an:Option Addr) (cdv ct:Value) (osl:Array (Option Value)),
  fd=PySem.W.fnOf x qual (defArgs st) (defBody st) (defScope st) .none kV doc pm an cdv ct/\K.lookup f=some ⟨oc,od,.func fd,osl⟩/\PySem.W.codeIn K cdv qual=true
 kp:PySem.W.keepIn K (.ref f)=true
section
variable {P:Program}{w:World}{K:PySem.W.Frag}{mg:Str->Option Value}{base:Heap}
theorem Fun.ok {x qual:Str}{st:Stmt}{f:Addr}{fd:FuncData}{N ps:List Str}{k:Nat}{sp:Sp}(F:Fun K x qual st f fd) (S:FnScope N ps (defScope st)) (len:∀vs H Q E,sp vs H Q E->vs.length=ps.length)
  (hbody:∀(cdv:Value) (A:Around) (outer:List Env) (s:Shared) (H:Hp) (vs:List V) (Q:VK) (E:XK),Room k (A.deeper (envOfC qual (defScope st) s.heap.objs.size f cdv))->sp vs H Q E ->
   ∃t,PSs (cxOf CX0 P w K mg base N qual (defScope st) f cdv A outer s H E).nox (defBody st) t/\t { nx:=λ_ H'=>Q .non H',rt:=Q } (start N vs) H):FnOk P w K mg base CX0 (k+1) f fd ps sp:=by
 obtain⟨oc,od,kV,doc,pm,an,cdv,ct,osl,rfl,lk,hcd⟩:=F.ex
 refine fn_of lk hcd S len λA outer s H vs Q E hr hsp=>?_
 obtain⟨t,h,q⟩:=hbody cdv A outer s H vs Q E hr hsp
 exact⟨t,h.nox,q⟩
theorem Fun.binds {x qual:Str}{st:Stmt}{f:Addr}{fd:FuncData}{ps:List Str}(F:Fun K x qual st f fd)
  (h:∀(kV doc pm:Value) (an:Option Addr) (cdv ct:Value) (us:List Value),us.length=ps.length->bindArgs (PySem.W.fnOf x qual (defArgs st) (defBody st) (defScope st) .none kV doc pm an cdv ct) ⟨us,[]⟩=pure (ps.zip us)):Binds K fd ps []:=by
 obtain⟨oc,od,kV,doc,pm,an,cdv,ct,osl,rfl,lk,hcd⟩:=F.ex
 exact .all (h kV doc pm an cdv ct)
theorem fun_mk {x qual:Str}{st:Stmt}{f:Addr}{oc:Value}{od an:Option Addr}{osl:Array (Option Value)}{kV doc pm cdv ct:Value}(l:K.lookup f=some ⟨oc,od,.func (PySem.W.fnOf x qual (defArgs st) (defBody st) (defScope st) .none kV doc pm an cdv ct),osl⟩)
  (c:PySem.W.codeIn K cdv qual=true) (k:PySem.W.keepIn K (.ref f)=true):Fun K x qual st f (PySem.W.fnOf x qual (defArgs st) (defBody st) (defScope st) .none kV doc pm an cdv ct):=⟨⟨oc,od,kV,doc,pm,an,cdv,ct,osl,rfl,l,c⟩,k⟩
end
theorem small1000 {n:Nat}(h:n<=1000):n<sizeLine:=Nat.lt_of_le_of_lt h (by decide)
section
variable {X:Cx}
theorem pv (i:Nat){x:Str}{pos:Pos}(hN:X.N[i]?=some x:=by rfl) (hv:Vis X.env.scope x:=by first|exact Or.inl rfl|exact Or.inr (Or.inl rfl)|exact Or.inr (Or.inr rfl)) (hd:(x==("__debug__" : Str))=false:=by decide)
  (hcd:(x==("__classdict__" : Str))=false:=by decide):PE X (.Name x pos) (tVar i):=pe_var hN hv hd hcd
end
theorem iteF {A B:Prop}(h:B):if false=true then A else B:=by
 rw[if_neg Bool.false_ne_true]
 exact h
theorem iteT {A B:Prop}(h:A):if true=true then A else B:=by
 rw[if_pos rfl]
 exact h
theorem ite2 {c A B:Prop}[Decidable c] (h1:c->A) (h2:¬c->B):if c then A else B:=by
 by_cases h:c
 ·rw[if_pos h]
  exact h1 h
 ·rw[if_neg h]
  exact h2 h
theorem iteNS {c A B:Prop}[Decidable c] (hc:c) (h:B):if (!decide c)=true then A else B:=by
 rw[decide_eq_true hc]
 exact iteF h
def Same (H H':Hp):Prop:=∀b o,H b=some o->H' b=some o
theorem Same.refl (H:Hp):Same H H:=λ_ _ h=>h
theorem Same.trans {H H1 H2:Hp}(a:Same H H1) (b:Same H1 H2):Same H H2:=λc o h=>b c o (a c o h)
theorem Same.free {H H':Hp}(e:Same H H'){l:Addr}(h:H' l=Option.none):H l=Option.none:=by
 cases q:H l with
 |none=>rfl
 |some o=>
  rw[e l o q] at h
  cases h
theorem Same.seq {K:PySem.W.Frag}{H H':Hp}{a:Addr}{xs:List V}(e:Same H H') (h:SqL K H a xs):SqL K H' a xs:=by
 rcases h with (h|⟨o,h⟩)|h
 ·exact .inl (.inl (e _ _ h))
 ·exact .inl (.inr ⟨o,e _ _ h⟩)
 ·exact .inr h
section
variable {κ:Type}[DecidableEq κ]
def valV (kvs:List (κ×V)) (k:κ):Option V:=(kvs.find? λkv=>decide (kv.1=k)).map (·.2)
def putK (kvs:List (κ×V)) (k:κ) (v:V):List (κ×V):=
 if (kvs.any λkv=>decide (kv.1=k))=true then kvs.map (λkv=>if kv.1=k then (kv.1,v) else kv) else kvs++[(k,v)]
theorem valV_pos {p:κ×V}{r:List (κ×V)}{k:κ}(e:p.1=k):valV (p::r) k=some p.2:=by simp[valV,List.find?_cons,e]
theorem valV_neg {p:κ×V}{r:List (κ×V)}{k:κ}(e:¬p.1=k):valV (p::r) k=valV r k:=by simp[valV,List.find?_cons,e]
theorem valV_any (k:κ):∀kvs:List (κ×V),(kvs.any λkv=>decide (kv.1=k))=(valV kvs k).isSome
 |[]=>rfl
 |p::r=>by
  rw[List.any_cons]
  by_cases e:p.1=k
  ·simp only[valV_pos e,decide_eq_true e,Bool.true_or,Option.isSome_some]
  ·rw[valV_neg e,decide_eq_false e,Bool.false_or];exact valV_any k r
theorem valV_map (k j:κ) (y:V):∀kvs:List (κ×V),valV (kvs.map λkv=>if kv.1=k then (kv.1,y) else kv) j=(valV kvs j).map λx=>if j=k then y else x
 |[]=>rfl
 |p::r=>by
  have ih:=valV_map k j y r
  rw[List.map_cons]
  by_cases h:p.1=k
  ·rw[if_pos h]
   by_cases e:p.1=j
   ·rw[valV_pos (p:=(p.1,y)) e,valV_pos e,Option.map_some,if_pos (e.symm.trans h)]
   ·rw[valV_neg (p:=(p.1,y)) e,valV_neg e,ih]
  ·rw[if_neg h]
   by_cases e:p.1=j
   ·rw[valV_pos (p:=p) e,valV_pos e,Option.map_some,if_neg (λz=>h (e.trans z))]
   ·rw[valV_neg (p:=p) e,valV_neg e,ih]
theorem valV_snoc (k j:κ) (y:V):∀kvs:List (κ×V),valV kvs k=none->valV (kvs++[(k,y)]) j=if j=k then some y else valV kvs j
 |[],_=>by
  by_cases e:k=j
  ·rw[if_pos e.symm];exact valV_pos (p:=(k,y)) e
  ·rw[if_neg (λz=>e z.symm)];exact valV_neg (p:=(k,y)) e
 |p::r,hn=>by
  rw[List.cons_append]
  have hk:¬p.1=k:=λz=>by rw[valV_pos z] at hn;cases hn
  rw[valV_neg hk] at hn
  have ih:=valV_snoc k j y r hn
  by_cases e:p.1=j
  ·rw[valV_pos e,valV_pos e,if_neg (λz=>hk (e.trans z))]
  ·rw[valV_neg e,valV_neg e,ih]
theorem valV_put (kvs:List (κ×V)) (k j:κ) (y:V):valV (putK kvs k y) j=if j=k then some y else valV kvs j:=by
 unfold putK
 by_cases a:(kvs.any λkv=>decide (kv.1=k))=true
 ·rw[if_pos a,valV_map]
  rw[valV_any] at a
  by_cases e:j=k
  ·obtain⟨x,hx⟩:=Option.isSome_iff_exists.mp a
   rw[if_pos e,e,hx,Option.map_some,if_pos rfl]
  ·rw[if_neg e]
   cases valV kvs j with
   |none=>rfl
   |some x=>rw[Option.map_some,if_neg e]
 ·rw[if_neg a]
  refine valV_snoc k j y kvs ?_
  rw[valV_any] at a
  cases q:valV kvs k with
  |none=>rfl
  |some x=>rw[q] at a;exact (a rfl).elim
theorem length_putK (kvs:List (κ×V)) (k:κ) (v:V):(putK kvs k v).length<=kvs.length+1:=by
 unfold putK
 split
 ·rw[List.length_map];lia
 ·rw[List.length_append,List.length_cons,List.length_nil];lia
theorem RelO.isSome_eq {o:Option V}{u:Option Value}(r:RelO o u):o.isSome=u.isSome:=by
 cases o with
 |none=>cases u with
  |none=>rfl
  |some _=>exact (show False from r).elim
 |some _=>cases u with
  |none=>exact (show False from r).elim
  |some _=>rfl
theorem KV.val {kvs:List (κ×V)}{vs:List (κ×Value)}(r:KV kvs vs) (k:κ):RelO (valV kvs k) (valueAt vs k):=by
 unfold KV at r
 induction r with
 |nil=>exact True.intro
 |@cons p q ps qs h t ih=>
  obtain⟨h1,h2⟩:=h
  by_cases e:p.1=k
  ·have e':q.1=k:=h1.symm.trans e
   have b:valueAt (q::qs) k=some q.2:=by simp[valueAt,List.find?_cons,e']
   rw[valV_pos e,b];exact h2
  ·have e':¬q.1=k:=λz=>e (h1.trans z)
   have b:valueAt (q::qs) k=valueAt qs k:=by simp[valueAt,List.find?_cons,e']
   rw[valV_neg e,b];exact ih
theorem KV.any {kvs:List (κ×V)}{vs:List (κ×Value)}(r:KV kvs vs) (k:κ):(kvs.any λkv=>decide (kv.1=k))=vs.any λkv=>decide (kv.1=k):=by
 unfold KV at r
 induction r with
 |nil=>rfl
 |cons h t ih=>rw[List.any_cons,List.any_cons,ih,h.1]
theorem KV.repl {kvs:List (κ×V)}{vs:List (κ×Value)}(r:KV kvs vs) (k:κ){y:V}{u:Value}(ry:RelV y u) :
  KV (kvs.map λkv=>if kv.1=k then (kv.1,y) else kv) (vs.map λkv=>if kv.1=k then (kv.1,u) else kv):=by
 unfold KV at r ⊢
 induction r with
 |nil=>exact .nil
 |@cons p q ps qs h t ih=>
  rw[List.map_cons,List.map_cons]
  refine .cons ?_ ih
  obtain⟨h1,h2⟩:=h
  by_cases e:p.1=k
  ·rw[if_pos e,if_pos (h1.symm.trans e)];exact⟨h1,ry⟩
  ·rw[if_neg e,if_neg (λz=>e (h1.trans z))];exact⟨h1,h2⟩
theorem KV.put {kvs:List (κ×V)}{vs:List (κ×Value)}(r:KV kvs vs) (k:κ){y:V}{u:Value}(ry:RelV y u):KV (putK kvs k y) (stored vs k u):=by
 unfold putK stored
 rw[r.any k]
 by_cases e:(vs.any λkv=>decide (kv.1=k))=true
 ·rw[if_pos e,if_pos e];exact r.repl k ry
 ·rw[if_neg e,if_neg e];exact Paired.snoc r ⟨rfl,ry⟩
theorem KV.keys {kvs:List (κ×V)}{vs:List (κ×Value)}(r:KV kvs vs):kvs.map (·.1)=vs.map (·.1):=by
 unfold KV at r
 induction r with
 |nil=>rfl
 |cons h t ih=>rw[List.map_cons,List.map_cons,ih,h.1]
theorem KV.length {kvs:List (κ×V)}{vs:List (κ×Value)}(r:KV kvs vs):kvs.length=vs.length:=Paired.length r
end
theorem kV_is {P:Program}{w:World}{k:Key}{u:Value}(r:RelV (kV k) u):(mixKind P w).is k u=true:=by
 cases k with
 |inl i=>obtain⟨t,e⟩:=(show ∃t,u=Value.int i t from r);subst e;exact mixKind_int P w i t
 |inr x=>obtain⟨t,e⟩:=(show ∃t,u=Value.str x t from r);subst e;exact mixKind_str P w x t
theorem items_are {P:Program}{w:World}:∀{ks:List Key}{us:List Value},Vals (ks.map kV) us->ItemsAre (mixKind P w) ks us
 |[],_,r=>by rw[List.map_nil] at r;cases r;exact .nil
 |k::ks,_,r=>by
  rw[List.map_cons] at r
  cases r with
  |cons h t=>exact .cons (kV_is h) (items_are t)
abbrev KT (H:Hp):List (List Key×V)->List (List Key×Addr×Value)->Prop:=Paired λp q=>p.1=q.1/\H q.2.1=some (.tup (p.1.map kV))/\RelV p.2 q.2.2
theorem KT.val {H:Hp}{kvs:List (List Key×V)}{xs:List (List Key×Addr×Value)}(r:KT H kvs xs) (k:List Key):RelO (valV kvs k) ((atKey xs k).map (·.2)):=by
 induction r with
 |nil=>exact True.intro
 |@cons p q ps qs h t ih=>
  obtain⟨h1,_,h2⟩:=h
  by_cases e:p.1=k
  ·have e':q.1=k:=h1.symm.trans e
   have b:atKey (q::qs) k=some q.2:=by simp[atKey,List.find?_cons,e']
   rw[valV_pos e,b];exact h2
  ·have e':¬q.1=k:=λz=>e (h1.trans z)
   have b:atKey (q::qs) k=atKey qs k:=by simp[atKey,List.find?_cons,e']
   rw[valV_neg e,b];exact ih
theorem KT.repl {H:Hp}{kvs:List (List Key×V)}{xs:List (List Key×Addr×Value)}(r:KT H kvs xs) (k:List Key){y:V}{u:Value}(ry:RelV y u) :
  KT H (kvs.map λkv=>if kv.1=k then (kv.1,y) else kv) (xs.map (putAt k u)):=by
 induction r with
 |nil=>exact .nil
 |@cons p q ps qs h t ih=>
  rw[List.map_cons,List.map_cons]
  refine .cons ?_ ih
  obtain⟨h1,h2,h3⟩:=h
  unfold putAt
  by_cases e:p.1=k
  ·rw[if_pos e,if_pos (h1.symm.trans e)];exact⟨h1,h2,ry⟩
  ·rw[if_neg e,if_neg (λz=>e (h1.trans z))];exact⟨h1,h2,h3⟩
theorem KT.put {H:Hp}{kvs:List (List Key×V)}{xs:List (List Key×Addr×Value)}(r:KT H kvs xs) (k:List Key){b:Addr}{y:V}{u:Value}(hb:H b=some (.tup (k.map kV))) (ry:RelV y u) :
  KT H (putK kvs k y) (storedH xs k b u):=by
 have e:(kvs.any λkv=>decide (kv.1=k))=(atKey xs k).isSome:=by
  rw[valV_any,(r.val k).isSome_eq,Option.isSome_map]
 unfold putK storedH
 rw[e]
 by_cases q:(atKey xs k).isSome=true
 ·rw[if_pos q,if_pos q];exact r.repl k ry
 ·rw[if_neg q,if_neg q];exact Paired.snoc r ⟨rfl,hb,ry⟩
theorem KT.keeps {H H':Hp}{kvs:List (List Key×V)}{xs:List (List Key×Addr×Value)}(r:KT H kvs xs) (ht:∀b ys,H b=some (.tup ys)->H' b=some (.tup ys)):KT H' kvs xs:=
 Paired.mapP r λ_ _ z=>⟨z.1,ht _ _ z.2.1,z.2.2⟩
section
variable {P:Program}{w:World}{H:Hp}{h:Heap}{a:Addr}
theorem rd_of {u:HO}(ok:HOk P w H h) (e:Rd H a u):ObjOk P w H h a u:=e.ok ok
theorem dk_rd {kvs:List (Key×V)}(ok:HOk P w H h) (e:Rd H a (.dK kvs)):kvs.length<=sizeLine/\(a==sysModules)=false/\∃vs,KV kvs vs/\h.DictOf (mixKind P w) a vs:=
 show ObjOk P w H h a (.dK kvs) from rd_of ok e
theorem dk_of {kvs:List (Key×V)}(ok:HOk P w H h) (e:H a=some (.dK kvs)):kvs.length<=sizeLine/\(a==sysModules)=false/\∃vs,KV kvs vs/\h.DictOf (mixKind P w) a vs:=dk_rd ok (.inl e)
theorem key_of {ks:List Key}(ok:HOk P w H h) (e:H a=some (.tup (ks.map kV))):(tupleKind (mixKind P w)).is h ks a:=by
 obtain⟨_,its,r,o,h1,h2,n,h3⟩:=(show ObjOk P w H h a (.tup (ks.map kV)) from ok a _ e)
 exact⟨o,its.toArray,n,h1,h2,h3,by simpa using items_are r⟩
theorem dt_rd {kvs:List (List Key×V)}(ok:HOk P w H h) (e:Rd H a (.dT kvs)):kvs.length<=sizeLine/\(a==sysModules)=false /\
  ∃xs,KT H kvs xs/\h.DictOfH (tupleKind (mixKind P w)) a xs:=by
 obtain⟨z,y,xs,r,o,es,ep,h1,h2,h3,h4,h5⟩:=(show ObjOk P w H h a (.dT kvs) from rd_of ok e)
 refine⟨z,y,xs,r,o,es,ep,h1,h2,h3,h4,λx hx=>?_,h5⟩
 have all:∀{l:List (List Key×V)}{m:List (List Key×Addr×Value)},KT H l m->∀x∈m,(tupleKind (mixKind P w)).is h x.1 x.2.1:=by
  intro l m q
  induction q with
  |nil=>intro x hx;exact nomatch hx
  |@cons p q ps qs hq t ih=>
   intro x hx
   rcases List.mem_cons.mp hx with e|hx
   ·subst e
    exact key_of ok (by rw[<- hq.1];exact hq.2.1)
   ·exact ih x hx
 exact all r x hx
theorem dt_of {kvs:List (List Key×V)}(ok:HOk P w H h) (e:H a=some (.dT kvs)):kvs.length<=sizeLine/\(a==sysModules)=false /\
  ∃xs,KT H kvs xs/\h.DictOfH (tupleKind (mixKind P w)) a xs:=dt_rd ok (.inl e)
end
def DGet (H:Hp) (a:Addr) (y:V) (r:Option V):Prop:=
 (∃kvs k,Rd H a (.dK kvs)/\y=kV k/\r=valV kvs k)\/∃kvs k b,Rd H a (.dT kvs)/\y=.ref b/\H b=some (.tup (k.map kV))/\r=valV kvs k
def DPut (H:Hp) (a:Addr) (y v:V) (H':Hp):Prop:=
 (∃kvs k,H a=some (.dK kvs)/\y=kV k/\kvs.length<sizeLine/\H'=upd H a (.dK (putK kvs k v))) \/
 ∃kvs k b,H a=some (.dT kvs)/\y=.ref b/\H b=some (.tup (k.map kV))/\kvs.length<sizeLine/\H'=upd H a (.dT (putK kvs k v))
theorem DGet.k {H:Hp}{a:Addr}{kvs:List (Key×V)}{k:Key}(e:H a=some (.dK kvs)):DGet H a (kV k) (valV kvs k):=.inl ⟨kvs,k,.inl e,rfl,rfl⟩
theorem DGet.t {H:Hp}{a b:Addr}{kvs:List (List Key×V)}{k:List Key}(e:H a=some (.dT kvs)) (eb:H b=some (.tup (k.map kV))):DGet H a (.ref b) (valV kvs k):=.inr ⟨kvs,k,b,.inl e,rfl,eb,rfl⟩
theorem DPut.k {H:Hp}{a:Addr}{kvs:List (Key×V)}{k:Key}{v:V}(e:H a=some (.dK kvs)) (hl:kvs.length<sizeLine):DPut H a (kV k) v (upd H a (.dK (putK kvs k v))):=.inl ⟨kvs,k,e,rfl,hl,rfl⟩
theorem DPut.t {H:Hp}{a b:Addr}{kvs:List (List Key×V)}{k:List Key}{v:V}(e:H a=some (.dT kvs)) (eb:H b=some (.tup (k.map kV))) (hl:kvs.length<sizeLine) :
  DPut H a (.ref b) v (upd H a (.dT (putK kvs k v))):=.inr ⟨kvs,k,b,e,rfl,eb,hl,rfl⟩
section
variable {X:Cx}{pins:List (Addr×Obj)}{σ:St}{H:Hp}{s:Shared}{a:Addr}{y v:V}{u r:Value}{o:Option V}{A:Around}{E:Value->Shared->Prop}
theorem Inv.big (I:Inv X pins σ H s):sysModules<s.heap.objs.size:=by
 have h:mainGlobals<s.heap.objs.size:=(I.mod.glob.keeps I.bk).lt
 exact Nat.lt_trans (by decide) h
theorem d_getItem {Q:Value->Shared->Prop}(hu:A.units+1<cLine) (I:Inv X pins σ H s) (g:DGet H a y (some v)) (ry:RelV y u) (h:∀w' s',Inv X pins σ H s'->RelV v w'->Q w' s') :
  wpAny (model X.prog X.w) A (getItem (.ref a) u) Q E s:=by
 rcases g with ⟨kvs,k,e,ey,l⟩|⟨kvs,k,b,e,ey,eb,l⟩
 ·subst ey
  obtain⟨z,hd,vs,rel,dd⟩:=dk_rd I.hok e
  obtain⟨w',hw,rw'⟩:=RelO.some_of (v:=v) (o:=valueAt vs k) (by rw[l];exact rel.val k)
  exact wpAny_getItem_of (kV_is ry) dd.mapOf hw (h w' _ (I.tok _) rw')
 ·subst ey
  cases (show u=Value.ref b from ry)
  obtain⟨z,hd,xs,rel,dd⟩:=dt_rd I.hok e
  obtain⟨w',hw,rw'⟩:=RelO.some_of (v:=v) (o:=(atKey xs k).map (·.2)) (by rw[l];exact rel.val k)
  obtain⟨p,hp,hp2⟩:=Option.map_eq_some_iff.mp hw
  refine wpAny_getItem_heap (tupleKind_room_in1 hu) (key_of I.hok eb) dd hp ?_
  rw[hp2]
  exact h w' _ (I.tok _) rw'
theorem d_in {Q:Value->Shared->Prop}(hu:A.units+1<cLine) (I:Inv X pins σ H s) (g:DGet H a y o) (ry:RelV y u) (h:∀s',Inv X pins σ H s'->Q (.bool o.isSome) s') :
  wpAny (model X.prog X.w) A (compareOp .In u (.ref a)) Q E s:=by
 rcases g with ⟨kvs,k,e,ey,l⟩|⟨kvs,k,b,e,ey,eb,l⟩
 ·subst ey
  obtain⟨z,hd,vs,rel,dd⟩:=dk_rd I.hok e
  refine wpAny_in_of (kV_is ry) hd dd.mapOf ?_
  rw[<- (rel.val k).isSome_eq,<- l]
  exact h _ (I.tok _)
 ·subst ey
  cases (show u=Value.ref b from ry)
  obtain⟨z,hd,xs,rel,dd⟩:=dt_rd I.hok e
  refine wpAny_in_heap (tupleKind_room_in1 hu) (key_of I.hok eb) hd dd ?_
  have q:=(rel.val k).isSome_eq
  rw[Option.isSome_map] at q
  rw[<- q,<- l]
  exact h _ (I.tok _)
theorem d_notIn {Q:Value->Shared->Prop}(hu:A.units+1<cLine) (I:Inv X pins σ H s) (g:DGet H a y o) (ry:RelV y u) (h:∀s',Inv X pins σ H s'->Q (.bool (!o.isSome)) s') :
  wpAny (model X.prog X.w) A (compareOp .NotIn u (.ref a)) Q E s:=by
 rcases g with ⟨kvs,k,e,ey,l⟩|⟨kvs,k,b,e,ey,eb,l⟩
 ·subst ey
  obtain⟨z,hd,vs,rel,dd⟩:=dk_rd I.hok e
  refine wpAny_notIn_of (kV_is ry) hd dd.mapOf ?_
  rw[<- (rel.val k).isSome_eq,<- l]
  exact h _ (I.tok _)
 ·subst ey
  cases (show u=Value.ref b from ry)
  obtain⟨z,hd,xs,rel,dd⟩:=dt_rd I.hok e
  refine wpAny_notIn_heap (tupleKind_room_in1 hu) (key_of I.hok eb) hd dd ?_
  have q:=(rel.val k).isSome_eq
  rw[Option.isSome_map] at q
  rw[<- q,<- l]
  exact h _ (I.tok _)
theorem d_write {h':Heap}{t':Nat}{ob:HO}(I:Inv X pins σ H s) (mu:Mut (H a)) (hs:Heap.SameBut a s.heap h') (he:∃q,h'.get? a=some q) (new:ObjOk X.prog X.w (upd H a ob) h' a ob) :
  Inv X pins σ (upd H a ob) { s with heap:=h',toks:=t' }:=
 I.write (x:=a) (e:=a) mu (.inl rfl) (λb q hb z=>(hs.2 b hb).trans z) he new
theorem dk_new {P:Program}{w:World}{H':Hp}{h':Heap}{kvs:List (Key×V)}{vs:List (Key×Value)}(z:kvs.length<=sizeLine) (hd:(a==sysModules)=false) (rel:KV kvs vs) (dd:h'.DictOf (mixKind P w) a vs) :
  ObjOk P w H' h' a (.dK kvs):=⟨z,hd,vs,rel,dd⟩
theorem d_setItem {H':Hp}{Q:Unit->Shared->Prop}(hu:A.units+1<cLine) (I:Inv X pins σ H s) (g:DPut H a y v H') (ry:RelV y u) (rv:RelV v r) (h:∀s',Inv X pins σ H' s'->Q () s') :
  wpAny (model X.prog X.w) A (setItem (.ref a) u r) Q E s:=by
 rcases g with ⟨kvs,k,e,ey,l,eH⟩|⟨kvs,k,b,e,ey,eb,l,eH⟩
 ·subst ey eH
  obtain⟨z,hd,vs,rel,dd⟩:=dk_of I.hok e
  have hz:vs.length<=sizeLine:=by rw[<- rel.length];exact z
  have hl:(putK kvs k v).length<=sizeLine:=by have:=length_putK kvs k v;lia
  refine wpAny_setItem_pairs (hsz:=hz) (kV_is ry) dd λh' dd' hs=>h _ ?_
  have he:∃q,h'.get? a=some q:=let ⟨q,_,_,hq,_⟩:=dd';⟨q,hq⟩
  exact d_write I (by rw[e];exact True.intro) hs he (dk_new hl hd (rel.put k rv) dd')
 ·subst ey eH
  cases (show u=Value.ref b from ry)
  obtain⟨z,hd,xs,rel,dd⟩:=dt_of I.hok e
  have hz:xs.length<=sizeLine:=by rw[<- Paired.length rel];exact z
  have hl:(putK kvs k v).length<=sizeLine:=by have:=length_putK kvs k v;lia
  refine wpAny_setItem_heap (hsz:=hz) (tupleKind_room_in1 hu) (key_of I.hok eb) dd λh' dd' hs=>h _ ?_
  obtain⟨q,es,ep,hq,h2,h3,h4,_,h5⟩:=dd'
  refine d_write I (by rw[e];exact True.intro) hs ⟨q,hq⟩ ⟨hl,hd,_,(rel.put k eb rv).keeps λc ys ec=>?_,q,es,ep,hq,h2,h3,h4,h5⟩
  rw[upd_ne (ne_of ec e (λz=>nomatch z))]
  exact ec
end
section
variable {X:Cx}{pins:List (Addr×Obj)}{σ:St}{H:Hp}{s:Shared}{a:Addr}{kvs:List (Key×V)}{k:Key}{u:Value}{A:Around}{E:Value->Shared->Prop}
theorem d_len {Q:Value->Shared->Prop}(I:Inv X pins σ H s) (e:Rd H a (.dK kvs)) (h:∀t s',Inv X pins σ H s'->Q (.int kvs.length t) s'):wpAny (model X.prog X.w) A (call (.builtin "len") [.ref a]) Q E s:=by
 obtain⟨z,hd,vs,rel,dd⟩:=dk_rd I.hok e
 refine call_len_dict hd dd (by rw[<- rel.length];rw[sizeLine_eq] at z;lia) ?_
 rw[<- rel.length]
 exact h _ _ (I.tok _)
end
def NoSl (i:Expr):Prop:=∀ov iv,subscripted i false ov iv=operate [ov,iv] (getItem ov iv)
theorem subD_of {prog:Program}{w:World}{A:Around}{E:Value->Shared->Prop}{s:Shared}{env:Env}{value slice:Expr}{pos:Pos}{T id:String}{Q:Value->Shared->Prop}
  (hl:typeLookup (.type T) "__getitem__" = pure (some (.builtin id))) (hs:NoSl slice)
  (h:wpAny (model prog w) A (eval value env) (λo s₁=>wpAny (model prog w) A (eval slice env) (λi s₂=>s₂.TypeIs o T/\wpAny (model prog w) A (getItem o i) Q E s₂) E s₁) E s) :
  wpAny (model prog w) A (eval (.Subscript value slice pos) env) Q E s:=by
 refine Subscript_ (wpAny_mono h (λo s₁ h₁=>wpAny_mono h₁ (λi s₂ h₂=>?_) λ_ _ x=>x) λ_ _ x=>x)
 obtain⟨hT,h₂⟩:=h₂
 unfold subscriptTail
 refine wpAny_bind ?_
 rw[getitemInPython_of_ne hT.not_modules]
 refine wpAny_bind (wpAny_specialOf hT hl ?_)
 have fin:wpAny (model prog w) A (subscripted slice false o i) (λr s₃=>wpAny (model prog w) A (letTemporaryGo value o r >>= λ_=>pure r) Q E s₃) E s₂:=by
  rw[hs o i]
  exact wpAny_operating (wpAny_mono h₂ (λr s₃ h₃=>wpAny_bind (wpAny_letTemporaryGo (wpAny_pure h₃))) λ_ _ x=>x)
 first
  |exact wpAny_pure (wpAny_bind fin)
  |exact wpAny_bind (wpAny_pure (wpAny_bind fin))
  |exact wpAny_bind fin
theorem dict_typeIs {X:Cx}{pins:List (Addr×Obj)}{σ:St}{H:Hp}{s:Shared}{a:Addr}{y:V}{o:Option V}(I:Inv X pins σ H s) (g:DGet H a y o):s.TypeIs (.ref a) "dict":=by
 rcases g with ⟨kvs,k,e,_,_⟩|⟨kvs,k,b,e,_,_,_⟩
 ·obtain⟨_,_,vs,_,dd⟩:=dk_rd I.hok e
  exact dd.typeIs
 ·obtain⟨_,_,xs,_,dd⟩:=dt_rd I.hok e
  exact dd.typeIs
def tDGet (td ty:TE):TE:=λσ H Q=>td σ H λx H1=>ty σ H1 λy H2=>∃a v,x=.ref a/\DGet H2 a y (some v)/\Q v H2
def tDIn (ty td:TE):TE:=λσ H Q=>ty σ H λy H1=>td σ H1 λx H2=>∃a o,x=.ref a/\DGet H2 a y o/\Q (.bl o.isSome) H2
def tDNotIn (ty td:TE):TE:=λσ H Q=>ty σ H λy H1=>td σ H1 λx H2=>∃a o,x=.ref a/\DGet H2 a y o/\Q (.bl (!o.isSome)) H2
def sDPut (td ty tv:TE):TS:=λD σ H=>tv σ H λv H1=>td σ H1 λx H2=>ty σ H2 λy H3=>∃a H4,x=.ref a/\DPut H3 a y v H4/\D.nx σ H4
section
variable {X:Cx}{o i e value:Expr}{pos pos' tpos:Pos}{td ty tv:TE}
theorem pe_dget (hu:X.A.units+1<cLine) (ho:PE X o td) (hi:PE X i ty) (hs:NoSl i):PE X (.Subscript o i pos) (tDGet td ty):=by
 intro pins s σ H Q I h
 refine subD_of PySem.F.slot_dict_getitem.lookup hs (thn (ho pins s σ H _ I h) λu s1 ⟨x,H1,I1,rx,q1⟩=>thn (hi pins s1 σ H1 _ I1 q1) λiv s2 ⟨y,H2,I2,ry,a,v,ex,g,q2⟩=>?_)
 subst ex
 obtain rfl:u=Value.ref a:=rx
 exact⟨dict_typeIs I2 g,d_getItem hu I2 g ry λw' s3 I3 rw'=>⟨v,H2,I3,rw',q2⟩⟩
theorem pc_din (hu:X.A.units+1<cLine) (hi:PE X i ty) (ho:PE X o td):PC X .In i o (tDIn ty td):=by
 intro pins s σ H Q I h
 refine thn (hi pins s σ H _ I h) λiv s1 ⟨y,H1,I1,ry,q1⟩=>thn (ho pins s1 σ H1 _ I1 q1) λu s2 ⟨x,H2,I2,rx,a,ov,ex,g,q2⟩=>?_
 subst ex
 obtain rfl:u=Value.ref a:=rx
 exact d_in hu I2 g ry λs3 I3=>⟨.bl ov.isSome,H2,I3,rfl,q2⟩
theorem pc_dnotin (hu:X.A.units+1<cLine) (hi:PE X i ty) (ho:PE X o td):PC X .NotIn i o (tDNotIn ty td):=by
 intro pins s σ H Q I h
 refine thn (hi pins s σ H _ I h) λiv s1 ⟨y,H1,I1,ry,q1⟩=>thn (ho pins s1 σ H1 _ I1 q1) λu s2 ⟨x,H2,I2,rx,a,ov,ex,g,q2⟩=>?_
 subst ex
 obtain rfl:u=Value.ref a:=rx
 exact d_notIn hu I2 g ry λs3 I3=>⟨.bl (!ov.isSome),H2,I3,rfl,q2⟩
theorem ps_dput (hu:X.A.units+1<cLine) (ho:PE X o td) (hi:PE X i ty) (hv:PE X value tv) (hs:swapsWith value (some (.Subscript o i pos')) pos.line X.env=pure false) :
  PS X (.Assign [.Subscript o i pos'] value pos) (sDPut td ty tv):=by
 intro pins s σ H D I h
 refine wpAny_Assign_Subscript (thn (hv pins s σ H _ I h) λr s1 ⟨v,H1,I1,rv,q1⟩=>thn (ho pins s1 σ H1 _ I1 q1) λu s2 ⟨x,H2,I2,rx,q2⟩=>thn (hi pins s2 σ H2 _ I2 q2) λiv s3 ⟨y,H3,I3,ry,a,H4,ex,g,q3⟩=>?_) hs
 subst ex
 obtain rfl:u=Value.ref a:=rx
 exact d_setItem hu I3 g ry rv λs4 I4=>⟨σ,H4,I4,q3⟩
end
theorem dk_empty {P:Program}{w:World}{H:Hp}(h:Heap) (hb:sysModules<h.objs.size):ObjOk P w H (h.push { cls:=.type "dict",data:=.dict #[] }) h.objs.size (.dK []):=
 ⟨Nat.zero_le _,beq_eq_false_iff_ne.mpr (Ne.symm (Nat.ne_of_lt hb)),[],.nil,Heap.DictOf.new h⟩
theorem dt_empty {P:Program}{w:World}{H:Hp}(h:Heap) (hb:sysModules<h.objs.size):ObjOk P w H (h.push { cls:=.type "dict",data:=.dict #[] }) h.objs.size (.dT []):=
 ⟨Nat.zero_le _,beq_eq_false_iff_ne.mpr (Ne.symm (Nat.ne_of_lt hb)),[],.nil,_,#[],0,Heap.get?_push_size _ rfl,⟨rfl,rfl,rfl⟩,rfl,rfl,List.nodup_nil⟩
def tDNewT:TE:=λ_ H Q=>∀p,H p=none->Q (.ref p) (upd H p (.dT []))
section
variable {X:Cx}{pos:Pos}
theorem pe_dnewT:PE X (.Dict [] [] pos) tDNewT:=λpins s σ H Q I h=>
 wpAny_Dict_empty ⟨.ref s.heap.objs.size,_,I.laid (a:=s.heap.objs.size) (o:=.dT []) (t':=s.toks) (λ_ _ q=>Heap.get?_push_of_some _ q) (Nat.le_refl _) (dt_empty s.heap I.big),rfl,h _ (I.hok.fresh (Nat.le_refl _))⟩
end
def tPairs:List (TE×TE)->St->Hp->(List (V×V)->Hp->Prop)->Prop
 |[],_,H,Q=>Q [] H
 |(tk,tv)::r,σ,H,Q=>tk σ H λx H1=>tv σ H1 λy H2=>tPairs r σ H2 λps H3=>Q ((x,y)::ps) H3
abbrev VV:List (V×V)->List (Value×Value)->Prop:=Paired λp q=>RelV p.1 q.1/\RelV p.2 q.2
def PPs (X:Cx) (pos:Pos) (keys:List (Option Expr)) (values:List Expr) (trs:List (TE×TE)):Prop:=
 ∀(pins:List (Addr×Obj)) (s:Shared) (σ:St) (H:Hp) (Q:List (V×V)->Hp->Prop),Inv X pins σ H s->tPairs trs σ H Q ->
  wpAny (model X.prog X.w) X.A (evalPairs (pairTrees keys values X.env pos)) (λvs s'=>∃ps H',Inv X pins σ H' s'/\VV ps vs/\Q ps H') X.xe s
theorem pps_nil {X:Cx}{pos:Pos}:PPs X pos [] [] []:=λpins s σ H Q I h=>pairTrees_nil_walk ⟨[],H,I,.nil,h⟩
theorem pps_cons {X:Cx}{pos:Pos}{k v:Expr}{ks:List (Option Expr)}{vs:List Expr}{tk tv:TE}{trs:List (TE×TE)}(hk:PE X k tk) (hv:PE X v tv) (hr:PPs X pos ks vs trs) :
  PPs X pos (some k::ks) (v::vs) ((tk,tv)::trs):=λpins s σ H Q I h=>
 pairTrees_cons_walk (thn (hk pins s σ H _ I h) λu s1 ⟨x,H1,I1,rx,q1⟩=>thn (hv pins s1 σ H1 _ I1 q1) λw2 s2 ⟨y,H2,I2,ry,q2⟩=>
  thn (hr pins s2 σ H2 _ I2 q2) λws s3 ⟨ps,H3,I3,rel,q3⟩=>⟨(x,y)::ps,H3,I3,.cons ⟨rx,ry⟩ rel,q3⟩)
def mergeK (kvs more:List (Key×V)):List (Key×V):=more.foldl (λacc kv=>putK acc kv.1 kv.2) kvs
theorem KV.merge:∀{more:List (Key×V)}{rs:List (Key×Value)}{kvs:List (Key×V)}{vs:List (Key×Value)},KV more rs->KV kvs vs->KV (mergeK kvs more) (merged vs rs):=by
 intro more rs kvs vs r
 unfold KV at r
 induction r generalizing kvs vs with
 |nil=>intro q;exact q
 |@cons p q ps qs h t ih=>
  intro r0
  have e:KV (putK kvs p.1 p.2) (stored vs q.1 q.2):=by
   have:=r0.put p.1 h.2
   rw[<- h.1];exact this
  exact ih e
theorem length_mergeK:∀(more kvs:List (Key×V)),(mergeK kvs more).length<=kvs.length+more.length
 |[],kvs=>by show kvs.length<=kvs.length+0;lia
 |p::r,kvs=>by
  have h1:=length_mergeK r (putK kvs p.1 p.2)
  have h2:=length_putK kvs p.1 p.2
  show (mergeK (putK kvs p.1 p.2) r).length<=_
  rw[List.length_cons];lia
theorem carries_of {P:Program}{w:World}:∀{kvs:List (Key×V)}{ws:List (Value×Value)},VV (kvs.map λkv=>(kV kv.1,kv.2)) ws->∃rs,Carries (mixKind P w) ws rs/\KV kvs rs
 |[],_,r=>by rw[List.map_nil] at r;cases r;exact⟨[],True.intro,.nil⟩
 |p::kvs,_,r=>by
  rw[List.map_cons] at r
  cases r with
  |@cons a b as bs h t=>
   obtain⟨rs,c,q⟩:=carries_of (P:=P) (w:=w) t
   obtain⟨b1,b2⟩:=b
   exact⟨(p.1,b2)::rs,⟨kV_is h.1,rfl,c⟩,.cons ⟨rfl,h.2⟩ q⟩
def tDisp (trs:List (TE×TE)):TE:=λσ H Q=>∀p,H p=none->tPairs trs σ (upd H p (.dK [])) λps H2=>H2 p=some (.dK [])/\∃kvs:List (Key×V),ps=kvs.map (λkv=>(kV kv.1,kv.2))/\kvs.length<=15/\Q (.ref p) (upd H2 p (.dK (mergeK [] kvs)))
theorem pe_disp {X:Cx}{pos:Pos}{keys:List (Option Expr)}{values:List Expr}{trs:List (TE×TE)}(h:PPs X pos keys values trs) (hall:keys.all (·.isSome)=true) (hl:keys.length=values.length) (h0:keys≠[])
  (h15:keys.length<=15):PE X (.Dict keys values pos) (tDisp trs):=by
 intro pins s σ H Q I q
 have hn:=I.hok.fresh (Nat.le_refl s.heap.objs.size)
 have I1:=I.laid (a:=s.heap.objs.size) (o:=.dK []) (h':=s.heap.push { cls:=.type "dict",data:=.dict #[] }) (t':=s.toks) (λ_ _ q=>Heap.get?_push_of_some _ q) (Nat.le_refl _) (dk_empty s.heap I.big)
 refine wpAny_Dict_walk (knd:=mixKind X.prog X.w) hall hl h0 h15 (thn (h pins _ σ _ _ I1 (q _ hn)) λws s2 ⟨ps,H2,I2,rel,e,kvs,ep,lk,q2⟩=>?_)
 subst ep
 obtain⟨rs,c,rk⟩:=carries_of (P:=X.prog) (w:=X.w) rel
 obtain⟨z,hd,vs0,r0,dd⟩:=dk_of I2.hok e
 cases r0
 refine⟨rs,c,dd,λh' dd' hs=>⟨.ref s.heap.objs.size,_,?_,rfl,q2⟩⟩
 have hz:(mergeK [] kvs).length<=sizeLine:=by
  have h1:=length_mergeK kvs []
  rw[List.length_nil] at h1
  rw[sizeLine_eq];lia
 have he:∃q,h'.get? s.heap.objs.size=some q:=let ⟨q,_,_,hq,_⟩:=dd';⟨q,hq⟩
 exact d_write I2 (by rw[e];exact True.intro) hs he (dk_new hz hd (rk.merge .nil) dd')
section
variable {X:Cx}{pins:List (Addr×Obj)}{σ:St}{H:Hp}{s:Shared}{a:Addr}{y d:V}{u r:Value}{o:Option V}{A:Around}{E:Value->Shared->Prop}
end
section
variable {X:Cx}{o e f:Expr}{apos cpos:Pos}{td ty tx:TE}
end
section
variable {X:Cx}{pins:List (Addr×Obj)}{σ:St}{H:Hp}{s:Shared}{a:Addr}{kvs:List (Key×V)}{A:Around}{E:Value->Shared->Prop}
end
section
variable {X:Cx}{pins:List (Addr×Obj)}{σ:St}{H:Hp}{s:Shared}{a:Addr}{y:V}{u:Value}{A:Around}{E:Value->Shared->Prop}
end
section
variable {X:Cx}
theorem call_lenD:CallR X (.builtin "len") (λxs H Q=>∃a kvs,xs=[V.ref a]/\H a=some (.dK kvs)/\Q (.int kvs.length) H):=by
 intro pins s σ H xs us Q I r h
 obtain⟨a,kvs,rfl,ha,q⟩:=h
 obtain⟨u,rfl,ru⟩:=vals1 r
 cases ru
 exact d_len I (.inl ha) λt s' I'=>⟨.int kvs.length,H,I',⟨t,rfl⟩,q⟩
end
section
variable {κ:Type}[DecidableEq κ]
end
end L2
namespace SetT
open PySem
def g:Nat->Nat
 |0=>0
 |n+1=>5*g n+1
def F:Nat->Nat->Nat
 |0,x=>x
 |n+1,x=>5*F n x+1
theorem F_eq (n x:Nat):F n x=x+g n*(4*x+1):=by
 induction n with
 |zero=>simp[F,g]
 |succ n ih=>
  show 5*F n x+1=x+(5*g n+1)*(4*x+1)
  rw[ih,Nat.add_mul,Nat.one_mul,Nat.mul_assoc]
  lia
theorem F_add (m n x:Nat):F (m+n) x=F m (F n x):=by
 induction m with
 |zero=>simp[F]
 |succ m ih=>
  rw[Nat.succ_add]
  show 5*F (m+n) x+1=5*F m (F n x)+1
  rw[ih]
theorem g_F (n:Nat):g n=F n 0:=by
 rw[F_eq];simp
theorem g_add (m n:Nat):g (m+n)=g n+g m*(4*g n+1):=by
 rw[g_F,F_add,F_eq m,<- g_F n]
theorem g_pow:∀k:Nat,∃c,g (2^k)=2^k*(2*c+1)
 |0=>⟨0,rfl⟩
 |k+1=>by
  obtain⟨c,hc⟩:=g_pow k
  have e:g (2^(k+1))=g (2^k)*(4*g (2^k)+2):=by
   rw[Nat.pow_succ,Nat.mul_two,g_add]
   generalize g (2^k)=y
   rw[Nat.mul_add,Nat.mul_add]
   lia
  rw[e,hc]
  refine⟨2^k*(2*c+1)*(2*c+1)+c,?_⟩
  rw[Nat.pow_succ]
  generalize 2^k=p
  have h1:p*(2*c+1)*(4*(p*(2*c+1))+2)=p*2*((2*c+1)*(2*(p*(2*c+1))+1)):=by
   have:4*(p*(2*c+1))+2=2*(2*(p*(2*c+1))+1):=by lia
   rw[this,Nat.mul_assoc,Nat.mul_assoc,Nat.mul_left_comm (2*c+1) 2]
  rw[h1]
  congr 1
  rw[Nat.mul_add,Nat.mul_one,Nat.mul_left_comm,Nat.mul_comm (2*c+1) (p*(2*c+1))]
  lia
theorem low_bit (k a q:Nat):(2^k*a+q)%2^(k+1)=(2^k*(a%2)+q)%2^(k+1):=by
 have ha:a=2*(a/2)+a%2:=by lia
 have:2^k*a+q=(2^k*(a%2)+q)+2^(k+1)*(a/2):=by
  have h:2^k*a+q=2^k*(2*(a/2)+a%2)+q:=by rw[<- ha]
  rw[h,Nat.pow_succ,Nat.mul_add,Nat.mul_assoc]
  lia
 rw[this,Nat.add_mul_mod_self_left]
theorem cover:∀(k x y:Nat),∃r,r<2^k/\F r x%2^k=y%2^k
 |0,x,y=>⟨0,by decide,by simp[Nat.mod_one]⟩
 |k+1,x,y=>by
  obtain⟨r,hr,e⟩:=cover k x y
  have hp:0<2^k:=Nat.two_pow_pos k
  have h2:(2:Nat)^(k+1)=2^k+2^k:=by rw[Nat.pow_succ,Nat.mul_two]
  obtain⟨c,hc⟩:=g_pow k
  have e2:F (2^k+r) x=F r x+2^k*(2*c+1)*(4*F r x+1):=by
   rw[F_add,F_eq (2^k),hc]
  have y1:2^k*(y/2^k)+y%2^k=y:=Nat.div_add_mod y _
  have z1:2^k*(F r x/2^k)+F r x%2^k=F r x:=Nat.div_add_mod _ _
  by_cases h:F r x/2^k%2=y/2^k%2
  ·refine⟨r,by lia,?_⟩
   rw[<- z1,<- y1,low_bit,h,<- low_bit,e]
  ·refine⟨2^k+r,by lia,?_⟩
   rw[e2]
   generalize F r x=z at *
   have o:(2*c+1)*(4*z+1)=2*(c*(4*z+1)+2*z)+1:=by
    rw[Nat.add_mul,Nat.one_mul,Nat.mul_assoc]
    lia
   have e3:z+2^k*(2*c+1)*(4*z+1)=2^k*(z/2^k+(2*(c*(4*z+1)+2*z)+1))+z%2^k:=by
    rw[Nat.mul_assoc,o,Nat.mul_add (2^k) (z/2^k)]
    lia
   rw[e3,<- y1,low_bit,e]
   have e4:(z/2^k+(2*(c*(4*z+1)+2*z)+1))%2=y/2^k%2:=by lia
   rw[e4,<- low_bit]
def starts (mask:Nat):Nat->Nat->Nat->Nat
 |0,i,_=>i
 |r+1,i,p=>starts mask r (SetTable.leap mask i p).1 (SetTable.leap mask i p).2
theorem starts_calm (k:Nat):∀(r i:Nat),starts (2^k-1) r (i%2^k) 0=F r i%2^k
 |0,i=>rfl
 |r+1,i=>by
  have hp:0<2^k:=Nat.two_pow_pos k
  show starts (2^k-1) r ((i%2^k*5+1+0/32)%(2^k-1+1)) (0/32)=_
  have e1:2^k-1+1=2^k:=by lia
  have e2:(i%2^k*5+1+0/32)%2^k=(5*i+1)%2^k:=by
   simp only[Nat.zero_div,Nat.add_zero]
   rw[Nat.add_mod,Nat.mul_mod,Nat.mod_mod,<- Nat.mul_mod,<- Nat.add_mod,Nat.mul_comm]
  rw[e1,e2,Nat.zero_div,starts_calm k r (5*i+1)]
  have:F r (5*i+1)=F (r+1) i:=by rw[F_add r 1 i];rfl
  rw[this]
theorem starts_add (mask:Nat):∀(a b i p:Nat),starts mask (a+b) i p=starts mask b (starts mask a i p) (p/32^a)
 |0,b,i,p=>by simp[starts]
 |a+1,b,i,p=>by
  rw[Nat.succ_add]
  show starts mask (a+b) _ _=starts mask b (starts mask a _ _) _
  rw[starts_add mask a b]
  show starts mask b _ (p/32/32^a)=_
  rw[Nat.div_div_eq_div_mul,Nat.pow_succ,Nat.mul_comm (32^a) 32]
theorem starts_lt (mask:Nat):∀(a i p:Nat),i<mask+1->starts mask a i p<mask+1
 |0,i,p,h=>h
 |a+1,i,p,_=>starts_lt mask a _ _ (Nat.mod_lt _ (Nat.succ_pos _))
theorem starts_meet (k i p j:Nat) (hi:i<2^k) (hp:p<2^64) (hj:j<2^k):∃r,r<13+2^k/\starts (2^k-1) r i p=j:=by
 have hk:0<2^k:=Nat.two_pow_pos k
 have hl:=starts_lt (2^k-1) 13 i p (by lia)
 obtain⟨r,hr,e⟩:=cover k (starts (2^k-1) 13 i p) j
 refine⟨13+r,by lia,?_⟩
 rw[starts_add]
 have hz:p/32^13=0:=Nat.div_eq_of_lt (Nat.lt_trans hp (by decide))
 have hm:starts (2^k-1) 13 i p=starts (2^k-1) 13 i p%2^k:=(Nat.mod_eq_of_lt (by lia)).symm
 rw[hz,hm,starts_calm,e,Nat.mod_eq_of_lt hj]
theorem runEnd_le (mask i:Nat):SetTable.runEnd mask i-i<=9:=by unfold SetTable.runEnd;split<;>lia
def adv (t:SetTable):Nat->SetTable.Probe->SetTable.Probe
 |0,p=>p
 |n+1,p=>adv t n (t.advance p)
theorem adv_run (t:SetTable):∀(m:Nat) (p:SetTable.Probe),m<=p.more->adv t m p={ p with j:=p.j+m,more:=p.more-m }
 |0,p,_=>by simp[adv]
 |m+1,p,h=>by
  have e:t.advance p={ p with j:=p.j+1,more:=p.more-1 }:=by
   unfold SetTable.advance
   rw[if_pos (by lia)]
  show adv t m (t.advance p)=_
  rw[e,adv_run t m _ (by show m<=p.more-1;lia)]
  show SetTable.Probe.mk _ _ _ _ _=SetTable.Probe.mk _ _ _ _ _
  congr 1
  ·show p.j+1+m=p.j+(m+1);lia
  ·show p.more-1-m=p.more-(m+1);lia
theorem adv_add (t:SetTable):∀(a b:Nat) (p:SetTable.Probe),adv t (a+b) p=adv t b (adv t a p)
 |0,b,p=>by simp[adv]
 |a+1,b,p=>by rw[Nat.succ_add];exact adv_add t a b _
structure Head (t:SetTable) (i perturb:Nat) (d:Option Nat) (p:SetTable.Probe):Prop where
 e:p={ j:=i,more:=SetTable.runEnd t.mask i-i,i:=i,perturb:=perturb,dummy:=d }
theorem head_next {t:SetTable}{i q:Nat}{d:Option Nat}{p:SetTable.Probe}(h:Head t i q d p):∃n,n<=10/\Head t (SetTable.leap t.mask i q).1 (SetTable.leap t.mask i q).2 d (adv t n p):=by
 have hr:=runEnd_le t.mask i
 refine⟨(SetTable.runEnd t.mask i-i)+1,by lia,⟨?_⟩⟩
 rw[adv_add,adv_run t _ p (by rw[h.e];exact Nat.le_refl _)]
 show t.advance _=_
 rw[h.e]
 unfold SetTable.advance
 rw[if_neg (by show ¬(SetTable.runEnd t.mask i-i)-(SetTable.runEnd t.mask i-i)>0;lia)]
theorem head_at {t:SetTable}{d:Option Nat}:∀(r:Nat){i q:Nat}{p:SetTable.Probe},Head t i q d p->∃n,n<=10*r/\(adv t n p).j=starts t.mask r i q/\(adv t n p).dummy=d
 |0,i,q,p,h=>⟨0,Nat.le_refl _,by show p.j=i;rw[h.e],by show p.dummy=d;rw[h.e]⟩
 |r+1,i,q,p,h=>by
  obtain⟨n,hn,h1⟩:=head_next h
  obtain⟨m,hm,e1,e2⟩:=head_at r h1
  exact⟨n+m,by lia,by rw[adv_add];exact e1,by rw[adv_add];exact e2⟩
theorem adv_dummy (t:SetTable):∀(n:Nat) (p:SetTable.Probe),(adv t n p).dummy=p.dummy
 |0,p=>rfl
 |n+1,p=>by
  show (adv t n (t.advance p)).dummy=_
  rw[adv_dummy t n]
  unfold SetTable.advance
  split<;>rfl
theorem bits_lt (h:Int):SetTable.bits h<2^64:=by
 unfold SetTable.bits
 have:=Int.emod_lt_of_pos h (show (0:Int)<2^64 by decide)
 have h0:=Int.emod_nonneg h (show (2^64:Int)≠0 by decide)
 lia
theorem meet {t:SetTable}{k:Nat}(hm:t.mask=2^k-1) (h:Int){j:Nat}(hj:j<2^k):∃n,n<10*SetTable.turns t.mask/\(adv t n (t.probeStart h)).j=j:=by
 have hk:0<2^k:=Nat.two_pow_pos k
 have hd:Head t (SetTable.bits h%(t.mask+1)) (SetTable.bits h) none (t.probeStart h):=⟨rfl⟩
 obtain⟨r,hr,e⟩:=starts_meet k (SetTable.bits h%(t.mask+1)) (SetTable.bits h) j (by rw[hm];have:=Nat.mod_lt (SetTable.bits h) hk;rw[show 2^k-1+1=2^k by lia];exact this) (bits_lt h) hj
 obtain⟨n,hn,e1,_⟩:=head_at r hd
 refine⟨n,?_,by rw[e1];rw[<- hm] at e;exact e⟩
 unfold SetTable.turns
 lia
theorem has_none (j:Nat):SetTable.has #[] j=false:=by
 unfold SetTable.has
 simp
theorem slot_of {t:SetTable}(hd:t.dummies=#[]) (j:Nat):(t.slot j=.empty)\/∃i,t.slot j=.live i/\t.place[i]?=some j:=by
 unfold SetTable.slot
 simp only
 split
 ·rename_i h
  exact .inr ⟨_,rfl,by simpa using h⟩
 ·rw[hd,has_none]
  exact .inl rfl
theorem slot_free {t:SetTable}(hd:t.dummies=#[]){j:Nat}(h:j∉t.place.toList):t.slot j=.empty:=by
 rcases slot_of hd j with e|⟨i,_,e⟩
 ·exact e
 ·refine absurd ?_ h
  have:=Array.mem_of_getElem? e
  simpa using this
theorem pigeon:∀(n:Nat) (l:List Nat),l.length<n->∃j,j<n/\j∉l
 |0,l,h=>absurd h (Nat.not_lt_zero _)
 |n+1,l,h=>by
  by_cases hn:n∈l
  ·obtain⟨j,hj,hl⟩:=pigeon n (l.erase n) (by rw[List.length_erase_of_mem hn];have:=List.length_pos_of_mem hn;lia)
   refine⟨j,by lia,λm=>hl ?_⟩
   exact (List.mem_erase_of_ne (by lia)).mpr m
  ·exact⟨n,Nat.lt_succ_self n,hn⟩
structure Grown (t:SetTable) (n:Nat):Prop where
 pl:t.place.size=n
 du:t.dummies=#[]
 ma:∃k,t.mask=2^k-1/\1<=k
 le:n<=t.mask
theorem Grown.fill {t:SetTable}{n:Nat}(h:Grown t n):t.fill=n:=by unfold SetTable.fill;rw[h.pl,h.du];rfl
theorem Grown.way {t:SetTable}{n:Nat}(h:Grown t n):t.gaveWay=false:=by
 obtain⟨k,e,hk⟩:=h.ma
 unfold SetTable.gaveWay
 rw[e]
 obtain⟨k,rfl⟩:∃m,k=m+1:=⟨k-1,by lia⟩
 have:=Nat.two_pow_pos k
 have e2:(2^(k+1)-1)%2=1:=by rw[Nat.pow_succ];lia
 rw[e2]
 rfl
theorem Grown.meets {t:SetTable}{n:Nat}(g:Grown t n) (h:Int):∃m,m<10*SetTable.turns t.mask/\t.slot (adv t m (t.probeStart h)).j=.empty:=by
 obtain⟨k,e,_⟩:=g.ma
 have hk:=Nat.two_pow_pos k
 obtain⟨j,hj,hl⟩:=pigeon (2^k) t.place.toList (by simp only[Array.length_toList,g.pl];have:=g.le;lia)
 obtain⟨m,hm,ej⟩:=meet e h hj
 exact⟨m,hm,by rw[ej];exact slot_free g.du hl⟩
theorem go_some {t:SetTable}(hd:t.dummies=#[]) (hashAt:Nat->Int) (h:Int):∀(f m:Nat) (p:SetTable.Probe),m<f->p.dummy=none->t.slot (adv t m p).j=.empty ->
  (∃j,SetTable.probe.go t hashAt h f p=some (.empty j none)) \/
  (∃m' j i,m'<m/\SetTable.probe.go t hashAt h f p=some (.candidate j i (adv t (m'+1) p))/\t.slot j=.live i/\t.place[i]?=some j/\hashAt i=h)
 |0,m,p,h1,_,_=>absurd h1 (Nat.not_lt_zero _)
 |f+1,m,p,h1,hp,he=>by
  unfold SetTable.probe.go
  rcases slot_of hd p.j with e|⟨i,e,e2⟩
  ·rw[e]
   exact .inl ⟨p.j,by rw[hp]⟩
  ·rw[e]
   cases m with
   |zero=>
    have he':t.slot p.j=.empty:=he
    rw[e] at he';cases he'
   |succ m=>
    by_cases hc:hashAt i==h
    ·refine .inr ⟨0,p.j,i,Nat.succ_pos _,?_,e,e2,by simpa using hc⟩
     simp only
     rw[if_pos hc]
     rfl
    ·simp only
     rw[if_neg hc]
     rcases go_some hd hashAt h f m (t.advance p) (by lia) (by rw[<- hp];exact adv_dummy t 1 p) he with ⟨j,ej⟩|⟨m',j,i',hm',ej,r⟩
     ·exact .inl ⟨j,ej⟩
     ·exact .inr ⟨m'+1,j,i',by lia,ej,r⟩
theorem size_insertAt {α:Type}(xs:Array α) (p:Nat) (x:α):(SetTable.insertAt xs p x).size=xs.size+1:=by
 unfold SetTable.insertAt
 simp
 lia
theorem mem_insertAt {α:Type}{xs:Array α}{p:Nat}{x y:α}(h:y∈SetTable.insertAt xs p x):y=x\/y∈xs:=by
 unfold SetTable.insertAt at h
 rcases Array.mem_append.mp h with h|h
 ·rcases Array.mem_push.mp h with h|h
  ·obtain⟨i,hi,e⟩:=Array.mem_extract_iff_getElem.mp h
   exact .inr (by rw[<- e];exact Array.getElem_mem _)
  ·exact .inl h
 ·obtain⟨i,hi,e⟩:=Array.mem_extract_iff_getElem.mp h
  exact .inr (by rw[<- e];exact Array.getElem_mem _)
theorem Grown.put {t:SetTable}{n:Nat}(g:Grown t n) (hf:t.tooFull=false) (j:Nat):Grown (t.put j).1 (n+1):=by
 have e:(t.put j).1={ t with place:=SetTable.insertAt t.place (SetTable.below t.place j) j }:=by
  unfold SetTable.put
  simp only
  rw[g.du,has_none]
  simp[g.du]
 rw[e]
 refine⟨by rw[size_insertAt,g.pl],g.du,g.ma,?_⟩
 show n+1<=t.mask
 unfold SetTable.tooFull at hf
 rw[g.fill] at hf
 have:=of_decide_eq_false hf
 lia
theorem free_some {mask:Nat}{owner:Array (Option Nat)}:∀(f r i p:Nat),r<f->(owner.getD (starts mask r i p) (some 0)).isNone=true ->
  ∃j,SetTable.layClean.free mask owner f i p=some j/\(owner.getD j (some 0)).isNone=true
 |0,r,i,p,h,_=>absurd h (Nat.not_lt_zero _)
 |f+1,r,i,p,h,hn=>by
  unfold SetTable.layClean.free
  cases e:(List.range (SetTable.runEnd mask i+1-i)).find? λk=>(owner.getD (i+k) (some 0)).isNone with
  |some k=>
   have:=List.find?_some e
   exact⟨i+k,rfl,this⟩
  |none=>
   cases r with
   |zero=>
    have h0:∀x∈List.range (SetTable.runEnd mask i+1-i),¬(owner.getD (i+x) (some 0)).isNone=true:=by simpa using e
    have hm:0∈List.range (SetTable.runEnd mask i+1-i):=List.mem_range.mpr (by unfold SetTable.runEnd;split<;>lia)
    exact absurd hn (h0 0 hm)
   |succ r=>exact free_some f r _ _ (by lia) hn
def cnt (owner:Array (Option Nat)):Nat:=(owner.toList.filter Option.isSome).length
theorem cnt_set_list:∀(l:List (Option Nat)) (j k:Nat),l[j]?=some none->((l.set j (some k)).filter Option.isSome).length=(l.filter Option.isSome).length+1
 |[],j,k,h=>by simp at h
 |a::l,0,k,h=>by
  have:a=none:=by simpa using h
  subst this
  simp
 |a::l,j+1,k,h=>by
  have ih:=cnt_set_list l j k (by simpa using h)
  rw[List.set_cons_succ,List.filter_cons,List.filter_cons]
  split
  ·rw[List.length_cons,List.length_cons,ih]
  ·exact ih
theorem none_in:∀(l:List (Option Nat)),(l.filter Option.isSome).length<l.length->∃j:Nat,l[j]?=some none
 |[],h=>by simp at h
 |none::l,_=>⟨0,rfl⟩
 |some a::l,h=>by
  obtain⟨j,hj⟩:=none_in l (by simpa using h)
  exact⟨j+1,by simpa using hj⟩
structure Laid (mask:Nat) (owner:Array (Option Nat)) (K:Nat):Prop where
 sz:owner.size=mask+1
 ct:cnt owner=K
 lt:∀v,some v∈owner.toList->v<K
theorem Laid.step {mask k K:Nat}{owner:Array (Option Nat)}(hm:mask=2^k-1) (g:Laid mask owner K) (hK:K<=mask) (h:Int) :
  ∃j,SetTable.layClean.free mask owner (SetTable.turns mask) (SetTable.bits h%(mask+1)) (SetTable.bits h)=some j/\Laid mask (owner.setIfInBounds j (some K)) (K+1):=by
 have hk:=Nat.two_pow_pos k
 obtain⟨j0,hj0⟩:=none_in owner.toList (by
  have:=g.ct
  unfold cnt at this
  rw[this,Array.length_toList,g.sz]
  lia)
 have hl:j0<mask+1:=by
  have:=(gS_ hj0).1
  rw[Array.length_toList,g.sz] at this
  exact this
 have e1:mask+1=2^k:=by lia
 obtain⟨r,hr,er⟩:=starts_meet k (SetTable.bits h%(mask+1)) (SetTable.bits h) j0 (by rw[<- e1];exact Nat.mod_lt _ (Nat.succ_pos _)) (bits_lt h) (by lia)
 rw[<- hm] at er
 have hgd:∀j,(owner.getD j (some 0)).isNone=true<->owner.toList[j]?=some none:=λj=>by
  rw[Array.getElem?_toList]
  by_cases hj:j<owner.size
  ·simp[Array.getD,hj]
  ·simp[Array.getD,hj]
 obtain⟨j,ej,hj⟩:=free_some (mask:=mask) (owner:=owner) (SetTable.turns mask) r _ _ (by unfold SetTable.turns;lia) (by rw[er];exact (hgd j0).mpr hj0)
 have hj':=(hgd j).mp hj
 refine⟨j,ej,by rw[Array.size_setIfInBounds];exact g.sz,?_,λv hv=>?_⟩
 ·unfold cnt
  rw[Array.toList_setIfInBounds,cnt_set_list _ _ _ hj']
  have:=g.ct
  unfold cnt at this
  rw[this]
 ·rw[Array.toList_setIfInBounds] at hv
  rcases List.mem_or_eq_of_mem_set hv with hv|hv
  ·have:=g.lt v hv;lia
  ·have:v=K:=by simpa using hv
   lia
theorem lay_fold {mask k:Nat}(hm:mask=2^k-1):∀(hs:List Int) (owner:Array (Option Nat)) (K:Nat),Laid mask owner K->K+hs.length<=mask ->
  ∃owner',(hs.foldl (λ(acc:Option (Array (Option Nat)×Nat)) (h:Int)=>do
   let (owner,k) <- acc
   let j <- SetTable.layClean.free mask owner (SetTable.turns mask) (SetTable.bits h%(mask+1)) (SetTable.bits h)
   pure (owner.setIfInBounds j (some k),k+1)) (some (owner,K)))=some (owner',K+hs.length)/\Laid mask owner' (K+hs.length)
 |[],owner,K,g,_=>⟨owner,rfl,g⟩
 |h::hs,owner,K,g,hl=>by
  rw[List.length_cons] at hl
  obtain⟨j,ej,g'⟩:=g.step hm (by lia) h
  obtain⟨o',e',g''⟩:=lay_fold hm hs _ (K+1) g' (by lia)
  refine⟨o',?_,by rw[List.length_cons,show K+(hs.length+1)=K+1+hs.length by lia];exact g''⟩
  rw[List.foldl_cons,List.length_cons,show K+(hs.length+1)=K+1+hs.length by lia,<- e']
  congr 1
  show (SetTable.layClean.free mask owner (SetTable.turns mask) (SetTable.bits h%(mask+1)) (SetTable.bits h)).bind _=_
  rw[ej]
  rfl
theorem lay_all {mask k:Nat}(hm:mask=2^k-1) (hs:Array Int) (hl:hs.size<=mask):∃owner,SetTable.layClean mask hs=some owner/\Laid mask owner hs.size:=by
 have g0:Laid mask (Array.replicate (mask+1) none) 0:=⟨by simp,by unfold cnt;simp,λv hv=>by simp at hv⟩
 obtain⟨o,e,g⟩:=lay_fold hm hs.toList _ 0 g0 (by simpa using hl)
 refine⟨o,?_,by simpa using g⟩
 unfold SetTable.layClean
 rw[<- Array.foldl_toList,e]
 rfl
theorem fm_congr {α β:Type}{f g:α->Option β}:∀(l:List α),(∀x∈l,f x=g x)->l.filterMap f=l.filterMap g
 |[],_=>rfl
 |a::l,h=>by
  rw[List.filterMap_cons,List.filterMap_cons,h a List.mem_cons_self,fm_congr l λx hx=>h x (List.mem_cons_of_mem _ hx)]
theorem live_len:∀(l:List (Option Nat)) (a:Nat),((List.range' a l.length).filterMap λj=>((l[j-a]?).getD none).map (λv=>(j,v))).length=(l.filter Option.isSome).length
 |[],a=>rfl
 |x::l,a=>by
  rw[List.length_cons,List.range'_succ,List.filterMap_cons]
  have ih:=live_len l (a+1)
  have e:(List.range' (a+1) l.length).filterMap (λj=>(((x::l)[j-a]?).getD none).map (λv=>(j,v)))=(List.range' (a+1) l.length).filterMap λj=>((l[j-(a+1)]?).getD none).map (λv=>(j,v)):=by
   refine fm_congr _ λj hj=>?_
   have:=(List.mem_range'_1.mp hj).1
   obtain⟨d,rfl⟩:∃d,j=a+1+d:=⟨j-(a+1),by lia⟩
   rw[show a+1+d-a=d+1 by lia,show a+1+d-(a+1)=d by lia,List.getElem?_cons_succ]
  rw[e,Nat.sub_self]
  cases x with
  |none=>simpa using ih
  |some v=>simpa using ih
theorem laid_some {mask k finger moves:Nat}{led plain:Bool}(hm:mask=2^k-1) (h1:1<=k) (hs:Array Int) (hl:hs.size<=mask) :
  ∃t order,SetTable.laid mask finger moves led plain hs=some (t,order)/\Grown t hs.size/\t.mask=mask/\t.led=led/\t.moves=moves/\order.size=hs.size/\∀v∈order,v<hs.size:=by
 obtain⟨owner,e,g⟩:=lay_all hm hs hl
 have el:∀a:Nat,(List.range (mask+1)).filterMap (λj=>(owner.getD j none).map (λv=>(j,v)))=(List.range' 0 owner.toList.length).filterMap λj=>((owner.toList[j-0]?).getD none).map (λv=>(j,v)):=λ_=>by
  rw[Array.length_toList,g.sz,<- List.range_eq_range']
  refine fm_congr _ λj hj=>?_
  have hj':=List.mem_range.mp hj
  rw[Nat.sub_zero,Array.getElem?_toList]
  simp[Array.getD,g.sz,hj']
 have len:((List.range (mask+1)).filterMap (λj=>(owner.getD j none).map (λv=>(j,v)))).length=hs.size:=by
  rw[el 0,live_len,<- g.ct]
  rfl
 refine⟨_,_,by unfold SetTable.laid;rw[e];rfl,⟨?_,rfl,⟨k,hm,h1⟩,hl⟩,rfl,rfl,rfl,?_,λv hv=>?_⟩
 ·show ((((List.range (mask+1)).filterMap (λj=>(owner.getD j none).map (λv=>(j,v)))).map (·.1)).toArray).size=_
  rw[List.size_toArray,List.length_map,len]
 ·show ((((List.range (mask+1)).filterMap (λj=>(owner.getD j none).map (λv=>(j,v)))).map (·.2)).toArray).size=_
  rw[List.size_toArray,List.length_map,len]
 ·have hv':v∈((List.range (mask+1)).filterMap (λj=>(owner.getD j none).map (λv=>(j,v)))).map (·.2):=by simpa using hv
  obtain⟨q,hq,rfl⟩:=List.mem_map.mp hv'
  obtain⟨j,hj,ej⟩:=List.mem_filterMap.mp hq
  obtain⟨v',ev,rfl⟩:=Option.map_eq_some_iff.mp ej
  refine g.lt v' ?_
  have hj':=List.mem_range.mp hj
  have:owner[j]'(by rw[g.sz];exact hj')=some v':=by simpa [Array.getD,g.sz,hj'] using ev
  rw[<- this]
  simp
theorem above_pow:∀(f k n:Nat),3<=k->n<2^(k+f)->∃k',SetTable.sizeAbove.go n f (2^k)=2^k'/\3<=k'/\n<2^k'/\(2^k<=2*n+8->2^k'<=2*n+8)
 |0,k,n,hk,h=>⟨k,rfl,hk,h,λz=>z⟩
 |f+1,k,n,hk,h=>by
  unfold SetTable.sizeAbove.go
  by_cases hc:2^k<=n
  ·rw[if_pos hc,<- Nat.pow_succ]
   obtain⟨k',e,h1,h2,h3⟩:=above_pow f (k+1) n (by lia) (by rw[show k+1+f=k+(f+1) by lia];exact h)
   exact⟨k',e,h1,h2,λ_=>h3 (by rw[Nat.pow_succ];lia)⟩
  ·rw[if_neg hc]
   exact⟨k,rfl,hk,by lia,λz=>z⟩
theorem sizeAbove_is {n:Nat}(h:n<2^60):∃k,SetTable.sizeAbove n=2^k/\3<=k/\n<2^k/\2^k<=2*n+8:=by
 obtain⟨k,e,h1,h2,h3⟩:=above_pow 64 3 n (by decide) (Nat.lt_trans h (by decide))
 exact⟨k,e,h1,h2,h3 (by show 8<=2*n+8;lia)⟩
theorem relaid_some {t:SetTable}{hs:Array Int}{wanted:Nat}(hw:wanted<2^60) (hl:hs.size<wanted) :
  ∃t' order,t.relaid hs wanted=some (t',order)/\Grown t' hs.size/\wanted<=t'.mask/\t'.mask<=2*wanted+8/\t'.led=t.led/\order.size=hs.size/\∀v∈order,v<hs.size:=by
 obtain⟨k,e,h1,h2,h3⟩:=sizeAbove_is hw
 have hk:=Nat.two_pow_pos k
 obtain⟨t',order,el,g,em,eled,_,eo,ev⟩:=laid_some (mask:=2^k-1) (k:=k) (finger:=t.finger) (moves:=t.movedTo (2^k-1)) (led:=t.led) (plain:=t.plain) rfl (by lia) hs (by lia)
 refine⟨t',order,?_,g,by rw[em];lia,by rw[em];lia,eled,eo,ev⟩
 unfold SetTable.relaid
 rw[e]
 exact el
theorem size_pick {α:Type}{es:Array α}{order:Array Nat}(h:∀v∈order,v<es.size):(order.filterMap (es[·]?)).size=order.size:=by
 rw[<- Array.length_toList,Array.toList_filterMap,<- Array.length_toList (xs:=order)]
 have:∀l:List Nat,(∀v∈l,v<es.size)->(l.filterMap (es[·]?)).length=l.length:=λl=>by
  induction l with
  |nil=>intro _;rfl
  |cons a l ih=>
   intro hh
   rw[List.filterMap_cons]
   have ha:=hh a List.mem_cons_self
   rw[show es[a]?=some es[a] by simp[ha]]
   simp[ih λv hv=>hh v (List.mem_cons_of_mem _ hv)]
 exact this _ λv hv=>h v (by simpa using hv)
theorem mem_pick {α:Type}{es:Array α}{order:Array Nat}{y:α}(h:y∈order.filterMap (es[·]?)):y∈es:=by
 obtain⟨v,_,e⟩:=Array.mem_filterMap.mp h
 exact Array.mem_of_getElem? e
end SetT
namespace SetT
open PySem PySem.Spec PyProof.Rows
section
variable {prog:Program}{w:World}{K:Type}[DecidableEq K]{knd:KeyKind prog w K}{A:Around}{E:Value->Shared->Prop}{s:Shared}
theorem noClass_byValue (n:Nat){v:Value}(h:carriedByValue v=true):ofAClassStatement n v=pure false:=by
 cases v with
 |ref a=>simp[carriedByValue] at h
 |_=>first|rfl|(unfold ofAClassStatement;rfl)|(cases n<;>rfl)
theorem seqItems?_of {M:Model}{a:Addr}{o:Obj}{items:Array Value}{n:Nat}{Q:Option (Array Value)->Shared->Prop}(ho:s.heap.get? a=some o) (hd:o.data=.seq items n) (h:Q (some items) s) :
  wpAny M A (seqItems? (.ref a)) Q E s:=wpAny_seqItems ho hd h
theorem noClass_tuple {ks:List K}{a:Addr}{Q:Bool->Shared->Prop}(hk:IsTupleKey knd s.heap ks a) (h:Q false s):wpAny (model prog w) A (ofAClassStatement 8 (.ref a)) Q E s:=by
 have hT:=hk.typeIs
 obtain⟨o,items,n,ho,_,hd,hi⟩:=hk
 unfold ofAClassStatement
 refine wpAny_bind (wpAny_typeOf hT ?_)
 show wpAny _ _ ((if ("tuple" == "tuple")=true then pure true else isSubtype (.type "tuple") (.type "tuple")) >>= _) _ _ s
 rw[if_pos (by decide)]
 refine wpAny_bind (wpAny_pure ?_)
 simp only[Bool.not_true,Bool.false_eq_true,if_false]
 refine wpAny_bind (seqItems?_of ho hd ?_)
 dsimp only
 refine wpAny_bind ?_
 show wpAny _ _ (forIn items _ _) _ _ s
 rw[<- Array.forIn_toList]
 refine wpAny_forIn_list _ (λrest r s'=>r.1=none/\s'=s/\∀v∈rest,carriedByValue v=true) _ ?_ ?_ _ _ ⟨rfl,rfl,hi.byValue⟩
 ·rintro v rest r s' ⟨hr,rfl,hall⟩
  rw[noClass_byValue _ (hall v List.mem_cons_self)]
  refine wpAny_bind (wpAny_pure ?_)
  simp only[Bool.false_eq_true,if_false]
  exact wpAny_pure ⟨rfl,rfl,λu hu'=>hall u (List.mem_cons_of_mem _ hu')⟩
 ·rintro⟨r1,r2⟩ s' ⟨hr,rfl,_⟩
  simp only at hr
  subst hr
  exact wpAny_pure h
theorem unseen {ks:List K}{a:Addr}{Q:Bool->Shared->Prop}(hk:IsTupleKey knd s.heap ks a) (h:Q false s){stored:List Value}(hst:∀y∈stored,∃b ks',y=.ref b/\IsTupleKey knd s.heap ks' b) :
  wpAny (model prog w) A (searchCouldBeSeen (.ref a) stored) Q E s:=by
 unfold searchCouldBeSeen
 refine wpAny_bind ?_
 refine wpAny_forIn_list _ (λrest r s'=>r.1=none/\s'=s/\∀y∈rest,∃b ks',y=.ref b/\IsTupleKey knd s.heap ks' b) _ ?_ ?_ _ _ ⟨rfl,rfl,hst⟩
 ·rintro y rest r s' ⟨hr,rfl,hall⟩
  obtain⟨b,ks',rfl,hb⟩:=hall y List.mem_cons_self
  have rest':∀y∈rest,∃b ks',y=.ref b/\IsTupleKey knd s'.heap ks' b:=λu hu'=>hall u (List.mem_cons_of_mem _ hu')
  dsimp only
  split
  ·exact wpAny_pure ⟨rfl,rfl,rest'⟩
  ·refine wpAny_bind (wpAny_eqIsQuiet_tuple hk ?_)
   simp only[Bool.not_true,Bool.false_eq_true,if_false]
   refine wpAny_bind (wpAny_eqIsQuiet_tuple hb ?_)
   simp only[Bool.not_true,Bool.false_eq_true,if_false]
   refine wpAny_bind (noClass_tuple hk ?_)
   simp only[Bool.false_eq_true,if_false]
   refine wpAny_bind (noClass_tuple hb ?_)
   simp only[Bool.false_eq_true,if_false]
   exact wpAny_pure ⟨rfl,rfl,rest'⟩
 ·rintro⟨r1,r2⟩ s' ⟨hr,rfl,_⟩
  simp only at hr
  subst hr
  exact wpAny_pure h
def Hb (v:Value):Prop:=∃b,∀n,hashByValue n v=pure b
theorem Hb.int (k:Int) (t:Tok):Hb (.int k t):=⟨true,λn=>by cases n<;>rfl⟩
theorem Hb.str (x:Str) (t:Tok):Hb (.str x t):=⟨false,λn=>by cases n<;>rfl⟩
theorem hashBy_tuple {a:Addr}{o:Obj}{items:Array Value}{n:Nat}{Q:Bool->Shared->Prop}(ho:s.heap.get? a=some o) (hc:o.cls=.type "tuple") (hd:o.data=.seq items n) (hi:∀v∈items.toList,Hb v) (h:∀b,Q b s) :
  wpAny (model prog w) A (hashByValue 8 (.ref a)) Q E s:=by
 have hT:s.TypeIs (.ref a) "tuple":=⟨o,ho,hc⟩
 unfold hashByValue
 refine wpAny_bind (wpAny_specialOf hT F.slot_tuple_hash.lookup ?_)
 dsimp only
 refine wpAny_bind (seqItems?_of ho hd ?_)
 dsimp only [Option.getD]
 refine wpAny_bind ?_
 show wpAny _ _ (forIn items _ _) _ _ s
 rw[<- Array.forIn_toList]
 refine wpAny_forIn_list _ (λrest r s'=>r.1=none/\s'=s/\∀v∈rest,Hb v) _ ?_ ?_ _ _ ⟨rfl,rfl,hi⟩
 ·rintro v rest r s' ⟨hr,rfl,hall⟩
  obtain⟨b,hb⟩:=hall v List.mem_cons_self
  rw[hb]
  refine wpAny_bind (wpAny_pure ?_)
  cases b with
  |true=>
   simp only[Bool.not_true,Bool.false_eq_true,if_false]
   exact wpAny_pure ⟨rfl,rfl,λu hu'=>hall u (List.mem_cons_of_mem _ hu')⟩
  |false=>
   simp only[Bool.not_false,if_true]
   exact wpAny_pure (wpAny_pure (h false))
 ·rintro⟨r1,r2⟩ s' ⟨hr,rfl,_⟩
  simp only at hr
  subst hr
  exact wpAny_pure (h true)
theorem Grown.fits {t:SetTable}{n:Nat}(g:Grown t n):t.fits n=true:=by
 unfold SetTable.fits
 rw[g.pl,g.fill]
 simp[g.le]
theorem probe_out {t:SetTable}{f:Nat->Int}{h:Int}{p:SetTable.Probe}{pr:Option SetTable.Met}{m:Nat}(hp:t.probe f h p=pr) (hd:t.dummies=#[]) (hm:m<10*SetTable.turns t.mask) (hdm:p.dummy=none) (he:t.slot (adv t m p).j=.empty) :
  (∃j,pr=some (.empty j none))\/(∃m' j i,m'<m/\pr=some (.candidate j i (adv t (m'+1) p))/\t.slot j=.live i/\t.place[i]?=some j):=by
 subst hp
 rcases go_some hd f h (10*SetTable.turns t.mask) m p hm hdm he with ⟨j,e⟩|⟨m',j,i,h1,e,h2,h3,_⟩
 ·exact .inl ⟨j,e⟩
 ·exact .inr ⟨m',j,i,h1,e,h2,h3⟩
theorem search {a b:Addr}{o:Obj}{es:Array (Int×Value)}{ep:Nat}{t:SetTable}{ks:List K}{h:Int}{Q:SetFound->Shared->Prop}(hu:A.units<cLine)
  (ho:s.heap.get? a=some o) (hd:o.data=.set es ep t) (g:Grown t es.size) (hk:IsTupleKey knd s.heap ks b) (hel:∀e∈es,∃b' ks',e.2=.ref b'/\IsTupleKey knd s.heap ks' b'/\ks'≠ks) (q:∀j,Q (.free j false) s) :
  ∀(m fuel:Nat) (stand:Option SetTable.Probe),m<fuel->m<10*SetTable.turns t.mask->(stand.getD (t.probeStart h)).dummy=none->t.slot (adv t m (stand.getD (t.probeStart h))).j=.empty ->
   wpAny (model prog w) A (setSearchFrom a (.ref b) h true fuel stand) Q E s:=by
 intro m
 induction m using Nat.strongRecOn with
 |ind m ih=>
  intro fuel stand hf hm hdm he
  cases fuel with
  |zero=>exact absurd hf (Nat.not_lt_zero _)
  |succ fuel=>
   unfold setSearchFrom
   refine wpAny_bind (wpAny_setState_of ho hd g.fits ?_)
   dsimp only
   rw[g.way]
   simp only[Bool.false_eq_true,if_false]
   split
   ·rename_i met hp
    rcases probe_out hp g.du hm hdm he with ⟨j,ej⟩|⟨m',j,i,hm',ej,sl,pl⟩
    ·cases ej
     dsimp only
     exact wpAny_pure (q j)
    ·cases ej
     dsimp only
     have hi:i<es.size:=by
      have:=(Array.getElem?_eq_some_iff.mp pl).1
      rw[g.pl] at this
      exact this
     obtain⟨b',ks',e2,hk',hne⟩:=hel es[i] (Array.getElem_mem hi)
     have hei:es[i]?=some (es[i].1,.ref b'):=by
      rw[<- e2]
      simp[hi]
     have sm:t.sameMemory t.moves t.mask=some true:=by
      unfold SetTable.sameMemory
      rw[if_pos (by simp)]
     have nx:∀fuel',m<fuel'+1->wpAny (model prog w) A (setSearchFrom a (.ref b) h true fuel' (some (adv t (m'+1) (stand.getD (t.probeStart h))))) Q E s:=λfuel' hf'=>
      ih (m-(m'+1)) (by lia) fuel' _ (by lia) (by lia) (by show (adv t (m'+1) _).dummy=none;rw[adv_dummy];exact hdm) (by
       show t.slot (adv t (m-(m'+1)) (adv t (m'+1) _)).j=.empty
       rw[<- adv_add,show m'+1+(m-(m'+1))=m by lia]
       exact he)
     have seen:∀y∈(es.filter (·.1==h)).toList.map (·.2),∃b ks',y=.ref b/\IsTupleKey knd s.heap ks' b:=λy hy=>by
      obtain⟨e,he',rfl⟩:=List.mem_map.mp hy
      have:e∈es:=by
       have:=(Array.mem_filter.mp (show e∈es.filter (·.1==h) by simpa using he')).1
       exact this
      obtain⟨b'',ks'',x1,x2,_⟩:=hel e this
      exact⟨b'',ks'',x1,x2⟩
     cases hl:t.led with
     |false=>
      simp only[Bool.not_false,if_true]
      refine wpAny_bind (unseen hk ?_ seen)
      simp only[Bool.false_eq_true,if_false]
      rw[hei]
      dsimp only
      refine wpAny_bind (wpAny_holding (wpAny_eqBool_tuple hu hk' hk ?_))
      rw[decide_eq_false hne]
      refine wpAny_bind (wpAny_setState_of ho hd g.fits ?_)
      dsimp only
      simp only[Bool.and_false,Bool.false_eq_true,if_false]
      rw[sm]
      dsimp only
      simp only[if_true]
      rw[sl]
      dsimp only
      rw[hei]
      dsimp only
      refine wpAny_bind (wpAny_isSame_ref_self ?_)
      refine wpAny_bind (wpAny_pure ?_)
      simp only[if_true]
      exact nx fuel hf
     |true=>
      simp only[Bool.not_true,Bool.false_eq_true,if_false]
      rw[hei]
      dsimp only
      refine wpAny_bind (wpAny_holding (wpAny_eqBool_tuple hu hk' hk ?_))
      rw[decide_eq_false hne]
      refine wpAny_bind (wpAny_setState_of ho hd g.fits ?_)
      dsimp only
      simp only[Bool.and_false,Bool.false_eq_true,if_false]
      rw[sm]
      dsimp only
      simp only[if_true]
      rw[sl]
      dsimp only
      rw[hei]
      dsimp only
      refine wpAny_bind (wpAny_isSame_ref_self ?_)
      refine wpAny_bind (wpAny_pure ?_)
      simp only[if_true]
      exact nx fuel hf
   ·rename_i hp
    exact Or.elim (probe_out rfl g.du hm hdm he) (λ⟨j,e⟩=>(hp _ e).elim) (λ⟨_,_,_,_,e,_⟩=>(hp _ e).elim)
structure SetR (knd:KeyKind prog w K) (h:Heap) (a:Addr) (Ks:List (List K)) (n:Nat):Prop where
 ex:∃o es ep t,h.get? a=some o/\o.ExactSet/\o.data=.set es ep t/\Grown t es.size/\t.tooFull=false/\t.mask<=8*n+8/\es.size=n/\∀e∈es,∃b ks,e.2=.ref b/\ks∈Ks/\IsTupleKey knd h ks b
theorem key_other {h:Heap}{a b:Addr}{o:Obj}{ks:List K}{es:Array (Int×Value)}{ep:Nat}{t:SetTable}(x:IsTupleKey knd h ks b) (ho:h.get? a=some o) (hd:o.data=.set es ep t):b≠a:=by
 rintro rfl
 obtain⟨o',items,n,ho',_,hd',_⟩:=x
 obtain rfl:o'=o:=Option.some.inj (ho'.symm.trans ho)
 rw[hd] at hd';exact nomatch hd'
theorem key_keeps {h h':Heap}{a b:Addr}{ks:List K}(x:IsTupleKey knd h ks b) (hne:b≠a) (hs:Heap.SameBut a h h'):IsTupleKey knd h' ks b:=by
 obtain⟨o',items,n,ho',hc,hd',hi⟩:=x
 exact⟨o',items,n,(hs.2 b hne).trans ho',hc,hd',hi⟩
theorem put_set {h:Heap}{a:Addr}{o:Obj}{es es':Array (Int×Value)}{ep:Nat}{t t':SetTable}(ho:h.get? a=some o) (hd:o.data=.set es ep t) :
  (h.update a (Obj.putSet es' t')).get? a=some { o with data:=.set es' (ep+1) t' }:=by
 have:=Heap.get?_update_self (Obj.putSet es' t') ho (by rw[putSet_of es' t' hd];rfl)
 rw[putSet_of es' t' hd] at this;exact this
theorem add_one {a b:Addr}{ks:List K}{Ks:List (List K)}{n:Nat}{h:Int}{Q:Bool->Shared->Prop}(hu:A.units<cLine) (S:SetR knd s.heap a Ks n) (hk:IsTupleKey knd s.heap ks b) (hHb:∀o items m,s.heap.get? b=some o->o.data=.seq items m->∀v∈items.toList,Hb v)
  (hn:ks∉Ks) (hsz:n<1200) (q:∀h',Heap.SameBut a s.heap h'->SetR knd h' a (ks::Ks) (n+1)->Q true { s with heap:=h' }) :
  wpAny (model prog w) A (setAddHashed a (.ref b) h) Q E s:=by
 obtain⟨o,es,ep,t,ho,hex,hd,g,hf,hmk,rfl,hel⟩:=S.ex
 unfold setAddHashed setAddHashedIn
 refine wpAny_holding (wpAny_bind (wpAny_setState_of ho hd g.fits ?_))
 dsimp only
 have hby:byScan (.ref b) es=false:=rfl
 rw[hby]
 simp only[Bool.false_eq_true,if_false]
 obtain⟨m,hm,hslot⟩:=g.meets h
 have hfu:m<100000:=by
  unfold SetTable.turns at hm
  lia
 refine wpAny_bind (search hu ho hd g hk (λe he=>?_) (λj=>?_) m 100000 none hfu hm rfl hslot)
 ·obtain⟨b',ks',e1,e2,e3⟩:=hel e he
  exact⟨b',ks',e1,e3,λz=>hn (by rw[<- z];exact e2)⟩
 dsimp only
 refine wpAny_bind (wpAny_setState_of ho hd g.fits ?_)
 dsimp only
 have g1:=g.put hf j
 generalize hp:t.put j=tp at g1
 obtain⟨t1,p⟩:=tp
 dsimp only at g1 ⊢
 have hmk1:t1.mask=t.mask:=by
  have:(t.put j).1.mask=t.mask:=rfl
  rw[hp] at this
  exact this
 have hba:b≠a:=key_other hk ho hd
 have mem1:∀{h1:Heap},Heap.SameBut a s.heap h1->∀e∈SetTable.insertAt es p (h,Value.ref b),∃b' ks',e.2=.ref b'/\ks'∈ks::Ks/\IsTupleKey knd h1 ks' b':=λ{h1} hs e he=>by
  rcases mem_insertAt he with rfl|he
  ·exact⟨b,ks,rfl,List.mem_cons_self,key_keeps hk hba hs⟩
  ·obtain⟨b',ks',e1,e2,e3⟩:=hel e he
   exact⟨b',ks',e1,List.mem_cons_of_mem _ e2,key_keeps e3 (key_other e3 ho hd) hs⟩
 have sz1:(SetTable.insertAt es p (h,Value.ref b)).size=es.size+1:=size_insertAt _ _ _
 have room:es.size+1<=sizeLine:=by rw[sizeLine_eq];lia
 have tail:∀t2:SetTable,Grown t2 (es.size+1)->t2.mask=t.mask->wpAny (model prog w) A (do
   storeSet a (SetTable.insertAt es p (h,Value.ref b)) t2
   if (!false&&t2.tooFull)=true then do
     setRelay a (SetTable.grown (es.size+1))
     pure true
    else pure true) Q E s:=λt2 g2 hm2=>by
  refine wpAny_bind (wpAny_storeSet_of ho hd ?_ (by rw[sz1];exact room))
  have ho1:=put_set (es':=SetTable.insertAt es p (h,Value.ref b)) (t':=t2) ho hd
  have hs1:=Heap.SameBut.update s.heap a (Obj.putSet (SetTable.insertAt es p (h,Value.ref b)) t2)
  cases ht:t2.tooFull with
  |false=>
   simp only[Bool.and_false,Bool.false_eq_true,if_false]
   refine wpAny_pure (q _ hs1 ⟨_,_,_,t2,ho1,hex,rfl,by rw[sz1];exact g2,ht,by lia,sz1,mem1 hs1⟩)
  |true=>
   simp only[Bool.not_false,Bool.and_self,if_true]
   refine wpAny_bind ?_
   unfold setRelay
   refine wpAny_bind (wpAny_setState_of ho1 rfl (by rw[sz1];exact g2.fits) ?_)
   dsimp only
   have gw:SetTable.grown (es.size+1)=(es.size+1)*4:=by
    unfold SetTable.grown
    rw[if_neg (by lia)]
   obtain⟨k,ek,_,_,hk3⟩:=sizeAbove_is (n:=SetTable.grown (es.size+1)) (by rw[gw];lia)
   rw[if_neg (by rw[ek,sizeLine_eq];rw[gw] at hk3;lia)]
   obtain⟨t3,order,er,g3,hw1,hw2,_,eo,ev⟩:=relaid_some (t:=t2) (hs:=(SetTable.insertAt es p (h,Value.ref b)).map (·.1)) (wanted:=SetTable.grown (es.size+1)) (by rw[gw];lia) (by rw[Array.size_map,sz1,gw];lia)
   rw[Array.size_map] at g3 eo ev
   rw[er]
   have es2:(order.filterMap ((SetTable.insertAt es p (h,Value.ref b))[·]?)).size=es.size+1:=by rw[size_pick ev,eo,sz1]
   refine wpAny_bind ?_
   show wpAny _ _ (if ((order.filterMap ((SetTable.insertAt es p (h,Value.ref b))[·]?)).size != (SetTable.insertAt es p (h,Value.ref b)).size)=true then _ else _) _ _ _
   rw[if_neg (by rw[es2,sz1];simp)]
   refine wpAny_pure ?_
   dsimp only
   refine wpAny_storeSet_of ho1 rfl ?_ (by rw[es2];exact room)
   have ho2:=put_set (es':=order.filterMap ((SetTable.insertAt es p (h,Value.ref b))[·]?)) (t':=t3) ho1 rfl
   have hs2:=hs1.trans (Heap.SameBut.update _ a (Obj.putSet (order.filterMap ((SetTable.insertAt es p (h,Value.ref b))[·]?)) t3))
   refine wpAny_pure (q _ hs2 ⟨_,_,_,t3,ho2,hex,rfl,by rw[es2,<- sz1];exact g3,?_,?_,es2,λe he=>mem1 hs2 e (mem_pick he)⟩)
   ·unfold SetTable.tooFull
    rw[g3.fill,sz1]
    rw[gw] at hw1
    exact decide_eq_false (by lia)
   ·rw[gw] at hw2
    lia
 cases hpl:t1.plain with
 |false=>
  simp only[Bool.false_eq_true,if_false]
  refine wpAny_bind (wpAny_pure ?_)
  simp only[if_true]
  exact tail t1 g1 hmk1
 |true=>
  simp only[if_true]
  obtain⟨ob,items,nn,hb1,hb2,hb3,_⟩:=id hk
  refine wpAny_bind (hashBy_tuple hb1 hb2 hb3 (hHb _ _ _ hb1 hb3) λc=>?_)
  cases c with
  |true=>
   simp only[if_true]
   exact tail t1 g1 hmk1
  |false=>
   simp only[Bool.false_eq_true,if_false]
   exact tail { t1 with plain:=false } ⟨g1.pl,g1.du,g1.ma,g1.le⟩ hmk1
end
section
variable {prog:Program}{w:World}{K:Type}[DecidableEq K]{knd:KeyKind prog w K}
def TupK (knd:KeyKind prog w K) (h:Heap) (ks:List K) (b:Addr):Prop:=∃o items n,h.get? b=some o/\o.cls=.type "tuple" /\ o.data=.seq items n/\ItemsAre knd ks items.toList/\∀v∈items.toList,Hb v
theorem TupK.key {h:Heap}{ks:List K}{b:Addr}(x:TupK knd h ks b):IsTupleKey knd h ks b:=let ⟨o,items,n,h1,h2,h3,h4,_⟩:=x;⟨o,items,n,h1,h2,h3,h4⟩
theorem TupK.hb {h:Heap}{ks:List K}{b:Addr}(x:TupK knd h ks b):∀o items m,h.get? b=some o->o.data=.seq items m->∀v∈items.toList,Hb v:=λo items m e1 e2=>by
 obtain⟨o',items',n',h1,_,h3,_,h5⟩:=x
 rw[e1] at h1;cases h1
 rw[e2] at h3;cases h3
 exact h5
theorem TupK.at {h h':Heap}{ks:List K}{b:Addr}(x:TupK knd h ks b) (k:∀o,h.get? b=some o->h'.get? b=some o):TupK knd h' ks b:=let ⟨o,items,n,h1,r⟩:=x;⟨o,items,n,k o h1,r⟩
theorem SetR.at {h h':Heap}{a:Addr}{Ks:List (List K)}{n:Nat}(S:SetR knd h a Ks n) (k:∀b o,h.get? b=some o->h'.get? b=some o\/b≠a/\¬∃ks,IsTupleKey knd h ks b):SetR knd h' a Ks n:=by
 obtain⟨o,es,ep,t,ho,hex,hd,g,hf,hmk,hn,hel⟩:=S.ex
 refine⟨o,es,ep,t,?_,hex,hd,g,hf,hmk,hn,λe he=>?_⟩
 ·rcases k a o ho with z|z
  ·exact z
  ·exact absurd rfl z.1
 ·obtain⟨b,ks,e1,e2,e3⟩:=hel e he
  refine⟨b,ks,e1,e2,?_⟩
  obtain⟨o',items,n',ho',r⟩:=id e3
  rcases k b o' ho' with z|z
  ·exact⟨o',items,n',z,r⟩
  ·exact absurd ⟨ks,e3⟩ z.2
variable {A:Around}{R:Result->Shared->Prop}{I:Addr}{fp wr:List Addr}{G:Array GenState->Array GenState->Prop}{n:Nat}{P:Nat->Value->Prop}{St:Nat->Shared->Prop}
def Items (knd:KeyKind prog w K) (S:Addr) (wr:List Addr) (P:Nat->Value->Prop) (val:Nat->List K) (h:Heap):Prop:=∀i v,P i v->∃b,v=.ref b/\b≠S/\b∉wr/\TupK knd h (val i) b
def NoTup (knd:KeyKind prog w K) (wr:List Addr) (h:Heap):Prop:=∀b∈wr,¬∃ks,IsTupleKey knd h ks b
theorem fill_loop (W:WalksS prog w A.in1 I fp wr G n P St) (S:Addr) (hSf:S∉fp) (val:Nat->List K) (dist:∀i j,i<j->j<n->val i≠val j) (hn:n<=1200) (hu:A.in1.units<cLine)
  (nt:∀i s,St i s->NoTup knd wr s.heap) :
  ∀(k i:Nat) (s:Shared),n-i=k->i<=n->St i s->Items knd S wr P val s.heap->(∃Ks,SetR knd s.heap S Ks i/\∀ks∈Ks,∃j,j<i/\ks=val j) ->
   (∀s',Moved (S::wr) G s s'->(∃Ks,SetR knd s'.heap S Ks n)->R (.ok (.ret .none)) s') ->
   codeAny (model prog w) A (.builtin "set.update.loop" ⟨[.ref S,.ref I],[]⟩) R s:=by
 have hSw:S∉wr:=λz=>hSf (W.sub _ z)
 have up:∀b∈wr,b∈S::wr:=λb hb=>List.mem_cons_of_mem _ hb
 have stays:∀{i:Nat}{s s':Shared}{Ks:List (List K)}{m:Nat},St i s->Moved wr G s s'->SetR knd s.heap S Ks m->SetR knd s'.heap S Ks m:=λ{i s s' Ks m} st mv S0=>S0.at λb o e=>by
  by_cases hb:b∈wr
  ·exact .inr ⟨λz=>hSw (by rw[<- z];exact hb),nt i s st b hb⟩
  ·exact .inl (mv.heap b o hb e)
 intro k
 induction k with
 |zero=>
  intro i s hk hi st its hS hR
  have hin:i=n:=by lia
  subst hin
  obtain⟨Ks,S0,_⟩:=hS
  refine codeAny_builtin PyProof.Rows.F.entry_set_update_loop ?_
  rw[Around.under_plainId PyProof.Rows.F.plain_set_update_loop _]
  show wpAny _ A.in1 (pyNext (.ref I) >>= _) _ _ s
  refine wpAny_bind (W.done s _ _ st λs' mv=>?_)
  show wpAny _ A.in1 (ret Value.none) _ _ s'
  exact wpAny_pure (hR s' (mv.mono up) ⟨Ks,stays st mv S0⟩)
 |succ k ih=>
  intro i s hk hi st its hS hR
  obtain⟨Ks,S0,hKs⟩:=hS
  have hlt:i<n:=by lia
  refine codeAny_builtin PyProof.Rows.F.entry_set_update_loop ?_
  rw[Around.under_plainId PyProof.Rows.F.plain_set_update_loop _]
  show wpAny _ A.in1 (pyNext (.ref I) >>= _) _ _ s
  refine wpAny_bind (W.item i s _ _ hlt st λv s' hP st' mv=>?_)
  obtain⟨b,rfl,hbS,hbw,hb⟩:=its i v hP
  have hb':TupK knd s'.heap (val i) b:=hb.at λo e=>mv.heap b o hbw e
  have S1:SetR knd s'.heap S Ks i:=stays st mv S0
  show wpAny _ A.in1 (holding [Value.ref b] (setAdd S (.ref b)) >>= _) _ _ s'
  refine wpAny_bind (wpAny_holding ?_)
  unfold setAdd
  refine wpAny_holding ?_
  refine wpAny_bind (wpAny_pyHash_tuple hu hb'.key ?_)
  refine add_one (s:={ s' with toks:=s'.toks+((val i).length+1) }) hu S1 hb'.key hb'.hb (λz=>?_) (by lia) λh' hsb S2=>?_
  ·obtain⟨j,hj,e⟩:=hKs _ z
   exact dist j i hj hlt e.symm
  ·have its':Items knd S wr P val h':=λj u hPj=>by
    obtain⟨c,rfl,h1,h2,h3⟩:=its j u hPj
    exact⟨c,rfl,h1,h2,(h3.at λo e=>mv.heap c o h2 e).at λo e=>(hsb.2 c h1).trans e⟩
   refine wpAny_pure ⟨plainId_quiet PyProof.Rows.F.plain_set_update_loop _,ih (i+1) _ (by lia) hlt (W.frame _ s' _ _ st' (Nat.le_add_right _ _) λc hc o e=>?_) its' ⟨val i::Ks,S2,λks hks=>?_⟩ λs'' mv'' fin=>?_⟩
   ·rw[hsb.2 c (λz:c=S=>hSf (by rw[<- z];exact hc))];exact e
   ·rcases List.mem_cons.mp hks with rfl|hks
    ·exact⟨i,Nat.lt_succ_self i,rfl⟩
    ·obtain⟨j,hj,e⟩:=hKs ks hks
     exact⟨j,by lia,e⟩
   ·refine hR s'' (Moved.trans W.gtrans ((mv.mono up).then_heap (Nat.le_add_right _ _) λc o hc e=>?_) mv'') fin
    rw[hsb.2 c (λz:c=S=>hc (by rw[z];exact List.mem_cons_self))];exact e
end
end SetT
namespace SetT
open PySem PySem.Spec
section
variable {prog:Program}{w:World}{K:Type}[DecidableEq K]{knd:KeyKind prog w K}{A:Around}{E:Value->Shared->Prop}{s:Shared}
abbrev newS (led:Bool):Obj:={ cls:=.type "set",dict:=none,data:=.set #[] 0 (.fresh 0 0 led) }
theorem fresh_setR {h:Heap}{a:Addr}{led:Bool}(e:h.get? a=some (newS led)):SetR knd h a [] 0:=
 ⟨_,#[],0,.fresh 0 0 led,e,⟨rfl,rfl,rfl⟩,rfl,⟨rfl,rfl,⟨3,rfl,by decide⟩,Nat.zero_le _⟩,by rfl,(by show 7<=8*0+8;decide),rfl,λe he=>by simp at he⟩
theorem call_set_tuple {l:Addr}{items:Array Value}{val:Nat->List K}{Q:Value->Shared->Prop}(hh:A.handled=none) (hu:A.units+8<cLine) (hl:s.heap.IsTuple l items)
  (hi:∀(i:Nat) (v:Value),items[i]?=some v->∃b,v=.ref b/\TupK knd s.heap (val i) b) (dist:∀i j,i<j->j<items.size->val i≠val j) (hb:items.size<=1200)
  (h:∀(h':Heap) (tk:Nat),(∃Ks,SetR knd h' s.heap.objs.size Ks items.size)->(∀b o,b<s.heap.objs.size->s.heap.get? b=some o->h'.get? b=some o)->Q (.ref s.heap.objs.size) { s with heap:=h',toks:=tk }) :
  wpAny (model prog w) A (call (.type "set") [.ref l]) Q E s:=by
 obtain⟨c,tl,hmro⟩:=F.called_set.mro
 have made0:=F.called_set.made
 have sub0:=F.called_set.sub
 refine wpAny_call (codeAny_of_tree ?_)
 show wpAny _ _ (callAny (.type "set") _) _ _ _
 refine wpAny_pure ⟨Code.quiet_builtin _ (by decide +kernel),codeAny_builtin F.entry_type_call ?_⟩
 rw[Around.under_plain (weight_type_call_type "set" [.ref l] []) rfl]
 have f1:=F.called_set.notType
 have f2:=F.called_set.canCreate
 have f3:=F.typeCall_set_1 (.ref l)
 repeat (any_goals first|assumption|wp_step)
 refine codeAny_mono (code_set_new_1 (.ref l) (E:=E) (Q₁:=λobj s₁=>∃led:Bool,obj=.ref s.heap.objs.size/\s₁={ s with heap:=s.heap.push (newS led) }) λled=>⟨led,rfl,rfl⟩) λr s₁ hr=>?_
 cases r with
 |error e=>exact hr
 |ok fl=>
  cases fl with
  |ret obj=>
   obtain⟨led,rfl,rfl⟩:=hr
   have hS:(s.heap.push (newS led)).get? s.heap.objs.size=some (newS led):=Heap.get?_push_size _ rfl
   have hT:Shared.TypeIs { s with heap:=s.heap.push (newS led) } (.ref s.heap.objs.size) "set":=⟨_,hS,rfl⟩
   have i1:=F.called_set.init.lookup
   have i2:=F.called_set.init.bind (.ref s.heap.objs.size)
   repeat (any_goals first|assumption|wp_step)
   refine codeAny_mono (codeAny_call_builtin (R:=wants (λr s₂=>r=.none/\∃h' tk,s₂={ s with heap:=h',toks:=tk }/\(∃Ks,SetR knd h' s.heap.objs.size Ks items.size) /\
     (∀b o,b<s.heap.objs.size->s.heap.get? b=some o->h'.get? b=some o)) E) F.called_set.init.plain F.entry_set_init (check_set_init_1 hT ?_)) λr₂ s₂ hr₂=>?_
   ·obtain⟨ol,hol,hcl,nl,hdl⟩:=id hl
    obtain⟨ocls,odict,odata,oslots⟩:=ol
    simp only at hcl hdl
    subst hcl;subst hdl
    have hol':(s.heap.push (newS led)).get? l=some { cls:=.type "tuple",dict:=odict,data:=.seq items nl,slots:=oslots }:=Heap.get?_push_of_some _ hol
    have st1:=F.sub_tuple_set
    have st2:=F.sub_tuple_frozenset
    have ned:(Value.type "tuple" == Value.type "dict")=false:=by decide
    have hl1:(s.heap.push (newS led)).IsTuple l items:=⟨_,hol',rfl,nl,rfl⟩
    unfold Builtin.«set.__init__» noKeywords Builtin.Frozenset.updateFrom
    generalize hPI:pyIter=PI
    wp_walk
    subst hPI
    refine wpAny_pyIter_tuple hl1 ?_
    refine wpAny_bind (wpAny_runValue ?_)
    have hlS:l<s.heap.objs.size:=Heap.lt_size hol
    have hsz:(s.heap.push (newS led)).objs.size=s.heap.objs.size+1:=Heap.size_push _ _
    have hneI:l≠(s.heap.push (newS led)).objs.size:=by rw[hsz];exact Nat.ne_of_lt (Nat.lt_succ_of_lt hlS)
    have hSf:s.heap.objs.size∉[(s.heap.push (newS led)).objs.size,l]:=by
     rw[hsz];simp only[List.mem_cons,List.not_mem_nil,or_false,not_or]
     exact⟨Nat.ne_of_lt (Nat.lt_succ_self _),Nat.ne_of_gt hlS⟩
    refine fill_loop (knd:=knd) ((Walks.tuple (by simp[hh]) _ l hneI items).toS) s.heap.objs.size hSf val dist hb (by show A.units+1+1+1<cLine;lia) (λi s' st b hbw=>?_) (items.size-0) 0 _ (by lia) (Nat.zero_le _)
     ⟨⟨_,Heap.get?_push_size _ rfl,rfl,rfl⟩,hl1.push _⟩ (λi v hv=>?_) ⟨[],fresh_setR (Heap.get?_push_of_some _ hS),λks hks=>nomatch hks⟩ λs' mv fin=>?_
    ·rintro⟨ks,o',its',n',e1,e2,e3,_⟩
     have:b=(s.heap.push (newS led)).objs.size:=by simpa using hbw
     subst this
     obtain⟨oi,x1,x2,x3⟩:=st.1
     rw[x1] at e1;cases e1
     rw[x2] at e2
     injection e2 with e2
     exact absurd e2 (by decide)
    ·obtain⟨b,rfl,hb'⟩:=hi i v hv
     have hlt:b<s.heap.objs.size:=by obtain⟨o',_,_,e1,_⟩:=hb';exact Heap.lt_size e1
     refine⟨b,rfl,Nat.ne_of_lt hlt,(by rw[hsz];simp only[List.mem_cons,List.not_mem_nil,or_false];exact Nat.ne_of_lt (Nat.lt_succ_of_lt hlt)),hb'.at λo e=>Heap.get?_push_of_some _ (Heap.get?_push_of_some _ e)⟩
    ·obtain⟨h',g',d',tk',os'⟩:=s'
     have eg:g'=s.gens:=mv.gens
     have ed:d'=s.drawn:=mv.drawn
     have eo:os'=s.os:=mv.os
     subst eg;subst ed;subst eo
     show wpAny _ _ _ _ _ _
     refine wpAny_pure ?_
     show wpAny _ _ (ret Value.none) _ _ _
     refine wpAny_pure ⟨rfl,h',tk',rfl,fin,λb o hlt e=>?_⟩
     exact mv.heap b o (by rw[hsz];simp only[List.mem_cons,List.not_mem_nil,or_false,not_or];exact⟨Nat.ne_of_lt hlt,Nat.ne_of_lt (Nat.lt_succ_of_lt hlt)⟩) (Heap.get?_push_of_some _ (Heap.get?_push_of_some _ e))
   ·cases r₂ with
    |error e=>exact hr₂
    |ok fl₂=>
     cases fl₂ with
     |ret r=>
      obtain⟨rfl,h',tk,rfl,fin,kp⟩:=hr₂
      repeat (any_goals first|assumption|wp_step)
      exact h _ _ fin kp
     |_=>exact hr₂.elim
  |_=>exact hr.elim
end
end SetT
namespace L2
open PySem PySem.Spec PyProof.Rows
section
variable {X:Cx}
theorem closure_ok {env:Env}:∀{names:List (Str×NameKind)}{acc:List (Str×Addr)},
  (∀p∈names,p.2=.free->∃c,cellOf env p.1=pure c/\env.cells.lookup p.1=some c) ->
  (∀y c,acc.lookup y=some c->env.cells.lookup y=some c) ->
  ∃cl:List (Str×Addr),(forIn names acc λp cs=>(if p.2==.free then (do let c <- cellOf env p.1;pure (ForInStep.yield ((p.1,c)::cs))) else pure (ForInStep.yield cs):Sem (ForInStep (List (Str×Addr)))))=pure cl /\
   (∀y c,cl.lookup y=some c->env.cells.lookup y=some c)/\(∀y,(acc.lookup y).isSome=true->(cl.lookup y).isSome=true)/\∀p∈names,p.2=.free->(cl.lookup p.1).isSome=true
 |[],acc,_,ha=>⟨acc,by simp,ha,λ_ h=>h,λ_ h=>absurd h (by simp)⟩
 |(n,k)::r,acc,hn,ha=>by
  by_cases hk:k=.free
  ·subst hk
   obtain⟨c,e1,e2⟩:=hn (n,.free) List.mem_cons_self rfl
   obtain⟨cl,h1,h2,h3,h4⟩:=closure_ok (env:=env) (names:=r) (acc:=(n,c)::acc) (λp hp=>hn p (List.mem_cons_of_mem _ hp)) (λy d h=>by
    rw[List.lookup_cons] at h
    cases hy:y==n with
    |true=>rw[hy] at h;cases h;rw[eq_of_beq hy];exact e2
    |false=>rw[hy] at h;exact ha y d h)
   refine⟨cl,?_,h2,λy hy=>h3 y (by
    rw[List.lookup_cons]
    cases y==n with
    |true=>rfl
    |false=>exact hy),λp hp hf=>?_⟩
   ·rw[List.forIn_cons]
    have e1':cellOf env n=pure c:=e1
    simp only[beq_self_eq_true,if_true,e1',pure_bind]
    exact h1
   ·rcases List.mem_cons.mp hp with rfl|hp
    ·exact h3 _ (by simp[List.lookup_cons])
    ·exact h4 p hp hf
  ·obtain⟨cl,h1,h2,h3,h4⟩:=closure_ok (env:=env) (names:=r) (acc:=acc) (λp hp=>hn p (List.mem_cons_of_mem _ hp)) ha
   refine⟨cl,?_,h2,h3,λp hp hf=>?_⟩
   ·rw[List.forIn_cons]
    have:(k==NameKind.free)=false:=by simpa using hk
    simp only[this,Bool.false_eq_true,if_false,pure_bind]
    exact h1
   ·rcases List.mem_cons.mp hp with rfl|hp
    ·exact absurd hf hk
    ·exact h4 p hp hf
def compCx (X:Cx) (scope:Scope) (cl:List (Str×Addr)) (C:Addr) (x:Str) (fp:List Addr) (s₀:Shared) (H₀:Hp):Cx:=
 { X with N:=x::X.N,s₀:=s₀,H₀:=H₀,env:=compEnvC scope cl C X.env,outer:=X.stack,stack:=X.stack,ex:=fp,fn:=λ_=>false,pn:=[],xe:=λ_ _=>False }
def tComp (wi:TI) (te:TE):TE:=λσ H Q=>wi σ H λJ H1=>∀D,H1 D=none->∃W:Nat->Nat->List V->Hp->Prop,(∃m,W 0 m [] (upd H1 D (.lst []))) /\
 ∀i m xs H2,W i m xs H2->H2 D=some (.lst xs)/\xs.length<sizeLine/\((J.stop i H2/\Q (.ref D) H2)\/(J.go i H2/\∀y H3,J.yld i H2 y H3 ->
  te (some y::σ) H3 λv H4=>H4 D=some (.lst xs)/\∃m',m'<m/\W (i+1) m' (xs++[v]) (upd H4 D (.lst (xs++[v])))))
theorem compLoop_any {prog:Program}{w:World}{A:Around}{R:Result->Shared->Prop}{s:Shared}{elt target iter:Expr}{scope:Scope}{pos:Pos}{it acc:Value}{env:Env}(I:Nat->Shared->Prop)
  (turn:∀n s,I n s->wpAny (model prog w) A (pyNext it) (λr s₁=>match r with
   |none=>R (.ok .next) s₁
   |some v=>wpAny (model prog w) A (letOwnedTupleGo target it v) (λ_ s₁'=>wpAny (model prog w) A (assign target env v) (λ_ s₂=>wpAny (model prog w) A (eval elt env) (λx s₃=>
     wpAny (model prog w) A (call (.builtin "list.append") [acc,x]) (λ_ s₄=>∃m,m<n/\I m s₄) (λ_ _=>False) s₃)
     (λ_ _=>False) s₂) (λ_ _=>False) s₁') (λ_ _=>False) s₁) (λ_ _=>False) s)
  (n:Nat) (h:I n s) :
  codeAny (model prog w) A (.compLoop (.ListComp elt [⟨target,iter,[],0⟩] scope pos) 0 it acc env) R s:=by
 refine codeAny_loop rfl I (λn s hI=>?_) n h
 show wpAny _ A ((compTurn (.ListComp elt [⟨target,iter,[],0⟩] scope pos) 0 it acc env).onRaise (λx=>do noteFrame x env;theTreesLotGoes x)) _ _ s
 refine wpAny_noted ?_
 rw[compTurn_list1]
 refine wpAny_bind (wpAny_standAt (wpAny_bind (wpAny_mono (turn n s hI) (λr s₁ h₁=>?_) λ_ _ h'=>h'.elim)))
 cases r with
 |none=>exact wpAny_pure h₁
 |some v=>
  refine wpAny_bind (wpAny_mono h₁ (λ_ s₁' h₁'=>?_) λ_ _ h'=>h'.elim)
  exact wpAny_bind (wpAny_mono h₁' (λ_ s₂ h₂=>wpAny_bind (wpAny_bind (wpAny_mono h₂ (λx s₃ h₃=>wpAny_bind (wpAny_mono h₃
   (λ_ s₄ h₄=>wpAny_pure (wpAny_pure ⟨rfl,h₄⟩)) λ_ _ h'=>h'.elim)) λ_ _ h'=>h'.elim))) λ_ _ h'=>h'.elim)
theorem closureFor_some {scope:Scope}{env:Env}(hf:∀p∈scope.names,p.2=.free->∃c,env.cells.lookup p.1=some c) :
  ∃cl:List (Str×Addr),closureFor scope env=pure cl/\(∀y c,cl.lookup y=some c->env.cells.lookup y=some c)/\∀p∈scope.names,p.2=.free->(cl.lookup p.1).isSome=true:=by
 obtain⟨cl,h1,h2,_,h4⟩:=closure_ok (env:=env) (names:=scope.names) (acc:=[]) (λp hp hk=>by
  obtain⟨c,e⟩:=hf p hp hk
  refine⟨c,?_,e⟩
  unfold cellOf
  rw[e]) (λy c h=>by simp at h)
 refine⟨cl,?_,h2,h4⟩
 unfold closureFor
 refine Eq.trans ?_ h1
 simp only[bind_pure]
theorem relabel_vis {env:Env}:∀{names:List (Str×NameKind)}{y:Str}{k:NameKind},(names.map λ(n,k)=>if (k==NameKind.free&&env.scope.kind==.function&&env.kindOf n==some .cell) then (n,NameKind.cell) else (n,k)).lookup y=some k ->
  (∀p∈names,p.2≠.cell)->(k=.cell\/k=.free)->∃p∈names,p.1=y/\p.2=.free
 |[],_,_,h,_,_=>by simp at h
 |(n,k0)::r,y,k,h,hc,hk=>by
  rw[List.map_cons] at h
  by_cases hy:y=n
  ·subst hy
   by_cases h0:k0=.free
   ·exact⟨(y,k0),List.mem_cons_self,rfl,h0⟩
   ·exfalso
    have e:(k0==NameKind.free)=false:=by simpa using h0
    simp only[e,Bool.false_and,Bool.false_eq_true,if_false,List.lookup_cons,beq_self_eq_true,Option.some.injEq] at h
    rcases hk with z|z
    ·exact hc _ List.mem_cons_self (h.trans z)
    ·exact h0 (h.trans z)
  ·have hb:(y==n)=false:=by simpa using hy
   have h':(r.map λ(n,k)=>if (k==NameKind.free&&env.scope.kind==.function&&env.kindOf n==some .cell) then (n,NameKind.cell) else (n,k)).lookup y=some k:=by
    revert h
    dsimp only
    split<;>(intro h;simpa only [List.lookup_cons,hb] using h)
   obtain⟨p,hp,e⟩:=relabel_vis h' (λp hp=>hc p (List.mem_cons_of_mem _ hp)) hk
   exact⟨p,List.mem_cons_of_mem _ hp,e⟩
theorem relabel_local {env:Env}:∀{names:List (Str×NameKind)}{y:Str},(names.map λ(n,k)=>if (k==NameKind.free&&env.scope.kind==.function&&env.kindOf n==some .cell) then (n,NameKind.cell) else (n,k)).lookup y=some .local ->
  names.lookup y=some .local
 |[],_,h=>by simp at h
 |(n,k0)::r,y,h=>by
  rw[List.map_cons] at h
  by_cases hy:y=n
  ·subst hy
   rw[List.lookup_cons,beq_self_eq_true]
   revert h
   dsimp only
   split
   ·intro h;simp[List.lookup_cons] at h
   ·intro h;simpa [List.lookup_cons] using h
  ·have hb:(y==n)=false:=by simpa using hy
   rw[List.lookup_cons,hb]
   refine relabel_local (env:=env) ?_
   revert h
   dsimp only
   split<;>(intro h;simpa only [List.lookup_cons,hb] using h)
theorem comp_start {pins:List (Addr×Obj)}{σ:St}{H:Hp}{s:Shared}{h':Heap}{tk:Nat}{scope:Scope}{cl:List (Str×Addr)}{C:Addr}{x:Str}{fp:List Addr}{m:Str->Option Value}
  (I:Inv X pins σ H s) (hC:C=s.heap.objs.size) (keep:∀b o,s.heap.get? b=some o->h'.get? b=some o) (ns:h'.Ns C m) (hfp:∀b∈fp,FpOk X pins H b) (hfs:∀b∈fp,b<s.heap.objs.size)
  (hkind:scope.kind=.function) (hcell:∀y∈scope.names,y.2≠.cell) (hloc:∀y∈X.N,scope.names.lookup y≠some .local)
  (hcl1:∀y c,cl.lookup y=some c->X.env.cells.lookup y=some c) (hcl2:∀p∈scope.names,p.2=.free->(cl.lookup p.1).isSome=true)
  (hfr:∀p∈scope.names,p.2=.free->Vis X.env.scope p.1/\X.env.scope.names.lookup p.1≠some .local) :
  Inv (compCx X scope cl C x fp s H) [] (none::σ) H { s with heap:=h',toks:=tk }:=by
 have cells:∀y c,cl.lookup y=some c->∃v,s.heap.IsCell c v:=λy c e=>I.cell y c (hcl1 y c e)
 have celllt:∀y c,cl.lookup y=some c->c<s.heap.objs.size:=λy c e=>by
  obtain⟨v,q⟩:=cells y c e
  exact q.lt
 have cellk:∀c v,s.heap.IsCell c v->h'.IsCell c v:=λc v ⟨o,e,d⟩=>⟨o,keep c o e,d⟩
 have stkl:∀b∈frs X.stack,∃o,s.heap.get? b=some o:=λb hb=>by
  rcases List.mem_cons.mp (I.stkSub b hb) with e|hb
  ·obtain⟨_,⟨o,_,_,ho,_⟩,_⟩:=I.loc
   exact⟨o,by rw[e];exact ho⟩
  ·obtain⟨_,o,ho,_⟩:=I.funs.mem hb
   exact⟨o,ho⟩
 refine⟨⟨I.ok.mod,hkind,I.ok.glob,I.ok.blt,Nat.le_of_eq hC.symm,λy z c h1 h2=>I.ok.inj y z c (hcl1 y c h1) (hcl1 z c h2),λy hy=>?_,λy c h _=>Bool.noConfusion h,I.ok.hd,I.ok.frames,.inl rfl,λb hb=>⟨?_,λy c e z=>?_⟩,I.bs,
  Nat.le_trans I.ok.bsz I.sz,λb o e hb=>?_,λb hb hf=>?_,I.stack,I.stkFree⟩,rfl,I.bare,Un.kept keep,⟨m,ns,λi y v h1 h2 h3=>?_⟩,λy c e=>?_,?_,λy c e=>?_,λp hp=>absurd hp (by simp[compCx]),I.hok.kept keep,?_⟩
 ·
  have hy:(relabel scope X.env).names.lookup y=some .cell\/(relabel scope X.env).names.lookup y=some .free:=hy
  obtain⟨p,hp,e1,e2⟩:∃p∈scope.names,p.1=y/\p.2=.free:=by
   rcases hy with hy|hy
   ·exact relabel_vis hy hcell (.inl rfl)
   ·exact relabel_vis hy hcell (.inr rfl)
  obtain⟨c,e⟩:=Option.isSome_iff_exists.mp (hcl2 p hp e2)
  exact⟨c,by rw[<- e1];exact e⟩
 ·show b≠C
  rw[hC];exact Nat.ne_of_lt (hfs b hb)
 ·exact (hfp b hb).2.2.2.2.1 y c (hcl1 y c e) z
 ·rcases (hfp b hb).2.2.2.1 with z|z
  ·exact I.ok.noex b o e z
  ·exact absurd (Nat.lt_of_lt_of_le (Heap.lt_size (I.ok.bs b o e).1) z) (Nat.lt_irrefl _)
 ·rcases List.mem_cons.mp (I.stkSub b hf) with z|z
  ·exact (hfp b hb).2.1 z
  ·exact (hfp b hb).2.2.1 z
 ·
  cases i with
  |zero=>simp at h2
  |succ j=>
   have h1:X.N[j]?=some y:=by simpa [compCx] using h1
   have h2:σ[j]?=some (some v):=by simpa using h2
   have h3:(relabel scope X.env).names.lookup y=some .local\/(relabel scope X.env).names.lookup y=some .cell\/(relabel scope X.env).names.lookup y=some .free:=h3
   rcases h3 with h3|h3
   ·exact absurd (relabel_local h3) (hloc y (List.mem_of_getElem? h1))
   ·obtain⟨p,hp,e1,e2⟩:∃p∈scope.names,p.1=y/\p.2=.free:=by
     rcases h3 with h3|h3
     ·exact relabel_vis h3 hcell (.inl rfl)
     ·exact relabel_vis h3 hcell (.inr rfl)
    obtain⟨hv,hnl⟩:=hfr p hp e2
    rw[e1] at hv hnl
    obtain⟨m0,_,hl0⟩:=I.loc
    obtain⟨u,ru,lk⟩:=hl0 j y v h1 h2 hv
    rcases lk with ⟨lk,_⟩|⟨_,c,hc,hcv⟩
    ·exact absurd lk hnl
    ·obtain⟨c',e'⟩:=Option.isSome_iff_exists.mp (hcl2 p hp e2)
     rw[e1] at e'
     have:=hcl1 y c' e'
     rw[hc] at this
     cases this
     refine⟨u,ru,.inr ⟨h3,c,e',cellk c _ hcv⟩⟩
 ·obtain⟨v,q⟩:=cells y c e
  exact⟨v,cellk c v q⟩
 ·show H C=none
  exact I.hok.fresh (Nat.le_of_eq hC.symm)
 ·exact I.freeC y c (hcl1 y c e)
 ·show (none::σ).length=(x::X.N).length
  simp[I.len]
theorem comp_end {pins:List (Addr×Obj)}{σ σ':St}{H H':Hp}{s s':Shared}{h':Heap}{scope:Scope}{cl:List (Str×Addr)}{C:Addr}{x:Str}{fp:List Addr}
  (I:Inv X pins σ H s) (hC:C=s.heap.objs.size) (hfp:∀b∈fp,FpOk X pins H b) (J:Inv (compCx X scope cl C x fp s H) [] σ' H' s') (sb:Heap.SameBut C s'.heap h'):Inv X pins σ H' { s' with heap:=h' }:=by
 have ne:∀b o,s.heap.get? b=some o->b≠C:=λb o e=>by rw[hC];exact Nat.ne_of_lt (Heap.lt_size e)
 have B:Un (frs X.stack) fp H H' s.heap s'.heap:=J.base
 have U:Un (frs X.stack) fp H H' s.heap h':=
  ⟨λb o e n hb hx=>(sb.2 b (ne b o e)).trans (B.keep b o e n hb hx),λb o e n hb hx=>by
   obtain⟨sl,q⟩:=B.slot b o e n hb hx
   exact⟨sl,(sb.2 b (ne b o e)).trans q⟩,B.free,λb o e hx=>by
   obtain⟨o',q⟩:=B.there b o e hx
   exact⟨o',(sb.2 b (ne b o e)).trans q⟩,B.tups,B.frzs,B.tbls⟩
 have hf:H' C=none:=J.free
 have K:HOk X.prog X.w H' h':=λb o e=>(J.hok b o e).stay (λc u hc q=>(sb.2 c (by
  rintro rfl
  rcases hc with z|z
  ·rw[z,e] at hf;cases hf
  ·rw[hf] at z;cases z)).trans q) (λ_ q=>q) λ_ _ q=>q
 refine I.call' (s':={ s' with heap:=h' }) (ch:=fp) J.os U K J.bare λb hb=>?_
 obtain⟨_,h2,_,h4,h5,h6⟩:=hfp b hb
 exact⟨h4,h2,h5,h6⟩
theorem pe_comp {x:Str}{px pos:Pos}{elt iter:Expr}{scope:Scope}{wi:TI}{te:TE}(hc:X.calm=true) (hN:X.N.Nodup) (hi:PI X (.Name x px) iter wi) (he:∀cl C fp s₀ H₀,PE (compCx X scope cl C x fp s₀ H₀) elt te)
  (hkind:scope.kind=.function) (hcell:∀y∈scope.names,y.2≠.cell) (hnames:∀y∈scope.names,y.2=.local->scope.names.lookup y.1=some .local) (hx:scope.names.lookup x=some .local)
  (hloc:∀y∈X.N,scope.names.lookup y≠some .local) (hfr:∀p∈scope.names,p.2=.free->Vis X.env.scope p.1/\X.env.scope.names.lookup p.1≠some .local)
  (hs:∀x,foldedSetIterable iter X.env x=pure x:=by intro _;rfl):PE X (.ListComp elt [⟨.Name x px,iter,[],0⟩] scope pos) (tComp wi te):=by
 intro pins s σ H Q I h
 rw[eval_ListComp]
 obtain⟨cl,hclos,hcl1,hcl2⟩:=closureFor_some (scope:=scope) (env:=X.env) (λp hp hk=>by
  obtain⟨hv,hn⟩:=hfr p hp hk
  refine I.ok.has p.1 ?_
  rcases hv with z|z
  ·exact absurd z hn
  ·exact z)
 refine wpAny_comprehension_free (use:=none) rfl hs hclos hkind hnames (thn (hi pins s σ H _ I h) λv s1 h1=>thn h1 λitv s2 h2=>?_)
 obtain⟨it,fp,tn,J,H2,rfl,I2,T,st2,f2,q⟩:=h2
 have hD:H2 s2.heap.objs.size=none:=I2.hok.fresh (Nat.le_refl _)
 obtain⟨W,⟨m0,w0⟩,turn⟩:=q _ hD
 refine wpAny_newObj_type (wpAny_newFunctionEnv hcell (by intro y hy;simp at hy) (λh₁ hns₁ hsb₁=>?_) hkind)
 dsimp only at hns₁ hsb₁ ⊢
 have I3:Inv X pins σ (upd H2 s2.heap.objs.size (.lst [])) { s2 with heap:=s2.heap.push { cls:=.type "list",dict:=none,data:=.seq ([]:List Value).toArray } }:=
  I2.laid (t':=s2.toks) (λb u e=>Heap.get?_push_of_some _ e) (Nat.le_refl _) ⟨Nat.zero_le _,[],0,.nil,Heap.get?_push_size _ rfl⟩
 have fpn:∀b∈fp,b≠s2.heap.objs.size:=λb hb=>by
  obtain⟨o,e,_⟩:=T.obj 0 s2.heap st2 b hb
  exact Nat.ne_of_lt (Heap.lt_size e)
 have fplt:∀b∈fp,b<(s2.heap.push { cls:=.type "list",dict:=none,data:=.seq ([]:List Value).toArray }).objs.size:=λb hb=>by
  obtain⟨o,e,_⟩:=T.obj 0 s2.heap st2 b hb
  rw[Heap.size_push];exact Nat.lt_succ_of_lt (Heap.lt_size e)
 have f3:∀b∈fp,FpOk X pins (upd H2 s2.heap.objs.size (.lst [])) b:=λb hb=>⟨by rw[upd_ne (fpn b hb)];exact (f2 b hb).1,(f2 b hb).2⟩
 generalize hg2:s2.heap.push { cls:=.type "list",dict:=none,data:=.seq ([]:List Value).toArray }=g2 at hns₁ hsb₁ I3 fplt ⊢
 have keep:∀b o,g2.get? b=some o->h₁.get? b=some o:=λb o e=>(hsb₁.2 b (Nat.ne_of_lt (Heap.lt_size e))).trans (Heap.get?_push_of_some _ e)
 have J0:=comp_start (x:=x) (tk:=s2.toks+([]:List (Str×Value)).length) I3 (C:=g2.objs.size) rfl keep hns₁ f3 fplt hkind hcell hloc hcl1 hcl2 hfr
 generalize hY:compCx X scope cl g2.objs.size x fp { s2 with heap:=g2 } (upd H2 s2.heap.objs.size (.lst []))=Y at J0
 have eY:PE Y elt te:=by rw[<- hY];exact he _ _ _ _ _
 have eP:Y.prog=X.prog:=by rw[<- hY];rfl
 have eW:Y.w=X.w:=by rw[<- hY];rfl
 have eK:Y.K=X.K:=by rw[<- hY];rfl
 have eA:Y.A=X.A:=by rw[<- hY];rfl
 have eC:Y.calm=true:=by rw[<- hY];exact hc
 have eE:Y.env=compEnvC scope cl g2.objs.size X.env:=by rw[<- hY];rfl
 have eX:Y.xe=λ_ _=>False:=by rw[<- hY];rfl
 have eN:Y.N=x::X.N:=by rw[<- hY];rfl
 have eEx:Y.ex=fp:=by rw[<- hY];rfl
 have eFs:Y.fs=frs X.stack:=by rw[<- hY];rfl
 have ePn:Y.pn=[]:=by rw[<- hY];rfl
 have ndY:Y.N.Nodup:=by
  rw[eN]
  exact List.nodup_cons.mpr ⟨λz=>hloc x z hx,hN⟩
 have locY:Y.env.scope.names.lookup x=some .local:=by rw[eE];exact lookup_relabel_local hx
 have fpY:∀{H':Hp},(∀b∈fp,H' b=none)->∀b∈fp,FpOk Y [] H' b:=λhn b hb=>by
  have g:=f3 b hb
  refine⟨hn b hb,?_,?_,.inl (by rw[eEx];exact hb),?_,λp hp=>absurd hp (by rw[ePn];simp)⟩
  ·rw[eE];exact Nat.ne_of_lt (fplt b hb)
  ·rw[eFs]
   intro z
   rcases List.mem_cons.mp (I3.stkSub b z) with z|z
   ·exact g.2.1 z
   ·exact g.2.2.1 z
  ·rw[eE]
   exact λy c e=>g.2.2.2.2.1 y c (hcl1 y c e)
 have loop:∀s₃:Shared,s₃={ s2 with heap:=h₁,toks:=s2.toks+([]:List (Str×Value)).length } ->
   codeAny (model X.prog X.w) X.A (.compLoop (.ListComp elt [⟨.Name x px,iter,[],0⟩] scope pos) 0 (.ref it) (.ref s2.heap.objs.size) (compEnvC scope cl g2.objs.size X.env))
    (compPost (model X.prog X.w) X.A X.xe none (EP X pins σ Q) (.ref s2.heap.objs.size) g2.objs.size) s₃:=by
  rintro s₃ rfl
  refine compLoop_any (λn s'=>∃i xs H' o,Inv Y [] (o::σ) H' s'/\tn i s'.heap/\(∀b∈fp,H' b=none)/\W i n xs H') ?_ m0
   ⟨0,[],_,none,J0,T.keep 0 _ _ st2 (λb hb o e=>keep b o (by rw[<- hg2];exact Heap.get?_push_of_some _ e)),λb hb=>(f3 b hb).1,w0⟩
  rintro n s3 ⟨i,xs,H3,o,I4,st3,fr3,w3⟩
  obtain⟨hDx,hlx,alt⟩:=turn i n xs H3 w3
  rcases alt with ⟨stop,qn⟩|⟨go,step⟩
  ·have D1:=T.done Y eP eW eK eC i [] s3 _ H3 (λ_ _=>False) I4 (fpY fr3) st3 stop
   rw[eA] at D1
   refine thn D1 λr s4 ⟨hr,I5⟩=>?_
   subst hr
   obtain⟨m4,hns4,_⟩:=id I5.loc
   rw[eE] at hns4
   refine⟨m4,hns4,λh' sb=>⟨.ref _,H3,?_,rfl,qn⟩⟩
   rw[<- hY] at I5
   exact comp_end I3 rfl f3 I5 sb
  ·have G1:=T.item Y eP eW eK eC i [] s3 _ H3 (λ_ _=>False) I4 (fpY fr3) st3 go
   rw[eA] at G1
   refine thn G1 λr s4 ⟨u,hr,h4⟩=>?_
   subst hr
   refine thn h4 λ_ s5 ⟨y,H5,I5,r5,y5,st5,fr5⟩=>?_
   have I5':=I5.pinned (fpY fr5) (T.obj _ _ st5)
   have S1:=(pg_name (X:=Y) (pos:=px) (i:=0) ndY (by rw[eN];rfl) (.inl locY) (.inr locY)) _ s5 _ H5 y u (λσ6 H6=>σ6=some y::σ/\H6=H5) I5' r5 ⟨rfl,rfl⟩
   rw[eP,eW,eA,eE,eX] at S1
   refine thn S1 λ_ s6 ⟨σ6,H6,I6,e6,e6'⟩=>?_
   subst e6 e6'
   have S2:=eY _ s6 _ _ _ I6 (step y _ y5)
   rw[eP,eW,eA,eE,eX] at S2
   refine thn S2 λxv s7 ⟨v7,H7,I7,r7,hD7,m',hm',w7⟩=>?_
   have S3:=mt_append (X:=Y) _ s7 _ H7 (.ref s2.heap.objs.size) [v7] (.ref s2.heap.objs.size) [xv] (λ_ H8=>H8=upd H7 s2.heap.objs.size (.lst (xs++[v7]))) I7 rfl (.cons r7 .nil) ⟨_,xs,v7,rfl,rfl,hD7,hlx,rfl⟩
   rw[eP,eW,eA,eX] at S3
   refine thn S3 λ_ s8 ⟨v8,H8,I8,_,e8⟩=>?_
   subst e8
   have pin:∀b∈fp,∀ob,s5.heap.get? b=some ob->s8.heap.get? b=some ob/\(upd H7 s2.heap.objs.size (.lst (xs++[v7]))) b=none:=λb hb ob e=>by
    have z:=I8.pin (b,ob) (List.mem_append_right _ (List.mem_append_right _ (mem_pinsAt hb e)))
    exact⟨z.1,z.2.1⟩
   refine⟨m',hm',i+1,xs++[v7],_,some y,I8.unpinned,T.keep _ _ _ st5 (λb hb ob e=>(pin b hb ob e).1),λb hb=>?_,w7⟩
   obtain⟨ob,e,_⟩:=T.obj _ _ st5 b hb
   exact (pin b hb ob e).2
 exact codeAny_compStart_list (loop _ rfl) (T.self _ 0 _ _ _ (T.keep 0 _ _ st2 (λb hb o e=>keep b o (by rw[<- hg2];exact Heap.get?_push_of_some _ e))) (loop _ rfl))
end
end L2
namespace L2
open PySem PySem.Spec PyProof.Rows PySem.W
section
variable {M:Model}{A:Around}{E:Value->Shared->Prop}{s:Shared}{base:Heap}{env:Env}{outer:List Env}{L e:Addr}{oe:Obj}{vs:Array Value}{head:Value}{hadNext:Bool}
end
end L2
namespace L2
open PySem PySem.Spec PyProof.Rows
section
variable {P:Program}{w:World}{H H1 H':Hp}{h h1 h':Heap}{outer:List Env}{env:Env}{x L:Addr}{cls:Value}
end
section
variable {P:Program}{w:World}{K:PySem.W.Frag}{mg:Str->Option Value}{base:Heap}{N:List Str}{qual:Str}{scope:Scope}{f:Addr}{cd:Value}{A:Around}{outer:List Env}{s₀:Shared}{H₀:Hp}{E:XK}
end
def SetN (r:Addr) (n:Nat) (h:Heap):Prop:=∃o es ep t,h.get? r=some o/\o.ExactSet/\o.data=.set es ep t/\t.fits es.size=true/\es.size=n
section
variable {X:Cx}
theorem hb_kV {k:Key}{u:Value}(r:RelV (kV k) u):SetT.Hb u:=by
 cases k with
 |inl i=>obtain⟨t,rfl⟩:=r;exact SetT.Hb.int i t
 |inr x=>obtain⟨t,rfl⟩:=r;exact SetT.Hb.str x t
theorem hbs_kV:∀{ks:List Key}{us:List Value},Vals (ks.map kV) us->∀v∈us,SetT.Hb v
 |[],_,.nil,v,hv=>by cases hv
 |k::ks,_,.cons r t,v,hv=>by
  rcases List.mem_cons.mp hv with rfl|hv
  ·exact hb_kV r
  ·exact hbs_kV t v hv
theorem tupK_of {P:Program}{w:World}{H:Hp}{h:Heap}{b:Addr}{ks:List Key}(ok:HOk P w H h) (e:H b=some (.tup (ks.map kV))):SetT.TupK (mixKind P w) h ks b:=by
 obtain⟨_,its,r,o,ho,hc,n,hd⟩:=ok b _ e
 exact⟨o,its.toArray,n,ho,hc,hd,by simpa using items_are r,λv hv=>hbs_kV r v (by simpa using hv)⟩
theorem call_setT (hc:X.calm=true){k:Nat}(hr:Room k X.A):CallR X (.type "set") (λxs H Q=>∃(p:Addr) (bs:List Addr) (rows:List (List Key)),xs=[.ref p]/\H p=some (.tup (bs.map V.ref))/\bs.length=rows.length /\
  (∀(i:Nat) b ks,bs[i]?=some b->rows[i]?=some ks->H b=some (.tup (ks.map kV)))/\rows.Nodup/\rows.length<=1200/\∀r,H r=none->Q (.ref r) (upd H r (.ext (SetN r rows.length)))):=by
 intro pins s σ H xs us Q I rv h
 obtain⟨p,bs,rows,rfl,hp,hlen,hrow,hnd,hsz,q⟩:=h
 obtain⟨u,rfl,ru⟩:=vals1 rv
 cases ru
 obtain⟨_,its,r2,isT⟩:=I.hok p _ hp
 have hl2:its.length=bs.length:=by have:=r2.length;simpa using this.symm
 have un:=hr.units
 have item:∀(i:Nat) (v:Value),its[i]?=some v->∃b,bs[i]?=some b/\v=.ref b:=λi v hv=>by
  have hi:i<bs.length:=by rw[<- hl2];exact (gS_ hv).1
  obtain⟨w',e1,e2⟩:=r2.get (i:=i) (x:=V.ref bs[i]) (by simp[hi])
  rw[hv] at e1;cases e1
  exact⟨bs[i],by simp[hi],e2⟩
 refine SetT.call_set_tuple (knd:=mixKind X.prog X.w) (items:=its.toArray) (val:=λi=>rows.getD i []) (I.ok.hd hc) (by lia) (show s.heap.IsTuple p its.toArray from isT) (λi v hv=>?_) (λi j hij hj z=>?_) (by rw[List.size_toArray,hl2,hlen];exact hsz) λh' tk fin kp=>?_
 ·obtain⟨b,hb,rfl⟩:=item i v (by simpa using hv)
  have hi:i<rows.length:=by rw[<- hlen];exact (gS_ hb).1
  have e:rows.getD i []=rows[i]:=by simp[List.getD,hi]
  show ∃b',Value.ref b=.ref b'/\SetT.TupK _ s.heap (rows.getD i []) b'
  rw[e]
  exact⟨b,rfl,tupK_of I.hok (hrow i b rows[i] hb (by simp[hi]))⟩
 ·rw[List.size_toArray,hl2,hlen] at hj
  have z':rows.getD i []=rows.getD j []:=z
  have hi:i<rows.length:=by lia
  have e1:rows.getD i []=rows[i]:=by simp[List.getD,hi]
  have e2:rows.getD j []=rows[j]:=by simp[List.getD,hj]
  rw[e1,e2] at z'
  have:=(List.getElem_inj hnd).mp z'
  lia
 ·obtain⟨Ks,S⟩:=fin
  obtain⟨o,es,ep,t,ho,hex,hd,g,hf,_,hn,_⟩:=S.ex
  have hn':es.size=rows.length:=by rw[hn,List.size_toArray,hl2,hlen]
  refine⟨.ref s.heap.objs.size,_,I.laid (a:=s.heap.objs.size) (o:=.ext (SetN s.heap.objs.size rows.length)) (t':=tk) (λb o e=>kp b o (Heap.lt_size e) e) (Nat.le_refl _) ⟨⟨o,es,ep,t,ho,hex,hd,g.fits,hn'⟩,⟨o,ho⟩,λh1 h2 φ k=>?_⟩,rfl,q _ (I.hok.fresh (Nat.le_refl _))⟩
  obtain⟨o',es',ep',t',ho',r⟩:=φ
  exact⟨o',es',ep',t',k o' ho',r⟩
theorem call_lenSet:CallR X (.builtin "len") (λxs H Q=>∃(r:Addr) (n:Nat),xs=[.ref r]/\H r=some (.ext (SetN r n))/\n<=1200/\Q (.int n) H):=by
 intro pins s σ H xs us Q I rv h
 obtain⟨r,n,rfl,hr,hn,q⟩:=h
 obtain⟨u,rfl,ru⟩:=vals1 rv
 cases ru
 obtain⟨⟨o,es,ep,t,ho,hex,hd,hf,rfl⟩,_⟩:=I.hok r _ hr
 have hb:(es.size:Int)<=1200:=by lia
 exact call_len_set ho hex hd hf (Int.lt_of_le_of_lt hb (by decide)) ⟨.int es.size,H,I.tok _,⟨_,rfl⟩,q⟩
end
mutual
inductive DataAt (H:Hp):V->PyData->Prop
 |non:DataAt H .non .none
 |bl (b:Bool):DataAt H (.bl b) (.bool b)
 |int (i:Int):DataAt H (.int i) (.int i)
 |str (x:Str):DataAt H (.str x) (.str x)
 |lst {a:Addr}{xs:List V}{ds:List PyData}(h:H a=some (.lst xs)) (r:DatasAt H xs ds):DataAt H (.ref a) (.list ds)
 |tup {a:Addr}{xs:List V}{ds:List PyData}(h:H a=some (.tup xs)) (r:DatasAt H xs ds):DataAt H (.ref a) (.tuple ds)
inductive DatasAt (H:Hp):List V->List PyData->Prop
 |nil:DatasAt H [] []
 |cons {x:V}{xs:List V}{d:PyData}{ds:List PyData}(h:DataAt H x d) (r:DatasAt H xs ds):DatasAt H (x::xs) (d::ds)
end
section
variable {P:Program}{w:World}{H:Hp}{h:Heap}
mutual
theorem DataAt.reads (ok:HOk P w H h):∀{x:V}{d:PyData}{u:Value},DataAt H x d->RelV x u->∃as,Reads h u d as
 |_,_,u,.non,r=>⟨[],by cases (show u=Value.none from r);exact .none⟩
 |_,_,u,.bl b,r=>⟨[],by cases (show u=Value.bool b from r);exact .bool b⟩
 |_,_,u,.int i,r=>⟨[],by obtain⟨t,rfl⟩:=r;exact .int i t⟩
 |_,_,u,.str x,r=>⟨[],by obtain⟨t,rfl⟩:=r;exact .str x t⟩
 |_,_,u,.lst (a:=a) e rs,r=>by
  cases (show u=Value.ref a from r)
  obtain⟨_,its,n,rv,ho⟩:=ok a _ e
  obtain⟨as,ra⟩:=DatasAt.reads ok rs rv
  exact⟨a::as,.list ho rfl rfl (by simpa using ra)⟩
 |_,_,u,.tup (a:=a) e rs,r=>by
  cases (show u=Value.ref a from r)
  obtain⟨_,its,rv,o,ho,hc,n,hd⟩:=ok a _ e
  obtain⟨as,ra⟩:=DatasAt.reads ok rs rv
  exact⟨as,.tuple ho hc hd (by simpa using ra)⟩
theorem DatasAt.reads (ok:HOk P w H h):∀{xs:List V}{ds:List PyData}{us:List Value},DatasAt H xs ds->Vals xs us->∃as,ReadsAll h us ds as
 |_,_,_,.nil,.nil=>⟨[],.nil⟩
 |_,_,_,.cons h1 r1,.cons r rr=>by
  obtain⟨as,ra⟩:=DataAt.reads ok h1 r
  obtain⟨bs,rb⟩:=DatasAt.reads ok r1 rr
  exact⟨as++bs,.cons ra rb⟩
end
mutual
theorem DataAt.same {H':Hp}(s:∀b o,H b=some o->H' b=some o):∀{x:V}{d:PyData},DataAt H x d->DataAt H' x d
 |_,_,.non=>.non
 |_,_,.bl b=>.bl b
 |_,_,.int i=>.int i
 |_,_,.str x=>.str x
 |_,_,.lst e r=>.lst (s _ _ e) (DatasAt.same s r)
 |_,_,.tup e r=>.tup (s _ _ e) (DatasAt.same s r)
theorem DatasAt.same {H':Hp}(s:∀b o,H b=some o->H' b=some o):∀{xs:List V}{ds:List PyData},DatasAt H xs ds->DatasAt H' xs ds
 |_,_,.nil=>.nil
 |_,_,.cons h r=>.cons (DataAt.same s h) (DatasAt.same s r)
end
theorem DatasAt.ints:∀(ns:List Int),DatasAt H (ns.map V.int) (ns.map PyData.int)
 |[]=>.nil
 |n::ns=>.cons (.int n) (DatasAt.ints ns)
end
section
variable {X:Cx}
theorem op_eqD {k:Nat}(hr:Room k X.A):OpR X (compareOp .Eq) (λx y H Q=>∃d e,DataAt H x d/\DataAt H y e/\d.canLay0=true/\e.canLay0=true/\d.depth<=60/\Q (.bl (PyData.eqv d e)) H):=by
 intro pins s σ H x y v u Q I rx ry h
 obtain⟨d,e,hd,he,c1,c2,dp,q⟩:=h
 obtain⟨as,ra⟩:=hd.reads I.hok rx
 obtain⟨bs,rb⟩:=he.reads I.hok ry
 have un:=hr.units
 exact SeqAt.rcAt_reads ra rb c1 c2 (by lia) X.prog X.w X.xe _ ⟨.bl _,H,I,rfl,q⟩
theorem op_neD {k:Nat}(hr:Room k X.A):OpR X (compareOp .NotEq) (λx y H Q=>∃d e,DataAt H x d/\DataAt H y e/\d.canLay0=true/\e.canLay0=true/\d.depth<=60/\Q (.bl (!PyData.eqv d e)) H):=by
 intro pins s σ H x y v u Q I rx ry h
 obtain⟨d,e,hd,he,c1,c2,dp,q⟩:=h
 obtain⟨as,ra⟩:=hd.reads I.hok rx
 obtain⟨bs,rb⟩:=he.reads I.hok ry
 have un:=hr.units
 exact SeqAt.rcNeAt_reads ra rb c1 c2 (by lia) X.prog X.w X.xe _ ⟨.bl _,H,I,rfl,q⟩
end
theorem eqvAll_ints:∀(a b:List Int),PyData.eqvAll (a.map PyData.int) (b.map PyData.int)=decide (a=b)
 |[],[]=>by simp[PyData.eqvAll]
 |x::a,[]=>by simp[PyData.eqvAll]
 |[],y::b=>by simp[PyData.eqvAll]
 |x::a,y::b=>by
  show (PyData.eqv (.int x) (.int y)&&PyData.eqvAll (a.map PyData.int) (b.map PyData.int))=_
  rw[eqvAll_ints a b,show PyData.eqv (.int x) (.int y)=(x==y) by simp[PyData.eqv]]
  rw[Bool.eq_iff_iff]
  simp
theorem layAll_ints:∀(a:List Int),PyData.canLayAll0 (a.map PyData.int)=true
 |[]=>by simp[PyData.canLayAll0]
 |x::a=>by
  show (PyData.canLay0 (.int x)&&PyData.canLayAll0 (a.map PyData.int))=true
  rw[layAll_ints a]
  simp[PyData.canLay0]
def dT (ns:List Int):PyData:=.tuple (ns.map PyData.int)
def dL (ns:List Int):PyData:=.list (ns.map PyData.int)
theorem dT_lay (ns:List Int):(dT ns).canLay0=true:=by
 show PyData.canLayAll0 (ns.map PyData.int)=true
 exact layAll_ints ns
theorem dL_lay (ns:List Int):(dL ns).canLay0=true:=by
 show PyData.canLayAll0 (ns.map PyData.int)=true
 exact layAll_ints ns
theorem dT_eqv (a b:List Int):PyData.eqv (dT a) (dT b)=decide (a=b):=by
 show PyData.eqvAll _ _=_
 exact eqvAll_ints a b
theorem dL_eqv (a b:List Int):PyData.eqv (dL a) (dL b)=decide (a=b):=by
 show PyData.eqvAll _ _=_
 exact eqvAll_ints a b
end L2
namespace EnumT
open PySem PySem.Spec
section
variable {prog:Program}{w:World}{A:Around}{E:Value->Shared->Prop}{s:Shared}
theorem inner_item {it t:Addr}{i:Nat}{items:Array Value}{x:Value}{Q:Value->Shared->Prop}(st:s.heap.IsTupleIter it t i) (ht:s.heap.IsTuple t items) (hx:items[i]?=some x)
  (q:∀h',h'.IsTupleIter it t (i+1)->Heap.SameBut it s.heap h'->Q x { s with heap:=h' }):wpAny (model prog w) A (Builtin.SmallTypes.nextOf (.ref it)) Q E s:=by
 obtain⟨o,e1,e2,e3⟩:=id st
 obtain⟨ot,f1,_,nt,f2⟩:=ht
 unfold Builtin.SmallTypes.nextOf
 refine wpAny_bind (wpAny_callSpecial?_slot (name:=Str.ofString "__next__") st.typeIs F.slot_tuple_iterator_next (wpAny_call_entry F.slot_tuple_iterator_next st.typeIs F.entry_tuple_iterator_next ?_ (F.args_tuple_iterator_next_1 _)))
 show wpAny _ _ (field (.ref it) 0 >>= _) _ _ s
 refine wpAny_bind (wpAny_field e1 e3 (x:=.ref t) rfl ?_)
 show wpAny _ _ (if (Value.ref t==Value.none)=true then _ else _) _ _ s
 rw[if_neg (show ¬((Value.ref t==Value.none)=true) from Bool.false_ne_true)]
 show wpAny _ _ (field (.ref it) 1 >>= _) _ _ s
 refine wpAny_bind (wpAny_field e1 e3 (x:=.int i 0) rfl ?_)
 show wpAny _ _ (seqItems? (.ref t) >>= _) _ _ s
 refine wpAny_bind (wpAny_seqItems f1 f2 ?_)
 simp only[Int.toNat_natCast,hx]
 refine wpAny_bind (wpAny_setField e1 e3 (by simp) (wpAny_pure ⟨x,rfl,wpAny_pure (q _ ⟨_,Heap.get?_update_self _ e1 (Obj.isFreed_of_fields (Obj.data_mapFields e3 _)),(Obj.cls_mapFields ..).trans e2,?_⟩ (Heap.SameBut.update ..))⟩))
 rw[Obj.data_mapFields e3];simp[rawInt]
theorem inner_end {it t:Addr}{i:Nat}{items:Array Value}{Q:Value->Shared->Prop}(hh:A.handled=none) (st:s.heap.IsTupleIter it t i) (ht:s.heap.IsTuple t items) (hx:items[i]?=none)
  (q:∀h' e,Heap.ExtBut it s.heap h'->(∃o,h'.get? e=some o/\o.cls=.type "StopIteration")->E (.ref e) { s with heap:=h' }):wpAny (model prog w) A (Builtin.SmallTypes.nextOf (.ref it)) Q E s:=by
 obtain⟨o,e1,e2,e3⟩:=id st
 obtain⟨ot,f1,_,nt,f2⟩:=ht
 unfold Builtin.SmallTypes.nextOf
 refine wpAny_bind (wpAny_callSpecial?_slot (name:=Str.ofString "__next__") st.typeIs F.slot_tuple_iterator_next (wpAny_call_entry F.slot_tuple_iterator_next st.typeIs F.entry_tuple_iterator_next ?_ (F.args_tuple_iterator_next_1 _)))
 show wpAny _ _ (field (.ref it) 0 >>= _) _ _ s
 refine wpAny_bind (wpAny_field e1 e3 (x:=.ref t) rfl ?_)
 show wpAny _ _ (if (Value.ref t==Value.none)=true then _ else _) _ _ s
 rw[if_neg (show ¬((Value.ref t==Value.none)=true) from Bool.false_ne_true)]
 show wpAny _ _ (field (.ref it) 1 >>= _) _ _ s
 refine wpAny_bind (wpAny_field e1 e3 (x:=.int i 0) rfl ?_)
 show wpAny _ _ (seqItems? (.ref t) >>= _) _ _ s
 refine wpAny_bind (wpAny_seqItems f1 f2 ?_)
 simp only[Int.toNat_natCast,hx]
 refine wpAny_bind (wpAny_rule (wpAny_bind (wpAny_setField e1 e3 (by simp) ?_)))
 show wpAny _ _ (newExc (.type "StopIteration") [] >>= _) _ _ _
 refine wpAny_bind ?_
 simp only[newExc,newTuple]
 refine wpAny_bind (wpAny_newObj_type ?_ (by size_fits))
 refine wpAny_bind (m:=firstArgMember _ _) (wpAny_of_eq (a:=Value.none) (by first|rfl|(simp only[firstArgMember];rfl)) ?_)
 refine wpAny_newObj_type ?_ (by size_fits)
 simp only[raiseNew]
 refine wpAny_bind (wpAny_handled ?_)
 first|rw[show A.in1.handled=none from hh]|rw[hh]
 refine wpAny_bind (wpAny_pure (wpAny_throw ?_))
 exact q _ _ (((Heap.SameBut.update ..).extBut.push _).push _) ⟨_,Heap.get?_push_size _ rfl,rfl⟩
theorem pair_next {e it:Addr}{i:Nat}{x old:Value}{St:Heap->Prop}{Q:Value->Shared->Prop}(he:IsEnum s.heap e it i old) (hne:e≠it)
  (nx:∀Q':Value->Shared->Prop,(∀h',Heap.SameBut it s.heap h'->St h'->Q' x { s with heap:=h' })->wpAny (model prog w) A (Builtin.SmallTypes.nextOf (.ref it)) Q' E s)
  (q:∀h1 h',Heap.SameBut it s.heap h1->St h1->IsEnumOut h' e it ((i:Int)+1) x s.heap.objs.size->h'.get? s.heap.objs.size=some { cls:=.type "tuple",data:=.seq #[.int i s.toks,x] } ->
   (∀b o,b≠e->h1.get? b=some o->h'.get? b=some o)->Q (.ref s.heap.objs.size) { s with heap:=h',toks:=s.toks+1 }) :
  wpAny (model prog w) A (Builtin.«enumerate.__next__» ⟨[.ref e],[]⟩) (λfin s'=>∃v,fin=.done (.ret v)/\Q v s') E s:=by
 obtain⟨hp,g,d,tk,os⟩:=s
 show wpAny _ _ (field (.ref e) 2 >>= _) _ _ _
 refine wpAny_bind (wpAny_field he rfl (x:=.ref it) rfl ?_)
 refine wpAny_bind (nx _ λh₁ s1 st1=>?_)
 replace s1:Heap.SameBut it hp h₁:=s1
 have he₁:IsEnum h₁ e it i old:=(s1.2 e hne).trans he
 show wpAny _ _ (field (.ref e) 3 >>= _) _ _ ⟨h₁,g,d,tk,os⟩
 refine wpAny_bind (wpAny_field he₁ rfl (x:=rawInt i) rfl ?_)
 show wpAny _ _ (field (.ref e) 4 >>= _) _ _ ⟨h₁,g,d,tk,os⟩
 refine wpAny_bind (wpAny_field he₁ rfl (x:=.none) rfl ?_)
 show wpAny _ _ (mkInt i >>= _) _ _ ⟨h₁,g,d,tk,os⟩
 refine wpAny_bind (wpAny_mkInt ?_)
 show wpAny _ _ (setField (.ref e) 3 (rawInt ((i:Int)+1)) >>= _) _ _ ⟨h₁,g,d,tk+1,os⟩
 refine wpAny_bind (wpAny_setField_rec he₁ (by simp) λh₂ he₂ s2=>?_)
 replace s2:Heap.SameBut e h₁ h₂:=s2
 replace he₂:IsEnum h₂ e it ((i:Int)+1) old:=he₂
 show wpAny _ _ (setField (.ref e) 4 .none >>= _) _ _ ⟨h₂,g,d,tk+1,os⟩
 refine wpAny_bind (wpAny_setField_rec he₂ (by simp) λh₃ he₃ s3=>?_)
 replace s3:Heap.SameBut e h₂ h₃:=s3
 replace he₃:IsEnum h₃ e it ((i:Int)+1) old:=he₃
 show wpAny _ _ (newTuple [.int i tk,x] >>= _) _ _ ⟨h₃,g,d,tk+1,os⟩
 refine wpAny_bind (wpAny_newTuple ?_)
 have z3:h₃.objs.size=hp.objs.size:=by rw[s3.1,s2.1,s1.1]
 have elt:e<hp.objs.size:=Heap.lt_size he
 obtain⟨h₄,e4⟩:∃h₄,h₃.push { cls:=.type "tuple",data:=.seq #[.int i tk,x] }=h₄:=⟨_,rfl⟩
 have he₄:IsEnum h₄ e it ((i:Int)+1) old:=by rw[<- e4];exact Heap.get?_push_of_some _ he₃
 have ht₄:h₄.get? hp.objs.size=some { cls:=.type "tuple",data:=.seq #[.int i tk,x] }:=by rw[<- e4,<- z3];exact Heap.get?_push_size _ rfl
 have k4:∀b o,b≠e->h₁.get? b=some o->h₄.get? b=some o:=λb o hb eb=>by
  rw[<- e4];exact Heap.get?_push_of_some _ (s3.extBut b o hb (s2.extBut b o hb eb))
 rw[e4]
 show wpAny _ _ (Builtin.SmallTypes.ownedTupleIsFree (.ref e) >>= _) _ _ ⟨h₄,g,d,tk+1,os⟩
 rw[z3]
 refine wpAny_bind ?_
 unfold Builtin.SmallTypes.ownedTupleIsFree
 refine wpAny_bind (wpAny_field he₄ rfl (x:=.none) rfl (wpAny_pure ?_))
 simp only[if_true]
 refine wpAny_bind (wpAny_rule ?_)
 refine wpAny_bind (wpAny_field he₄ rfl (x:=old) rfl ?_)
 refine wpAny_bind (wpAny_setField_rec he₄ (by simp) λh₅ he₅ s5=>?_)
 replace s5:Heap.SameBut e h₄ h₅:=s5
 replace he₅:IsEnum h₅ e it ((i:Int)+1) x:=he₅
 show wpAny _ _ (Builtin.SmallTypes.ownedTupleHandOut (.ref e) (.ref hp.objs.size) >>= _) _ _ ⟨h₅,g,d,tk+1,os⟩
 refine wpAny_bind ?_
 unfold Builtin.SmallTypes.ownedTupleHandOut
 refine wpAny_bind (wpAny_setField_rec he₅ (by simp) λh₆ he₆ s6=>?_)
 replace s6:Heap.SameBut e h₅ h₆:=s6
 replace he₆:IsEnumOut h₆ e it ((i:Int)+1) x hp.objs.size:=he₆
 refine wpAny_setField_rec he₆ (by simp) λh₇ he₇ s7=>?_
 replace s7:Heap.SameBut e h₆ h₇:=s7
 replace he₇:IsEnumOut h₇ e it ((i:Int)+1) x hp.objs.size:=he₇
 have k7:∀b o,b≠e->h₄.get? b=some o->h₇.get? b=some o:=λb o hb eb=>s7.extBut b o hb (s6.extBut b o hb (s5.extBut b o hb eb))
 exact wpAny_bind (wpAny_letGo (wpAny_pure ⟨_,rfl,q h₁ h₇ s1 st1 he₇ (k7 _ _ (Nat.ne_of_gt elt) ht₄) λb o hb eb=>k7 b o hb (k4 b o hb eb)⟩))
theorem next_pair {e it t:Addr}{i:Nat}{items:Array Value}{x old:Value}{Q:Option Value->Shared->Prop}(he:IsEnum s.heap e it i old) (hne:e≠it) (st:s.heap.IsTupleIter it t i) (ht:s.heap.IsTuple t items) (hx:items[i]?=some x)
  (q:∀h1 h',Heap.SameBut it s.heap h1->IsEnumOut h' e it ((i:Int)+1) x s.heap.objs.size->h'.IsTupleIter it t (i+1)->h'.get? s.heap.objs.size=some { cls:=.type "tuple",data:=.seq #[.int i s.toks,x] } ->
   (∀b o,b≠e->h1.get? b=some o->h'.get? b=some o)->Q (some (.ref s.heap.objs.size)) { s with heap:=h',toks:=s.toks+1 }):wpAny (model prog w) A (pyNext (.ref e)) Q E s:=by
 have hT:s.TypeIs (.ref e) "enumerate":=⟨_,he,rfl⟩
 unfold pyNext
 refine wpAny_bind (wpAny_attempt (wpAny_callSpecial?_slot (name:=Str.ofString "__next__") hT F.slot_enumerate_next (wpAny_call_entry F.slot_enumerate_next hT F.entry_enumerate_next
  (pair_next (St:=λh=>h.IsTupleIter it t (i+1)) he hne (λQ' q'=>inner_item st ht hx λh' st' sb=>q' h' sb st') λh1 h' sb st1 ho hT' kp=>wpAny_pure (q h1 h' sb ho ?_ hT' kp)) (F.args_enumerate_next_1 _))))
 obtain⟨o,x1,x2⟩:=st1
 exact⟨o,kp it o (Ne.symm hne) x1,x2⟩
theorem next_end {e it t:Addr}{i:Nat}{items:Array Value}{old:Value}{Q:Option Value->Shared->Prop}(hh:A.handled=none) (he:IsEnum s.heap e it i old) (st:s.heap.IsTupleIter it t i) (ht:s.heap.IsTuple t items) (hx:items[i]?=none)
  (q:∀h',Heap.ExtBut it s.heap h'->Q none { s with heap:=h' }):wpAny (model prog w) A (pyNext (.ref e)) Q E s:=by
 have hT:s.TypeIs (.ref e) "enumerate":=⟨_,he,rfl⟩
 unfold pyNext
 refine wpAny_bind (wpAny_attempt (wpAny_callSpecial?_slot (name:=Str.ofString "__next__") hT F.slot_enumerate_next (wpAny_call_entry F.slot_enumerate_next hT F.entry_enumerate_next ?_ (F.args_enumerate_next_1 _))))
 show wpAny _ _ (field (.ref e) 2 >>= _) _ _ _
 refine wpAny_bind (wpAny_field he rfl (x:=.ref it) rfl ?_)
 refine wpAny_bind (inner_end hh st ht hx λh' x eb ⟨o,ho,hc⟩=>?_)
 exact wpAny_bind (wpAny_isInstance (T:= "StopIteration") (b:=true) ⟨o,ho,hc⟩ isSubtype_stop (wpAny_pure (q _ eb)))
theorem meets_new (l:Addr) (items:Array Value) (n:Nat) (dct:Option Addr) (sl:Array (Option Value)) :
  Meets (Builtin.«enumerate.__new__» ⟨[.type "enumerate",.ref l],[]⟩) (λ_ R s=>s.heap.get? l=some { cls:=.type "tuple",dict:=dct,data:=.seq items n,slots:=sl } /\
   R (.ok (.ret (.ref (s.heap.push { cls:=.type "tuple_iterator",data:=.fields #[.ref l,.int 0 0] }).objs.size)))
    { s with heap:=(s.heap.push { cls:=.type "tuple_iterator",data:=.fields #[.ref l,.int 0 0] }).push { cls:=.type "enumerate",data:=.fields #[.none,.bool false,.ref s.heap.objs.size,rawInt 0,.none,.none] } }):=
 .of_wp λprog w A R s h=>by
  obtain⟨hp,g,d,tk,os⟩:=s;obtain⟨hl,h⟩:=h
  have f0:=sub_enumerate
  have hL:Heap.IsTuple (Shared.heap ⟨hp,g,d,tk,os⟩) l items:=⟨_,hl,rfl,n,rfl⟩
  wp_walk using AutoSeq1.wpAny_loadPart' hl
  refine wpAny_stack_any λst=>wpAny_pure ?_
  split
  ·rename_i c _ _ _ _ _
   cases (c==Value.type "enumerate")
   all_goals
    wp_walk using AutoSeq1.wpAny_loadPart' hl,wpAny_pyIter_tuple hL
    exact⟨_,rfl,h⟩
  ·wp_walk using AutoSeq1.wpAny_loadPart' hl,wpAny_pyIter_tuple hL
   exact⟨_,rfl,h⟩
theorem call_new {l:Addr}{items:Array Value}{Q:Value->Shared->Prop}(hL:s.heap.IsTuple l items)
  (q:∀h',IsEnum h' (s.heap.objs.size+1) s.heap.objs.size 0 .none->h'.IsTupleIter s.heap.objs.size l 0->(∀b o,s.heap.get? b=some o->h'.get? b=some o)->Q (.ref (s.heap.objs.size+1)) { s with heap:=h' }) :
  wpAny (model prog w) A (call (.type "enumerate") [.ref l]) Q E s:=by
 obtain⟨⟨c,dct,dt,sl⟩,hl,hc,n,hd⟩:=hL
 replace hc:c=.type "tuple":=hc
 replace hd:dt=.seq items n:=hd
 subst hc hd
 refine callType_new F.called_enumerate (by decide) (F.typeCall_enumerate_1 _) (F.newCall_enumerate_1 _) (λobj=>F.args_object_init_2 obj _) F.entry_enumerate_new (meets_new l items n dct sl) ⟨hl,?_⟩
 have z1:(s.heap.push { cls:=.type "tuple_iterator",data:=.fields #[.ref l,.int 0 0] }).objs.size=s.heap.objs.size+1:=Heap.size_push ..
 show _/\_
 rw[z1]
 have he:=Heap.get?_push_size (s.heap.push { cls:=.type "tuple_iterator",data:=.fields #[.ref l,.int 0 0] }) (o:={ cls:=.type "enumerate",data:=.fields #[.none,.bool false,.ref s.heap.objs.size,rawInt 0,.none,.none] }) rfl
 rw[z1] at he
 exact⟨⟨_,he,rfl⟩,q _ he ⟨_,Heap.get?_push_of_some _ (Heap.get?_push_size _ rfl),rfl,rfl⟩ λb o x=>Heap.get?_push_of_some _ (Heap.get?_push_of_some _ x)⟩
end
end EnumT
namespace L2
open PySem PySem.Spec PyProof.Rows
def Ite (K:PySem.W.Frag) (a:Addr):It:=
 ⟨λi H=>∃xs x,SqT K H a xs/\xs[i]?=some x,λi H y H'=>∃p x,H p=none/\(∀xs,SqT K H a xs->xs[i]?=some x)/\H'=upd H p (.tup [.int i,x])/\y=.ref p,λi H=>∃xs,SqT K H a xs/\xs.length<=i⟩
theorem push_lt {h:Heap}{o o':Obj}{b:Addr}(e:(h.push o).get? b=some o') (hlt:b<h.objs.size):h.get? b=some o':=by
 unfold Heap.get? Heap.push at *
 simp only[Array.getElem?_push] at e
 rw[if_neg (Nat.ne_of_lt hlt)] at e
 exact e
theorem turn_enumT {P:Program}{w:World}{K:PySem.W.Frag}{elts:List Expr}{x1:Nat}{tpos:Pos}(a e it:Addr) (hne:e≠it) :
  Turn P w K (.Tuple elts x1 tpos) (Ite K a) [e,it] e (λi h=>(∃old,IsEnum h e it i old)/\h.IsTupleIter it a i) where
 mem:=by simp
 obj:=λi h st b hb=>by
  rcases List.mem_cons.mp hb with rfl|hb
  ·obtain⟨⟨old,z⟩,_⟩:=st
   exact⟨_,z,λv q=>by
    have q':Data.fields _=Data.cell v:=q
    cases q'⟩
  ·have:b=it:=by simpa using hb
   subst this
   obtain⟨_,o,z,_,d⟩:=st
   exact⟨o,z,λv q=>by rw[d] at q;cases q⟩
 keep:=λi h h' st k=>by
  obtain⟨⟨old,z⟩,st2⟩:=st
  exact⟨⟨old,k e (by simp) _ z⟩,st2.at λo q=>k it (by simp) o q⟩
 item:=by
  intro X hP hw hK hc i pins s σ H E I hf st hg
  subst hP hw hK
  obtain⟨⟨old,he⟩,st2⟩:=st
  obtain⟨xs,x,hq,hx⟩:=hg
  obtain⟨its,rv,p,hz⟩:=I.tuple hq
  obtain⟨u,hu,ru⟩:=rv.get hx
  obtain⟨e0,e1,e2,e3,e4,e5⟩:=hf e (by simp)
  obtain⟨f0,f1,f2,f3,f4,f5⟩:=hf it (by simp)
  refine EnumT.next_pair he hne st2 (show s.heap.IsTuple a its.toArray from p) (x:=u) (by simpa using hu) λh1 h' sb ho st3 ht kp=>?_
  refine⟨_,rfl,wpAny_letOwnedTupleGo_enum ho λh2 he2 sb2=>?_⟩
  have elt:e<s.heap.objs.size:=Heap.lt_size he
  have ilt:it<s.heap.objs.size:=by obtain⟨o,z,_⟩:=st2;exact Heap.lt_size z
  have fresh:H s.heap.objs.size=none:=I.hok.fresh (Nat.le_refl _)
  have z1:h1.objs.size=s.heap.objs.size:=sb.1
  have J0:Inv X pins σ (upd H s.heap.objs.size (.tup [.int i,x])) { s with heap:=s.heap.push { cls:=.type "tuple",data:=.seq #[.int i s.toks,u] },toks:=s.toks+1 }:=
   I.laid (λb o q=>Heap.get?_push_of_some _ q) (Nat.le_refl _) ⟨by show 2<=sizeLine;decide,[.int i s.toks,u],.cons ⟨_,rfl⟩ (.cons ru .nil),_,Heap.get?_push_size _ rfl,rfl,⟨_,rfl⟩,rfl⟩
  have ne1:(upd H s.heap.objs.size (.tup [.int i,x])) it=none:=by rw[upd_ne (Nat.ne_of_lt ilt)];exact f0
  have ne2:(upd H s.heap.objs.size (.tup [.int i,x])) e=none:=by rw[upd_ne (Nat.ne_of_lt elt)];exact e0
  have J1:=J0.turned (it:=it) (h':=h1.push { cls:=.type "tuple",data:=.seq #[.int i s.toks,u] }) (t':=s.toks+1) (λb o hb q=>by
    have q:(s.heap.push { cls:=.type "tuple",data:=.seq #[.int i s.toks,u] }).get? b=some o:=q
    by_cases hlt:b<s.heap.objs.size
    ·have q':s.heap.get? b=some o:=push_lt q hlt
     exact Heap.get?_push_of_some _ ((sb.2 b hb).trans q')
    ·have hb2:b<s.heap.objs.size+1:=by have:=Heap.lt_size q;rw[Heap.size_push] at this;exact this
     have eb:b=s.heap.objs.size:=Nat.le_antisymm (Nat.le_of_lt_succ hb2) (Nat.le_of_not_lt hlt)
     subst eb
     rw[Heap.get?_push_size _ rfl] at q
     cases q
     have:=Heap.get?_push_size h1 (o:={ cls:=.type "tuple",data:=.seq #[.int i s.toks,u] }) rfl
     rw[z1] at this
     exact this) ne1 f1 f3 f4 f5
  have J2:=J1.turned (it:=e) (h':=h') (t':=s.toks+1) (λb o hb q=>by
    have q:(h1.push { cls:=.type "tuple",data:=.seq #[.int i s.toks,u] }).get? b=some o:=q
    by_cases hlt:b<s.heap.objs.size
    ·have q':h1.get? b=some o:=push_lt q (by rw[z1];exact hlt)
     exact kp b o hb q'
    ·have hb2:b<s.heap.objs.size+1:=by have:=Heap.lt_size q;rw[Heap.size_push,z1] at this;exact this
     have eb:b=s.heap.objs.size:=Nat.le_antisymm (Nat.le_of_lt_succ hb2) (Nat.le_of_not_lt hlt)
     subst eb
     have:=Heap.get?_push_size h1 (o:={ cls:=.type "tuple",data:=.seq #[.int i s.toks,u] }) rfl
     rw[z1] at this
     rw[this] at q
     cases q
     exact ht) ne2 e1 e3 e4 e5
  have J3:=J2.turned (it:=e) (h':=h2) (t':=s.toks+1) (λb o hb q=>(sb2.2 b hb).trans q) ne2 e1 e3 e4 e5
  refine⟨.ref s.heap.objs.size,_,J3,rfl,⟨_,x,fresh,λys hy=>by rw[I.tuple_inj hy hq];exact hx,rfl,rfl⟩,⟨⟨u,by
   have:(((i+1:Nat)):Int)=(i:Int)+1:=by lia
   rw[this];exact he2⟩,st3.at λo q=>(sb2.2 it (Ne.symm hne)).trans q⟩,λb hb=>?_⟩
  rcases List.mem_cons.mp hb with rfl|hb
  ·exact ne2
  ·have:b=it:=by simpa using hb
   subst this
   exact ne1
 done:=by
  intro X hP hw hK hc i pins s σ H E I hf st hg
  subst hP hw hK
  obtain⟨⟨old,he⟩,st2⟩:=st
  obtain⟨xs,hq,hx⟩:=hg
  obtain⟨its,rv,p,hz⟩:=I.tuple hq
  obtain⟨f0,f1,f2,f3,f4,f5⟩:=hf it (by simp)
  have hl:=rv.length
  exact EnumT.next_end (I.ok.hd hc) he st2 (show s.heap.IsTuple a its.toArray from p) (by simp;lia) λh' eb=>⟨rfl,I.turned (t':=s.toks) (λb o hb e=>eb b o hb e) f0 f1 f3 f4 f5⟩
 self:=λ_ _ _ _ _ st h=>by
  obtain⟨⟨old,he⟩,_⟩:=st
  exact wpAny_pyIter_enum he h
section
variable {X:Cx}{elts:List Expr}{x1:Nat}{tpos:Pos}
def iEnumT (K:PySem.W.Frag) (ta:TA):TI:=λσ H R=>ta σ H λvs H1=>∃a,vs=[.ref a]/\(∃xs,SqT K H1 a xs)/\R (Ite K a) H1
theorem pi_enumT {e:Expr}{ta:TA}{p pos:Pos}(hg:Gl X "enumerate") (hm:X.mg "enumerate" = none) (ha:PA X [e] ta) (hs:starEach [e] X.env=[(false,eval e X.env)]:=by rfl):PI X (.Tuple elts x1 tpos) (.Call (.Name "enumerate" p) [e] [] pos) (iEnumT X.K ta):=by
 intro pins s σ H R I h
 refine Call_ (ld_blt I hg hm PyProof.Rows.boot_enumerate (PyProof.Rows.callWith_type1 (thn (ha pos pins s σ H _ I h) λus s1 ⟨vs,H1,I1,r1,q1⟩=>?_) hs rfl))
 obtain⟨a,rfl,⟨xs,hq⟩,q⟩:=q1
 obtain⟨u,rfl,ru⟩:=vals1 r1
 cases ru
 obtain⟨its,rv,pt,hz⟩:=I1.tuple hq
 refine EnumT.call_new (show s1.heap.IsTuple a its.toArray from pt) λh' he st kp=>?_
 refine wpAny_pyIter_enum he ?_
 have J:Inv X pins σ H1 { s1 with heap:=h' }:=I1.kept (t':=s1.toks) kp
 refine⟨s1.heap.objs.size+1,[s1.heap.objs.size+1,s1.heap.objs.size],_,_,H1,rfl,J,turn_enumT a _ _ (Nat.succ_ne_self _),⟨⟨.none,he⟩,st⟩,λb hb=>?_,q⟩
 rcases List.mem_cons.mp hb with rfl|hb
 ·exact I1.fpOk (Nat.le_succ _) (I1.hok.fresh (Nat.le_succ _))
 ·have:b=s1.heap.objs.size:=by simpa using hb
  subst this
  exact I1.fpOk (Nat.le_refl _) (I1.hok.fresh (Nat.le_refl _))
end
end L2
namespace ZipT
open PySem PySem.Spec
structure At (h:Heap) (z I O a b p q:Addr) (n:Nat) (f:Value):Prop where
 zp:IsZip h z I O f
 pr:IsPair h I (.ref a) (.ref b)
 ow:∃x y,IsPair h O x y
 ia:h.IsTupleIter a p n
 ib:h.IsTupleIter b q n
structure Ap (z I O a b:Addr):Prop where
 Iz:I≠z
 Oz:O≠z
 az:a≠z
 bz:b≠z
 IO:I≠O
 Ia:I≠a
 Ib:I≠b
 Oa:O≠a
 Ob:O≠b
 ab:a≠b
theorem tup_at {h h':Heap}{t:Addr}{its:Array Value}(x:h.IsTuple t its) (k:∀o,h.get? t=some o->h'.get? t=some o):h'.IsTuple t its:=let ⟨o,e,r⟩:=x;⟨o,k o e,r⟩
section
variable {prog:Program}{w:World}{A:Around}{E:Value->Shared->Prop}{s:Shared}{z I O a b p q:Addr}{n:Nat}{xs ys:Array Value}
theorem item {x y:Value}{Q:Value->Shared->Prop}(D:Ap z I O a b) (Z:At s.heap z I O a b p q n .none) (nps:∀c,c=z\/c=O\/c=a\/c=b->c≠p/\c≠q) (hp:s.heap.IsTuple p xs) (hq:s.heap.IsTuple q ys) (hx:xs[n]?=some x) (hy:ys[n]?=some y)
  (k:∀h',At h' z I O a b p q (n+1) (rawInt s.heap.objs.size)->IsPair h' s.heap.objs.size x y->(∀c u,c≠z->c≠O->c≠a->c≠b->s.heap.get? c=some u->h'.get? c=some u)->Q (.ref s.heap.objs.size) { s with heap:=h' }) :
  wpAny (model prog w) A (Builtin.«zip.__next__» ⟨[.ref z],[]⟩) (λfin s'=>∃v,fin=.done (.ret v)/\Q v s') E s:=by
 obtain⟨zp,pr,⟨x0,y0,ow⟩,ia,ib⟩:=Z
 show wpAny _ _ (field (.ref z) 2 >>= _) _ _ _;refine wpAny_bind (wpAny_field zp rfl (x:=.bool false) rfl ?_)
 show wpAny _ _ (field (.ref z) 3 >>= _) _ _ _;refine wpAny_bind (wpAny_field zp rfl (x:=.ref I) rfl (wpAny_bind (wpAny_seqItems pr rfl ?_)))
 show wpAny _ _ (Builtin.SmallTypes.ownedTupleIsFree (.ref z) >>= _) _ _ _;refine wpAny_bind ?_;unfold Builtin.SmallTypes.ownedTupleIsFree
 refine wpAny_bind (wpAny_field zp rfl (x:=.none) rfl (wpAny_pure ?_));simp only[if_true]
 refine wpAny_bind (wpAny_rule (wpAny_bind (wpAny_field zp rfl (x:=.ref O) rfl (wpAny_bind (wpAny_setField_rec zp (by simp) λg1 z1 u1=>?_)))))
 replace z1:IsZip g1 z I O .ellipsis:=z1
 refine wpAny_bind ?_;simp only[List.zipIdx_cons,List.zipIdx_nil,List.forIn_cons,List.forIn_nil]
 refine wpAny_bind (wpAny_bind (wpAny_onRaise ?_))
 have hp1:=tup_at hp λu e=>u1.extBut p u (nps z (.inl rfl)).1.symm e
 have ia1:g1.IsTupleIter a p n:=ia.at λu e=>u1.extBut a u D.az e
 show wpAny _ _ (Builtin.SmallTypes.nextOf (.ref a) >>= _) _ _ _;refine wpAny_bind (EnumT.inner_item ia1 hp1 hx λg2 ia2 u2=>wpAny_pure ?_)
 have ow2:IsPair g2 O x0 y0:=u2.extBut _ _ D.Oa (u1.extBut _ _ D.Oz ow)
 refine wpAny_bind (wpAny_seqItems ow2 rfl (wpAny_bind (wpAny_updateSeq_pair ow2 λg3 ow3 u3=>wpAny_bind (wpAny_letGo (wpAny_pure ?_)))))
 replace ow3:IsPair g3 O x y0:=ow3
 refine wpAny_bind (wpAny_bind (wpAny_onRaise ?_))
 have hq3:=tup_at hq λu e=>u3.extBut q u (nps O (.inr (.inl rfl))).2.symm (u2.extBut q u (nps a (.inr (.inr (.inl rfl)))).2.symm (u1.extBut q u (nps z (.inl rfl)).2.symm e))
 have ib3:g3.IsTupleIter b q n:=ib.at λu e=>u3.extBut b u D.Ob.symm (u2.extBut b u D.ab.symm (u1.extBut b u D.bz e))
 show wpAny _ _ (Builtin.SmallTypes.nextOf (.ref b) >>= _) _ _ _;refine wpAny_bind (EnumT.inner_item ib3 hq3 hy λg4 ib4 u4=>wpAny_pure ?_)
 have ow4:IsPair g4 O x y0:=u4.extBut _ _ D.Ob ow3
 refine wpAny_bind (wpAny_seqItems ow4 rfl (wpAny_bind (wpAny_updateSeq_pair ow4 λg5 ow5 u5=>wpAny_bind (wpAny_letGo (wpAny_pure (wpAny_pure ?_))))))
 replace ow5:IsPair g5 O x y:=ow5
 refine wpAny_bind (wpAny_seqItems ow5 rfl (wpAny_bind (wpAny_newTuple ?_)))
 have size5:g5.objs.size=s.heap.objs.size:=by rw[u5.1,u4.1,u3.1,u2.1,u1.1]
 have all5:∀c u,c≠z->c≠O->c≠a->c≠b->s.heap.get? c=some u->g5.get? c=some u:=λc u c1 c2 c3 c4 e=>u5.extBut _ _ c2 (u4.extBut _ _ c4 (u3.extBut _ _ c2 (u2.extBut _ _ c3 (u1.extBut _ _ c1 e))))
 have zp5:IsZip g5 z I O .ellipsis:=u5.extBut _ _ D.Oz.symm (u4.extBut _ _ D.bz.symm (u3.extBut _ _ D.Oz.symm (u2.extBut _ _ D.az.symm z1)))
 have ia5:g5.IsTupleIter a p (n+1):=ia2.at λu e=>u5.extBut a u D.Oa.symm (u4.extBut a u D.ab (u3.extBut a u D.Oa.symm e))
 have ib5:g5.IsTupleIter b q (n+1):=ib4.at λu e=>u5.extBut b u D.Ob.symm e
 have zlt:=Heap.lt_size zp5
 show wpAny _ _ (Builtin.SmallTypes.ownedTupleHandOut (.ref z) (.ref g5.objs.size) >>= _) _ _ _;refine wpAny_bind ?_;unfold Builtin.SmallTypes.ownedTupleHandOut
 have zp6:IsZip (g5.push { cls:=.type "tuple",data:=.seq #[x,y] }) z I O .ellipsis:=Heap.get?_push_of_some _ zp5
 refine wpAny_bind (wpAny_setField_rec zp6 (by simp) λg7 zp7 u7=>?_)
 replace zp7:IsZip g7 z I O (rawInt g5.objs.size):=zp7
 refine wpAny_setField_rec zp7 (by simp) λg8 zp8 u8=>?_
 replace zp8:IsZip g8 z I O (rawInt g5.objs.size):=zp8
 have up:∀c u,c≠z->g5.get? c=some u->g8.get? c=some u:=λc u c1 e=>u8.extBut _ _ c1 (u7.extBut _ _ c1 (Heap.get?_push_of_some _ e))
 have out:IsPair g8 g5.objs.size x y:=u8.extBut _ _ (Nat.ne_of_gt zlt) (u7.extBut _ _ (Nat.ne_of_gt zlt) (Heap.get?_push_size _ rfl))
 rw[size5] at zp8 out
 refine wpAny_pure ⟨_,rfl,?_⟩
 show Q (.ref g5.objs.size) _
 rw[size5]
 exact k g8 ⟨zp8,up _ _ D.Iz (all5 _ _ D.Iz D.IO D.Ia D.Ib pr),⟨x,y,up _ _ D.Oz ow5⟩,ia5.at λu e=>up _ u D.az e,ib5.at λu e=>up _ u D.bz e⟩ out λc u c1 c2 c3 c4 e=>up c u c1 (all5 c u c1 c2 c3 c4 e)
theorem ended {Q:Fin->Shared->Prop}(hh:A.handled=none) (D:Ap z I O a b) (Z:At s.heap z I O a b p q n .none) (nps:∀c,c=z\/c=O\/c=a\/c=b->c≠p/\c≠q) (hp:s.heap.IsTuple p xs) (hx:xs[n]?=none)
  (k:∀h' e,(∀c u,c≠z->c≠O->c≠a->c≠b->s.heap.get? c=some u->h'.get? c=some u)->(∃u,h'.get? e=some u/\u.cls=.type "StopIteration")->E (.ref e) { s with heap:=h' }) :
  wpAny (model prog w) A (Builtin.«zip.__next__» ⟨[.ref z],[]⟩) Q E s:=by
 obtain⟨zp,pr,⟨x0,y0,ow⟩,ia,ib⟩:=Z
 show wpAny _ _ (field (.ref z) 2 >>= _) _ _ _;refine wpAny_bind (wpAny_field zp rfl (x:=.bool false) rfl ?_)
 show wpAny _ _ (field (.ref z) 3 >>= _) _ _ _;refine wpAny_bind (wpAny_field zp rfl (x:=.ref I) rfl (wpAny_bind (wpAny_seqItems pr rfl ?_)))
 show wpAny _ _ (Builtin.SmallTypes.ownedTupleIsFree (.ref z) >>= _) _ _ _;refine wpAny_bind ?_;unfold Builtin.SmallTypes.ownedTupleIsFree
 refine wpAny_bind (wpAny_field zp rfl (x:=.none) rfl (wpAny_pure ?_));simp only[if_true]
 refine wpAny_bind (wpAny_rule (wpAny_bind (wpAny_field zp rfl (x:=.ref O) rfl (wpAny_bind (wpAny_setField_rec zp (by simp) λg1 z1 u1=>?_)))))
 replace z1:IsZip g1 z I O .ellipsis:=z1
 refine wpAny_bind ?_;simp only[List.zipIdx_cons,List.zipIdx_nil,List.forIn_cons,List.forIn_nil]
 refine wpAny_bind (wpAny_bind (wpAny_onRaise ?_))
 have hp1:=tup_at hp λu e=>u1.extBut p u (nps z (.inl rfl)).1.symm e
 have ia1:g1.IsTupleIter a p n:=ia.at λu e=>u1.extBut a u D.az e
 show wpAny _ _ (Builtin.SmallTypes.nextOf (.ref a) >>= _) _ _ _;refine wpAny_bind (EnumT.inner_end hh ia1 hp1 hx λg2 e u2 he=>?_)
 obtain⟨oe,he1,he2⟩:=he
 have z2:IsZip g2 z I O .ellipsis:=u2 _ _ D.az.symm z1
 have ne:e≠z:=λv=>by subst v;rw[z2] at he1;cases he1;simp at he2
 exact wpAny_setField_rec z2 (by simp) λg3 _ u3=>k g3 e (λc u c1 _ c3 _ v=>u3.extBut _ _ c1 (u2 _ _ c3 (u1.extBut _ _ c1 v))) ⟨oe,u3.extBut _ _ ne he1,he2⟩
theorem nxt {x y:Value}{Q:Option Value->Shared->Prop}(D:Ap z I O a b) (Z:At s.heap z I O a b p q n .none) (nps:∀c,c=z\/c=O\/c=a\/c=b->c≠p/\c≠q) (hp:s.heap.IsTuple p xs) (hq:s.heap.IsTuple q ys) (hx:xs[n]?=some x) (hy:ys[n]?=some y)
  (k:∀h',At h' z I O a b p q (n+1) (rawInt s.heap.objs.size)->IsPair h' s.heap.objs.size x y->(∀c u,c≠z->c≠O->c≠a->c≠b->s.heap.get? c=some u->h'.get? c=some u)->Q (some (.ref s.heap.objs.size)) { s with heap:=h' }) :
  wpAny (model prog w) A (pyNext (.ref z)) Q E s:=by
 have ty:s.TypeIs (.ref z) "zip":=⟨_,Z.zp,rfl⟩
 unfold pyNext
 exact wpAny_bind (wpAny_attempt (wpAny_callSpecial?_slot (name:=Str.ofString "__next__") ty F.slot_zip_next (wpAny_call_entry F.slot_zip_next ty F.entry_zip_next (item D Z nps hp hq hx hy λh' a1 a2 a3=>wpAny_pure (k h' a1 a2 a3)) (F.args_zip_next_1 _))))
theorem stop {Q:Option Value->Shared->Prop}(hh:A.handled=none) (D:Ap z I O a b) (Z:At s.heap z I O a b p q n .none) (nps:∀c,c=z\/c=O\/c=a\/c=b->c≠p/\c≠q) (hp:s.heap.IsTuple p xs) (hx:xs[n]?=none)
  (k:∀h',(∀c u,c≠z->c≠O->c≠a->c≠b->s.heap.get? c=some u->h'.get? c=some u)->Q none { s with heap:=h' }):wpAny (model prog w) A (pyNext (.ref z)) Q E s:=by
 have ty:s.TypeIs (.ref z) "zip":=⟨_,Z.zp,rfl⟩
 unfold pyNext
 refine wpAny_bind (wpAny_attempt (wpAny_callSpecial?_slot (name:=Str.ofString "__next__") ty F.slot_zip_next (wpAny_call_entry F.slot_zip_next ty F.entry_zip_next (ended hh D Z nps hp hx λh' e hk he=>?_) (F.args_zip_next_1 _))))
 obtain⟨u,hu,hc⟩:=he
 exact wpAny_bind (wpAny_isInstance (T:= "StopIteration") (b:=true) ⟨u,hu,hc⟩ isSubtype_stop (wpAny_pure (k _ hk)))
end
abbrev k1 (h:Heap) (p:Addr):Heap:=h.push { cls:=.type "tuple_iterator",data:=.fields #[.ref p,.int 0 0] }
abbrev k2 (h:Heap) (p q:Addr):Heap:=k1 (k1 h p) q
abbrev k3 (h:Heap) (p q:Addr):Heap:=(k2 h p q).push { cls:=.type "tuple",data:=.seq #[.ref h.objs.size,.ref (k1 h p).objs.size] }
abbrev k4 (h:Heap) (p q:Addr):Heap:=(k3 h p q).push { cls:=.type "tuple",data:=.seq #[.none,.none] }
abbrev k5 (h:Heap) (p q:Addr):Heap:=(k4 h p q).push { cls:=.type "zip",data:=.fields #[.none,.bool false,.bool false,.ref (k2 h p q).objs.size,.ref (k3 h p q).objs.size] }
theorem made (p q:Addr) (xs ys:Array Value):Meets (Builtin.«zip.__new__» ⟨[.type "zip",.ref p,.ref q],[]⟩) (λ_ R s=>s.heap.IsTuple p xs/\s.heap.IsTuple q ys/\R (.ok (.ret (.ref (k4 s.heap p q).objs.size))) { s with heap:=k5 s.heap p q }):=
 .of_wp λprog w A R s h=>by
  obtain⟨hp,g,d,tk,os⟩:=s;obtain⟨t1,t2,h⟩:=h
  have f0:=sub_zip
  have L1:Heap.IsTuple (Shared.heap ⟨hp,g,d,tk,os⟩) p xs:=t1
  have L2:Heap.IsTuple (Shared.heap ⟨hp.push { cls:=.type "tuple_iterator",data:=.fields #[.ref p,.int 0 0] },g,d,tk,os⟩) q ys:=tup_at t2 λu e=>Heap.get?_push_of_some _ e
  wp_walk using wpAny_pyIter_tuple L1,wpAny_pyIter_tuple L2
  exact⟨_,rfl,h⟩
end ZipT
namespace L2
open PySem PySem.Spec PyProof.Rows
section
variable {X:Cx}
def compCxG (X:Cx) (scope:Scope) (cl:List (Str×Addr)) (C:Addr) (ns:List Str) (fp:List Addr) (s₀:Shared) (H₀:Hp):Cx:=
 { X with N:=ns++X.N,s₀:=s₀,H₀:=H₀,env:=compEnvC scope cl C X.env,outer:=X.stack,stack:=X.stack,ex:=fp,fn:=λ_=>false,pn:=[],xe:=λ_ _=>False }
def tCompG (n:Nat) (wi:TI) (g:TG) (tt:TT) (te:TE):TE:=λσ H Q=>wi σ H λJ H1=>∀D,H1 D=none->∃W:Nat->Nat->List V->Hp->Prop,(∃m,W 0 m [] (upd H1 D (.lst []))) /\
 ∀i m xs H2,W i m xs H2->H2 D=some (.lst xs)/\xs.length<sizeLine/\((J.stop i H2/\Q (.ref D) H2)\/(J.go i H2/\∀y H3,J.yld i H2 y H3->∀os:St,os.length=n ->
  g y (os++σ) H3 λσ4 H4=>tt σ4 H4 λb H5=>if b=true then te σ4 H5 λv H6=>H6 D=some (.lst xs)/\∃m',m'<m/\W (i+1) m' (xs++[v]) (upd H6 D (.lst (xs++[v]))) else ∃m',m'<m/\W (i+1) m' xs H5))
theorem compLoopG {prog:Program}{w:World}{A:Around}{R:Result->Shared->Prop}{s:Shared}{elt target iter:Expr}{ifs:List Expr}{scope:Scope}{pos:Pos}{it acc:Value}{env:Env}(T:Sem Bool)
  (hT:compTurn (.ListComp elt [⟨target,iter,ifs,0⟩] scope pos) 0 it acc env=(standAt iter.pos >>= λ_=>pyNext it >>= λr=>match r with
   |none=>pure (.done .next)
   |some v=>letOwnedTupleGo target it v >>= λ_=>assign target env v >>= λ_=>T >>= λok=>(if ok=true then (eval elt env >>= λx=>call (.builtin "list.append") [acc,x] >>= λ_=>pure ()) else pure ()) >>= λ_=>
     again (.compLoop (.ListComp elt [⟨target,iter,ifs,0⟩] scope pos) 0 it acc env)))
  (I:Nat->Shared->Prop)
  (turn:∀n s,I n s->wpAny (model prog w) A (pyNext it) (λr s₁=>match r with
   |none=>R (.ok .next) s₁
   |some v=>wpAny (model prog w) A (letOwnedTupleGo target it v) (λ_ s₁'=>wpAny (model prog w) A (assign target env v) (λ_ s₂=>wpAny (model prog w) A T (λok s₃=>
     if ok=true then wpAny (model prog w) A (eval elt env) (λx s₄=>wpAny (model prog w) A (call (.builtin "list.append") [acc,x]) (λ_ s₅=>∃m,m<n/\I m s₅) (λ_ _=>False) s₄) (λ_ _=>False) s₃
     else ∃m,m<n/\I m s₃) (λ_ _=>False) s₂) (λ_ _=>False) s₁') (λ_ _=>False) s₁) (λ_ _=>False) s)
  (n:Nat) (h:I n s):codeAny (model prog w) A (.compLoop (.ListComp elt [⟨target,iter,ifs,0⟩] scope pos) 0 it acc env) R s:=by
 refine codeAny_loop rfl I (λn s hI=>?_) n h
 show wpAny _ A ((compTurn (.ListComp elt [⟨target,iter,ifs,0⟩] scope pos) 0 it acc env).onRaise (λx=>do noteFrame x env;theTreesLotGoes x)) _ _ s
 refine wpAny_noted ?_
 rw[hT]
 refine wpAny_bind (wpAny_standAt (wpAny_bind (wpAny_mono (turn n s hI) (λr s₁ h₁=>?_) λ_ _ h'=>h'.elim)))
 cases r with
 |none=>exact wpAny_pure h₁
 |some v=>
  refine wpAny_bind (wpAny_mono h₁ (λ_ s₁' h₁'=>?_) λ_ _ h'=>h'.elim)
  refine wpAny_bind (wpAny_mono h₁' (λ_ s₂ h₂=>wpAny_bind (wpAny_mono h₂ (λok s₃ h₃=>?_) λ_ _ h'=>h'.elim)) λ_ _ h'=>h'.elim)
  cases ok with
  |true=>
   rw[if_pos rfl] at h₃
   simp only[if_true]
   exact wpAny_bind (wpAny_bind (wpAny_mono h₃ (λx s₄ h₄=>wpAny_bind (wpAny_mono h₄ (λ_ s₅ h₅=>wpAny_pure (wpAny_pure ⟨rfl,h₅⟩)) λ_ _ h'=>h'.elim)) λ_ _ h'=>h'.elim))
  |false=>
   rw[if_neg Bool.false_ne_true] at h₃
   simp only[Bool.false_eq_true,if_false]
   exact wpAny_bind (wpAny_pure (wpAny_pure ⟨rfl,h₃⟩))
theorem turn_no (elt target iter:Expr) (scope:Scope) (pos:Pos) (it acc:Value) (env:Env):compTurn (.ListComp elt [⟨target,iter,[],0⟩] scope pos) 0 it acc env=(standAt iter.pos >>= λ_=>pyNext it >>= λr=>match r with
   |none=>pure (.done .next)
   |some v=>letOwnedTupleGo target it v >>= λ_=>assign target env v >>= λ_=>(pure true:Sem Bool) >>= λok=>(if ok=true then (eval elt env >>= λx=>call (.builtin "list.append") [acc,x] >>= λ_=>pure ()) else pure ()) >>= λ_=>
     again (.compLoop (.ListComp elt [⟨target,iter,[],0⟩] scope pos) 0 it acc env)):=by
 rw[compTurn_list1]
 congr 1
theorem turn_one (elt target iter c:Expr) (scope:Scope) (pos:Pos) (it acc:Value) (env:Env):compTurn (.ListComp elt [⟨target,iter,[c],0⟩] scope pos) 0 it acc env=(standAt iter.pos >>= λ_=>pyNext it >>= λr=>match r with
   |none=>pure (.done .next)
   |some v=>letOwnedTupleGo target it v >>= λ_=>assign target env v >>= λ_=>isTrue c env (eval c env) >>= λok=>(if ok=true then (eval elt env >>= λx=>call (.builtin "list.append") [acc,x] >>= λ_=>pure ()) else pure ()) >>= λ_=>
     again (.compLoop (.ListComp elt [⟨target,iter,[c],0⟩] scope pos) 0 it acc env)):=by
 rw[compTurn_list]
 refine bind_congr λ_=>bind_congr λr=>?_
 cases r with
 |none=>rfl
 |some v=>
  refine bind_congr λ_=>bind_congr λ_=>?_
  simp only[List.forIn_cons,List.forIn_nil,if_true,bind_assoc,pure_bind]
  refine bind_congr λok=>?_
  cases ok<;>simp
theorem compG_start {pins:List (Addr×Obj)}{σ:St}{H:Hp}{s:Shared}{h':Heap}{tk:Nat}{scope:Scope}{cl:List (Str×Addr)}{C:Addr}{nn:List Str}{fp:List Addr}{m:Str->Option Value}
  (I:Inv X pins σ H s) (hC:C=s.heap.objs.size) (keep:∀b o,s.heap.get? b=some o->h'.get? b=some o) (ns:h'.Ns C m) (hfp:∀b∈fp,FpOk X pins H b) (hfs:∀b∈fp,b<s.heap.objs.size)
  (hkind:scope.kind=.function) (hcell:∀y∈scope.names,y.2≠.cell) (hloc:∀y∈X.N,scope.names.lookup y≠some .local)
  (hcl1:∀y c,cl.lookup y=some c->X.env.cells.lookup y=some c) (hcl2:∀p∈scope.names,p.2=.free->(cl.lookup p.1).isSome=true)
  (hfr:∀p∈scope.names,p.2=.free->Vis X.env.scope p.1/\X.env.scope.names.lookup p.1≠some .local) :
  Inv (compCxG X scope cl C nn fp s H) [] ((nn.map λ_=>none)++σ) H { s with heap:=h',toks:=tk }:=by
 have cells:∀y c,cl.lookup y=some c->∃v,s.heap.IsCell c v:=λy c e=>I.cell y c (hcl1 y c e)
 have celllt:∀y c,cl.lookup y=some c->c<s.heap.objs.size:=λy c e=>by
  obtain⟨v,q⟩:=cells y c e
  exact q.lt
 have cellk:∀c v,s.heap.IsCell c v->h'.IsCell c v:=λc v ⟨o,e,d⟩=>⟨o,keep c o e,d⟩
 have stkl:∀b∈frs X.stack,∃o,s.heap.get? b=some o:=λb hb=>by
  rcases List.mem_cons.mp (I.stkSub b hb) with e|hb
  ·obtain⟨_,⟨o,_,_,ho,_⟩,_⟩:=I.loc
   exact⟨o,by rw[e];exact ho⟩
  ·obtain⟨_,o,ho,_⟩:=I.funs.mem hb
   exact⟨o,ho⟩
 refine⟨⟨I.ok.mod,hkind,I.ok.glob,I.ok.blt,Nat.le_of_eq hC.symm,λy z c h1 h2=>I.ok.inj y z c (hcl1 y c h1) (hcl1 z c h2),λy hy=>?_,λy c h _=>Bool.noConfusion h,I.ok.hd,I.ok.frames,.inl rfl,λb hb=>⟨?_,λy c e z=>?_⟩,I.bs,
  Nat.le_trans I.ok.bsz I.sz,λb o e hb=>?_,λb hb hf=>?_,I.stack,I.stkFree⟩,rfl,I.bare,Un.kept keep,⟨m,ns,λi y v h1 h2 h3=>?_⟩,λy c e=>?_,?_,λy c e=>?_,λp hp=>absurd hp (by simp[compCxG]),I.hok.kept keep,?_⟩
 ·
  have hy:(relabel scope X.env).names.lookup y=some .cell\/(relabel scope X.env).names.lookup y=some .free:=hy
  obtain⟨p,hp,e1,e2⟩:∃p∈scope.names,p.1=y/\p.2=.free:=by
   rcases hy with hy|hy
   ·exact relabel_vis hy hcell (.inl rfl)
   ·exact relabel_vis hy hcell (.inr rfl)
  obtain⟨c,e⟩:=Option.isSome_iff_exists.mp (hcl2 p hp e2)
  exact⟨c,by rw[<- e1];exact e⟩
 ·show b≠C
  rw[hC];exact Nat.ne_of_lt (hfs b hb)
 ·exact (hfp b hb).2.2.2.2.1 y c (hcl1 y c e) z
 ·rcases (hfp b hb).2.2.2.1 with z|z
  ·exact I.ok.noex b o e z
  ·exact absurd (Nat.lt_of_lt_of_le (Heap.lt_size (I.ok.bs b o e).1) z) (Nat.lt_irrefl _)
 ·rcases List.mem_cons.mp (I.stkSub b hf) with z|z
  ·exact (hfp b hb).2.1 z
  ·exact (hfp b hb).2.2.1 z
 ·
  by_cases hin:i<nn.length
  ·rw[List.getElem?_append_left (by simpa using hin)] at h2
   simp at h2
  ·obtain⟨j,rfl⟩:∃j,i=nn.length+j:=⟨i-nn.length,by lia⟩
   have h1:X.N[j]?=some y:=by
    have h1:(nn++X.N)[nn.length+j]?=some y:=h1
    rw[List.getElem?_append_right (Nat.le_add_right _ _),Nat.add_sub_cancel_left] at h1
    exact h1
   have h2:σ[j]?=some (some v):=by
    rw[List.getElem?_append_right (by simp)] at h2
    simpa using h2
   have h3:(relabel scope X.env).names.lookup y=some .local\/(relabel scope X.env).names.lookup y=some .cell\/(relabel scope X.env).names.lookup y=some .free:=h3
   rcases h3 with h3|h3
   ·exact absurd (relabel_local h3) (hloc y (List.mem_of_getElem? h1))
   ·obtain⟨p,hp,e1,e2⟩:∃p∈scope.names,p.1=y/\p.2=.free:=by
     rcases h3 with h3|h3
     ·exact relabel_vis h3 hcell (.inl rfl)
     ·exact relabel_vis h3 hcell (.inr rfl)
    obtain⟨hv,hnl⟩:=hfr p hp e2
    rw[e1] at hv hnl
    obtain⟨m0,_,hl0⟩:=I.loc
    obtain⟨u,ru,lk⟩:=hl0 j y v h1 h2 hv
    rcases lk with ⟨lk,_⟩|⟨_,c,hc,hcv⟩
    ·exact absurd lk hnl
    ·obtain⟨c',e'⟩:=Option.isSome_iff_exists.mp (hcl2 p hp e2)
     rw[e1] at e'
     have:=hcl1 y c' e'
     rw[hc] at this
     cases this
     refine⟨u,ru,.inr ⟨h3,c,e',cellk c _ hcv⟩⟩
 ·obtain⟨v,q⟩:=cells y c e
  exact⟨v,cellk c v q⟩
 ·show H C=none
  exact I.hok.fresh (Nat.le_of_eq hC.symm)
 ·exact I.freeC y c (hcl1 y c e)
 ·show ((nn.map λ_=>none)++σ).length=(nn++X.N).length
  simp[I.len]
theorem compG_end {pins:List (Addr×Obj)}{σ σ':St}{H H':Hp}{s s':Shared}{h':Heap}{scope:Scope}{cl:List (Str×Addr)}{C:Addr}{nn:List Str}{fp:List Addr}
  (I:Inv X pins σ H s) (hC:C=s.heap.objs.size) (hfp:∀b∈fp,FpOk X pins H b) (J:Inv (compCxG X scope cl C nn fp s H) [] σ' H' s') (sb:Heap.SameBut C s'.heap h'):Inv X pins σ H' { s' with heap:=h' }:=by
 have ne:∀b o,s.heap.get? b=some o->b≠C:=λb o e=>by rw[hC];exact Nat.ne_of_lt (Heap.lt_size e)
 have B:Un (frs X.stack) fp H H' s.heap s'.heap:=J.base
 have U:Un (frs X.stack) fp H H' s.heap h':=
  ⟨λb o e n hb hx=>(sb.2 b (ne b o e)).trans (B.keep b o e n hb hx),λb o e n hb hx=>by
   obtain⟨sl,q⟩:=B.slot b o e n hb hx
   exact⟨sl,(sb.2 b (ne b o e)).trans q⟩,B.free,λb o e hx=>by
   obtain⟨o',q⟩:=B.there b o e hx
   exact⟨o',(sb.2 b (ne b o e)).trans q⟩,B.tups,B.frzs,B.tbls⟩
 have hf:H' C=none:=J.free
 have K:HOk X.prog X.w H' h':=λb o e=>(J.hok b o e).stay (λc u hc q=>(sb.2 c (by
  rintro rfl
  rcases hc with z|z
  ·rw[z,e] at hf;cases hf
  ·rw[hf] at z;cases z)).trans q) (λ_ q=>q) λ_ _ q=>q
 refine I.call' (s':={ s' with heap:=h' }) (ch:=fp) J.os U K J.bare λb hb=>?_
 obtain⟨_,h2,_,h4,h5,h6⟩:=hfp b hb
 exact⟨h4,h2,h5,h6⟩
theorem pe_compG {nn:List Str}{tg:Expr}{ifs:List Expr}{pos:Pos}{elt iter:Expr}{scope:Scope}{wi:TI}{g:TG}{tt:TT}{te:TE}(T:Env->Sem Bool) (hc:X.calm=true) (hi:PI X tg iter wi)
  (hturn:∀it acc env,compTurn (.ListComp elt [⟨tg,iter,ifs,0⟩] scope pos) 0 it acc env=(standAt iter.pos >>= λ_=>pyNext it >>= λr=>match r with
   |none=>pure (.done .next)
   |some v=>letOwnedTupleGo tg it v >>= λ_=>assign tg env v >>= λ_=>T env >>= λok=>(if ok=true then (eval elt env >>= λx=>call (.builtin "list.append") [acc,x] >>= λ_=>pure ()) else pure ()) >>= λ_=>
     again (.compLoop (.ListComp elt [⟨tg,iter,ifs,0⟩] scope pos) 0 it acc env)))
  (hgt:∀cl C fp s₀ H₀,PG (compCxG X scope cl C nn fp s₀ H₀) tg g)
  (hloc2:∀y (os σ:St) H R,os.length=nn.length->g y (os++σ) H R->g y (os++σ) H λσ' H'=>(∃os':St,os'.length=nn.length/\σ'=os'++σ)/\R σ' H')
  (htt:∀cl C fp s₀ H₀ (pins:List (Addr×Obj)) (s:Shared) (σ:St) (H:Hp) (Q:Bool->Hp->Prop),Inv (compCxG X scope cl C nn fp s₀ H₀) pins σ H s->tt σ H Q->wpAny (model X.prog X.w) X.A (T (compEnvC scope cl C X.env)) (TP (compCxG X scope cl C nn fp s₀ H₀) pins σ Q) (λ_ _=>False) s)
  (he:∀cl C fp s₀ H₀,PE (compCxG X scope cl C nn fp s₀ H₀) elt te)
  (hkind:scope.kind=.function) (hcell:∀y∈scope.names,y.2≠.cell) (hnames:∀y∈scope.names,y.2=.local->scope.names.lookup y.1=some .local)
  (hloc:∀y∈X.N,scope.names.lookup y≠some .local) (hfr:∀p∈scope.names,p.2=.free->Vis X.env.scope p.1/\X.env.scope.names.lookup p.1≠some .local)
  (hs:∀x,foldedSetIterable iter X.env x=pure x):PE X (.ListComp elt [⟨tg,iter,ifs,0⟩] scope pos) (tCompG nn.length wi g tt te):=by
 intro pins s σ H Q I h
 rw[eval_ListComp]
 obtain⟨cl,hclos,hcl1,hcl2⟩:=closureFor_some (scope:=scope) (env:=X.env) (λp hp hk=>by
  obtain⟨hv,hn⟩:=hfr p hp hk
  refine I.ok.has p.1 ?_
  rcases hv with z|z
  ·exact absurd z hn
  ·exact z)
 refine wpAny_comprehension_free (use:=none) rfl hs hclos hkind hnames (thn (hi pins s σ H _ I h) λv s1 h1=>thn h1 λitv s2 h2=>?_)
 obtain⟨it,fp,tn,J,H2,rfl,I2,T',st2,f2,q⟩:=h2
 have hD:H2 s2.heap.objs.size=none:=I2.hok.fresh (Nat.le_refl _)
 obtain⟨W,⟨m0,w0⟩,turn⟩:=q _ hD
 refine wpAny_newObj_type (wpAny_newFunctionEnv hcell (by intro y hy;simp at hy) (λh₁ hns₁ hsb₁=>?_) hkind)
 dsimp only at hns₁ hsb₁ ⊢
 have I3:Inv X pins σ (upd H2 s2.heap.objs.size (.lst [])) { s2 with heap:=s2.heap.push { cls:=.type "list",dict:=none,data:=.seq ([]:List Value).toArray } }:=
  I2.laid (t':=s2.toks) (λb u e=>Heap.get?_push_of_some _ e) (Nat.le_refl _) ⟨Nat.zero_le _,[],0,.nil,Heap.get?_push_size _ rfl⟩
 have fpn:∀b∈fp,b≠s2.heap.objs.size:=λb hb=>by
  obtain⟨o,e,_⟩:=T'.obj 0 s2.heap st2 b hb
  exact Nat.ne_of_lt (Heap.lt_size e)
 have fplt:∀b∈fp,b<(s2.heap.push { cls:=.type "list",dict:=none,data:=.seq ([]:List Value).toArray }).objs.size:=λb hb=>by
  obtain⟨o,e,_⟩:=T'.obj 0 s2.heap st2 b hb
  rw[Heap.size_push];exact Nat.lt_succ_of_lt (Heap.lt_size e)
 have f3:∀b∈fp,FpOk X pins (upd H2 s2.heap.objs.size (.lst [])) b:=λb hb=>⟨by rw[upd_ne (fpn b hb)];exact (f2 b hb).1,(f2 b hb).2⟩
 generalize hg2:s2.heap.push { cls:=.type "list",dict:=none,data:=.seq ([]:List Value).toArray }=g2 at hns₁ hsb₁ I3 fplt ⊢
 have keep:∀b o,g2.get? b=some o->h₁.get? b=some o:=λb o e=>(hsb₁.2 b (Nat.ne_of_lt (Heap.lt_size e))).trans (Heap.get?_push_of_some _ e)
 have J0:=compG_start (nn:=nn) (tk:=s2.toks+([]:List (Str×Value)).length) I3 (C:=g2.objs.size) rfl keep hns₁ f3 fplt hkind hcell hloc hcl1 hcl2 hfr
 generalize hY:compCxG X scope cl g2.objs.size nn fp { s2 with heap:=g2 } (upd H2 s2.heap.objs.size (.lst []))=Y at J0
 have eY:PE Y elt te:=by rw[<- hY];exact he _ _ _ _ _
 have eG:PG Y tg g:=by rw[<- hY];exact hgt _ _ _ _ _
 have eT:∀(pins:List (Addr×Obj)) (s:Shared) (σ:St) (H:Hp) (Q:Bool->Hp->Prop),Inv Y pins σ H s->tt σ H Q->wpAny (model Y.prog Y.w) Y.A (T Y.env) (TP Y pins σ Q) Y.xe s:=by rw[<- hY];exact htt _ _ _ _ _
 have eP:Y.prog=X.prog:=by rw[<- hY];rfl
 have eW:Y.w=X.w:=by rw[<- hY];rfl
 have eK:Y.K=X.K:=by rw[<- hY];rfl
 have eA:Y.A=X.A:=by rw[<- hY];rfl
 have eC:Y.calm=true:=by rw[<- hY];exact hc
 have eE:Y.env=compEnvC scope cl g2.objs.size X.env:=by rw[<- hY];rfl
 have eX:Y.xe=λ_ _=>False:=by rw[<- hY];rfl
 have eN:Y.N=nn++X.N:=by rw[<- hY];rfl
 have eEx:Y.ex=fp:=by rw[<- hY];rfl
 have eFs:Y.fs=frs X.stack:=by rw[<- hY];rfl
 have ePn:Y.pn=[]:=by rw[<- hY];rfl
 have fpY:∀{H':Hp},(∀b∈fp,H' b=none)->∀b∈fp,FpOk Y [] H' b:=λhn b hb=>by
  have g:=f3 b hb
  refine⟨hn b hb,?_,?_,.inl (by rw[eEx];exact hb),?_,λp hp=>absurd hp (by rw[ePn];simp)⟩
  ·rw[eE];exact Nat.ne_of_lt (fplt b hb)
  ·rw[eFs]
   intro z
   rcases List.mem_cons.mp (I3.stkSub b z) with z|z
   ·exact g.2.1 z
   ·exact g.2.2.1 z
  ·rw[eE]
   exact λy c e=>g.2.2.2.2.1 y c (hcl1 y c e)
 have loop:∀s₃:Shared,s₃={ s2 with heap:=h₁,toks:=s2.toks+([]:List (Str×Value)).length } ->
   codeAny (model X.prog X.w) X.A (.compLoop (.ListComp elt [⟨tg,iter,ifs,0⟩] scope pos) 0 (.ref it) (.ref s2.heap.objs.size) (compEnvC scope cl g2.objs.size X.env))
    (compPost (model X.prog X.w) X.A X.xe none (EP X pins σ Q) (.ref s2.heap.objs.size) g2.objs.size) s₃:=by
  rintro s₃ rfl
  refine compLoopG (T (compEnvC scope cl g2.objs.size X.env)) (hturn _ _ _) (λn s'=>∃i xs H' os,os.length=nn.length/\Inv Y [] (os++σ) H' s'/\tn i s'.heap/\(∀b∈fp,H' b=none)/\W i n xs H') ?_ m0
   ⟨0,[],_,nn.map λ_=>none,by simp,J0,T'.keep 0 _ _ st2 (λb hb o e=>keep b o (by rw[<- hg2];exact Heap.get?_push_of_some _ e)),λb hb=>(f3 b hb).1,w0⟩
  rintro n s3 ⟨i,xs,H3,os,hos,I4,st3,fr3,w3⟩
  obtain⟨hDx,hlx,alt⟩:=turn i n xs H3 w3
  rcases alt with ⟨stop,qn⟩|⟨go,step⟩
  ·have D1:=T'.done Y eP eW eK eC i [] s3 _ H3 (λ_ _=>False) I4 (fpY fr3) st3 stop
   rw[eA] at D1
   refine thn D1 λr s4 ⟨hr,I5⟩=>?_
   subst hr
   obtain⟨m4,hns4,_⟩:=id I5.loc
   rw[eE] at hns4
   refine⟨m4,hns4,λh' sb=>⟨.ref _,H3,?_,rfl,qn⟩⟩
   rw[<- hY] at I5
   exact compG_end I3 rfl f3 I5 sb
  ·have G1:=T'.item Y eP eW eK eC i [] s3 _ H3 (λ_ _=>False) I4 (fpY fr3) st3 go
   rw[eA] at G1
   refine thn G1 λr s4 ⟨u,hr,h4⟩=>?_
   subst hr
   refine thn h4 λ_ s5 ⟨y,H5,I5,r5,y5,st5,fr5⟩=>?_
   have I5':=I5.pinned (fpY fr5) (T'.obj _ _ st5)
   have S1:=eG _ s5 _ H5 y u _ I5' r5 (hloc2 y os σ H5 _ hos (step y _ y5 os hos))
   rw[eP,eW,eA,eE,eX] at S1
   refine thn S1 λ_ s6 ⟨σ6,H6,I6,⟨os6,hos6,e6⟩,q6⟩=>?_
   subst e6
   have S2:=eT _ s6 _ _ _ I6 q6
   rw[eP,eW,eA,eE,eX] at S2
   refine thn S2 λok s7 ⟨H7,I7,q7⟩=>?_
   have back:∀{s9:Shared}{H9:Hp}{m':Nat}{zs:List V},Inv Y ([]++pinsAt fp s5.heap) (os6++σ) H9 s9->m'<n->W (i+1) m' zs H9->∃m,m<n/\∃i xs H' os,os.length=nn.length/\Inv Y [] (os++σ) H' s9/\tn i s9.heap/\(∀b∈fp,H' b=none)/\W i m xs H':=λ{s9 H9 m' zs} I9 hm' w9=>by
    have pin:∀b∈fp,∀ob,s5.heap.get? b=some ob->s9.heap.get? b=some ob/\H9 b=none:=λb hb ob e=>by
     have z:=I9.pin (b,ob) (List.mem_append_right _ (List.mem_append_right _ (mem_pinsAt hb e)))
     exact⟨z.1,z.2.1⟩
    refine⟨m',hm',i+1,zs,H9,os6,hos6,I9.unpinned,T'.keep _ _ _ st5 (λb hb ob e=>(pin b hb ob e).1),λb hb=>?_,w9⟩
    obtain⟨ob,e,_⟩:=T'.obj _ _ st5 b hb
    exact (pin b hb ob e).2
   cases ok with
   |true=>
    rw[if_pos rfl] at q7
    rw[if_pos rfl]
    have S3:=eY _ s7 _ _ _ I7 q7
    rw[eP,eW,eA,eE,eX] at S3
    refine thn S3 λxv s8 ⟨v8,H8,I8,r8,hD8,m',hm',w8⟩=>?_
    have S4:=mt_append (X:=Y) _ s8 _ H8 (.ref s2.heap.objs.size) [v8] (.ref s2.heap.objs.size) [xv] (λ_ H9=>H9=upd H8 s2.heap.objs.size (.lst (xs++[v8]))) I8 rfl (.cons r8 .nil) ⟨_,xs,v8,rfl,rfl,hD8,hlx,rfl⟩
    rw[eP,eW,eA,eX] at S4
    refine thn S4 λ_ s9 ⟨v9,H9,I9,_,e9⟩=>?_
    subst e9
    exact back I9 hm' w8
   |false=>
    rw[if_neg Bool.false_ne_true] at q7
    rw[if_neg Bool.false_ne_true]
    obtain⟨m',hm',w8⟩:=q7
    exact back I7 hm' w8
 exact codeAny_compStart_list (loop _ rfl) (T'.self _ 0 _ _ _ (T'.keep 0 _ _ st2 (λb hb o e=>keep b o (by rw[<- hg2];exact Heap.get?_push_of_some _ e))) (loop _ rfl))
theorem scopes_ok {scope sc:Scope}{N:List Str}(hNe:X.N=N) (hsc:X.env.scope=sc)
  (hcell:scope.names.all (λy=>y.2 != .cell)=true) (hnames:scope.names.all (λy=>y.2 != .local||scope.names.lookup y.1==some .local)=true) (hloc:N.all (λy=>scope.names.lookup y != some .local)=true)
  (hfr:scope.names.all (λp=>p.2 != .free||(sc.names.lookup p.1==some .cell||sc.names.lookup p.1==some .free))=true) :
  (∀y∈scope.names,y.2≠.cell)/\(∀y∈scope.names,y.2=.local->scope.names.lookup y.1=some .local)/\(∀y∈X.N,scope.names.lookup y≠some .local)/\(∀p∈scope.names,p.2=.free->Vis X.env.scope p.1/\X.env.scope.names.lookup p.1≠some .local):=by
 refine⟨λy hy=>?_,λy hy hl=>?_,λy hy=>?_,λp hp hk=>?_⟩
 ·have:=List.all_eq_true.mp hcell y hy
  simpa using this
 ·have:=List.all_eq_true.mp hnames y hy
  simpa [hl] using this
 ·have:=List.all_eq_true.mp hloc y (by rw[<- hNe];exact hy)
  simpa using this
 ·have:=List.all_eq_true.mp hfr p hp
  rw[hk] at this
  have z:sc.names.lookup p.1=some .cell\/sc.names.lookup p.1=some .free:=by simpa using this
  rw[hsc]
  refine⟨.inr z,λq=>?_⟩
  rcases z with z|z<;>(rw[z] at q;cases q)
theorem loc1 {y:V}{os σ:St}{H:Hp}{R:St->Hp->Prop}(ho:os.length=1) (h:gName 0 y (os++σ) H R):gName 0 y (os++σ) H λσ' H'=>(∃os':St,os'.length=1/\σ'=os'++σ)/\R σ' H':=by
 match os,ho with
 |[o],_=>exact⟨⟨[some y],rfl,rfl⟩,h⟩
theorem loc2 {K:PySem.W.Frag}{y:V}{os σ:St}{H:Hp}{R:St->Hp->Prop}(ho:os.length=2) (h:gTup K 2 (gCons (gName 0) (gCons (gName 1) gNil)) y (os++σ) H R) :
  gTup K 2 (gCons (gName 0) (gCons (gName 1) gNil)) y (os++σ) H λσ' H'=>(∃os':St,os'.length=2/\σ'=os'++σ)/\R σ' H':=by
 match os,ho with
 |[o1,o2],_=>
  obtain⟨a,xs,e1,e2,e3,v,r,e4,v2,r2,e5,e6,q⟩:=h
  exact⟨a,xs,e1,e2,e3,v,r,e4,v2,r2,e5,e6,⟨[some v,some v2],rfl,rfl⟩,q⟩
theorem pe_compIf {x:Str}{px pos:Pos}{elt iter c:Expr}{scope:Scope}{wi:TI}{tt:TT}{te:TE}(N:List Str) (sc:Scope) (hNe:X.N=N) (hsc:X.env.scope=sc) (hc:X.calm=true) (hN:X.N.Nodup) (hi:PI X (.Name x px) iter wi)
  (ht:∀cl C fp s₀ H₀,PT (compCxG X scope cl C [x] fp s₀ H₀) c tt) (he:∀cl C fp s₀ H₀,PE (compCxG X scope cl C [x] fp s₀ H₀) elt te)
  (hkind:scope.kind=.function:=by rfl) (hcell:scope.names.all (λy=>y.2 != .cell)=true:=by decide +kernel) (hnames:scope.names.all (λy=>y.2 != .local||scope.names.lookup y.1==some .local)=true:=by decide +kernel)
  (hx:scope.names.lookup x=some .local:=by rfl) (hloc:N.all (λy=>scope.names.lookup y != some .local)=true:=by decide +kernel)
  (hfr:scope.names.all (λp=>p.2 != .free||(sc.names.lookup p.1==some .cell||sc.names.lookup p.1==some .free))=true:=by decide +kernel)
  (hs:∀x,foldedSetIterable iter X.env x=pure x:=by intro _;rfl):PE X (.ListComp elt [⟨.Name x px,iter,[c],0⟩] scope pos) (tCompG 1 wi (gName 0) tt te):=by
 obtain⟨s1,s2,s3,s4⟩:=scopes_ok hNe hsc hcell hnames hloc hfr
 refine pe_compG (nn:=[x]) (λenv=>isTrue c env (eval c env)) hc hi (λit acc env=>turn_one elt _ iter c scope pos it acc env) (λcl C fp s₀ H₀=>?_) (λy os σ H R ho h=>loc1 ho h) (λcl C fp s₀ H₀ pins s σ H Q I h=>ht cl C fp s₀ H₀ pins s σ H Q I h) he hkind s1 s2 s3 s4 hs
 have l:(compCxG X scope cl C [x] fp s₀ H₀).env.scope.names.lookup x=some .local:=lookup_relabel_local hx
 exact pg_name (i:=0) (List.nodup_cons.mpr ⟨λz=>s3 x z hx,hN⟩) rfl (.inl l) (.inr l)
theorem gpair {x y:Str}{p1 p2 tpos:Pos}{k:Nat}{scope:Scope}{cl:List (Str×Addr)}{C:Addr}{fp:List Addr}{s₀:Shared}{H₀:Hp}(hc:X.calm=true) (hN:X.N.Nodup) (hxy:x≠y) (s3:∀z∈X.N,scope.names.lookup z≠some .local) (hx:scope.names.lookup x=some .local) (hy:scope.names.lookup y=some .local) :
  PG (compCxG X scope cl C [x,y] fp s₀ H₀) (.Tuple [.Name x p1,.Name y p2] k tpos) (gTup X.K 2 (gCons (gName 0) (gCons (gName 1) gNil))):=by
 have lx:(compCxG X scope cl C [x,y] fp s₀ H₀).env.scope.names.lookup x=some .local:=lookup_relabel_local hx
 have ly:(compCxG X scope cl C [x,y] fp s₀ H₀).env.scope.names.lookup y=some .local:=lookup_relabel_local hy
 have nd:(compCxG X scope cl C [x,y] fp s₀ H₀).N.Nodup:=List.nodup_cons.mpr ⟨λz=>by
  rcases List.mem_cons.mp z with z|z
  ·exact hxy z
  ·exact s3 x z hx,List.nodup_cons.mpr ⟨λz=>s3 y z hy,hN⟩⟩
 exact pg_tup (X:=compCxG X scope cl C [x,y] fp s₀ H₀) hc (pgs_cons (pg_name (i:=0) nd rfl (.inl lx) (.inr lx)) (pgs_cons (pg_name (i:=1) nd rfl (.inl ly) (.inr ly)) pgs_nil))
def ttYes:TT:=λ_ H Q=>Q true H
theorem pe_comp2 {x y:Str}{p1 p2 tpos pos:Pos}{k:Nat}{elt iter:Expr}{scope:Scope}{wi:TI}{te:TE}(N:List Str) (sc:Scope) (hNe:X.N=N) (hsc:X.env.scope=sc) (hc:X.calm=true) (hN:X.N.Nodup) (hi:PI X (.Tuple [.Name x p1,.Name y p2] k tpos) iter wi)
  (he:∀cl C fp s₀ H₀,PE (compCxG X scope cl C [x,y] fp s₀ H₀) elt te) (hxy:x≠y:=by decide)
  (hkind:scope.kind=.function:=by rfl) (hcell:scope.names.all (λy=>y.2 != .cell)=true:=by decide +kernel) (hnames:scope.names.all (λy=>y.2 != .local||scope.names.lookup y.1==some .local)=true:=by decide +kernel)
  (hx:scope.names.lookup x=some .local:=by rfl) (hy:scope.names.lookup y=some .local:=by rfl) (hloc:N.all (λy=>scope.names.lookup y != some .local)=true:=by decide +kernel)
  (hfr:scope.names.all (λp=>p.2 != .free||(sc.names.lookup p.1==some .cell||sc.names.lookup p.1==some .free))=true:=by decide +kernel)
  (hs:∀x,foldedSetIterable iter X.env x=pure x:=by intro _;rfl):PE X (.ListComp elt [⟨.Tuple [.Name x p1,.Name y p2] k tpos,iter,[],0⟩] scope pos) (tCompG 2 wi (gTup X.K 2 (gCons (gName 0) (gCons (gName 1) gNil))) ttYes te):=by
 obtain⟨s1,s2,s3,s4⟩:=scopes_ok hNe hsc hcell hnames hloc hfr
 exact pe_compG (nn:=[x,y]) (λ_=>pure true) hc hi (λit acc env=>turn_no elt _ iter scope pos it acc env) (λcl C fp s₀ H₀=>gpair hc hN hxy s3 hx hy) (λy os σ H R ho h=>loc2 ho h) (λcl C fp s₀ H₀ pins s σ H Q I h=>wpAny_pure ⟨H,I,h⟩) he hkind s1 s2 s3 s4 hs
end
end L2
namespace L2
open PySem PySem.Spec PyProof.Rows PySem.W PySem.Builtin PySem.Builtin.ObjectAttr PySem.Builtin.Getset_descriptor
section
variable {prog:Program}{w:World}{A:Around}{E:Value->Shared->Prop}{s:Shared}{K:Frag}{x C:Addr}
def ExcAt (x C:Addr) (h:Heap):Prop:=∃ox vs,h.get? x=some ox/\ox.cls=.ref C/\ox.data=.fields vs/\vs[2]?=some .none
theorem ExcAt.type {M:Model}{h:Heap}(I:ExcAt x C h):Looks M h (typeOf (.ref x)) (.ref C):=by
 obtain⟨ox,_,h1,h2,_⟩:=I
 have z:=(Looks.ld (M:=M) (part:=none) h1).andThen (f:=λo=>pure o.cls) (Looks.now (a:=ox.cls))
 rw[h2] at z
 exact z
theorem exc_get {tp:Value}{R:Result->Shared->Prop}(X:K.In s.heap) (I:ExcAt x C s.heap) (hm:mroIn K C (.type "object")=some true) (h:R (.ok (.ret (.ref C))) s) :
  codeAny (model prog w) A (.call (.builtin "getset_descriptor.__get__") ⟨[.builtin "object.__class__",.ref x,tp],[]⟩) R s:=by
 obtain⟨h1,g1,d1,t1,o1⟩:=s
 have Lt:=I.type (M:=model prog w)
 have Lm:=looks_mroIn (M:=model prog w) X hm
 refine codeAny_call_builtin KF.slot_gs.plain KF.entry_gs ?_
 refine KF.slot_gs.check _ _ _ _ _ _ _ _ KF.type_class (KF.args_gs _ _ _) ?_
 unfold Builtin.«getset_descriptor.__get__» descrGet
 rw[dga_obj]
 refine wpAny_bind (wpAny_pure ?_)
 unfold descrGetter descrCheckInstance descrNameAndClass isInstance
 simp only[KF.owner_class]
 repeat lk
 refine⟨Code.quiet_builtin _ (by decide +kernel),codeAny_builtin KF.entry_class ?_⟩
 unfold Builtin.«object.__class__» shownTypeOf
 repeat lk
 exact h
theorem exc_entry {tk:Tok}{Q:Fin->Shared->Prop}(X:K.In s.heap) (I:ExcAt x C s.heap)
  (ha:findIn K (.ref C) "__class__" = some (some (.builtin "object.__class__"))) (hn:specialIn K (.builtin "object.__class__") "__get__" = some (some (.builtin "getset_descriptor.__get__"))) (htk:takesIn K (.builtin "object.__class__")=some true)
  (hm:mroIn K C (.type "object")=some true) (hc:(clsIn K C).isSome=true) (h:Q (.done (.ret (.ref C))) s):wpAny (model prog w) A (Builtin.«object.__getattribute__» ⟨[.ref x,.str "__class__" tk],[]⟩) Q E s:=by
 obtain⟨hh,g,d,t,os⟩:=s
 have L0:=I.type (M:=model prog w)
 have L4:Looks (model prog w) hh (Builtin.ObjectAttr.find (.ref x) (.ref C) "__class__") (Builtin.ObjectAttr.Found.bind (.builtin "getset_descriptor.__get__") (.builtin "object.__class__")):=by
  have y1:=looks_findIn (M:=model prog w) X ha
  have y2:Looks (model prog w) hh (Builtin.ObjectAttr.getOf (some (.builtin "object.__class__"))) (some (.builtin "getset_descriptor.__get__")):=looks_specialIn X hn
  have y3:=looks_takesIn (M:=model prog w) X htk
  have y4:Looks (model prog w) hh (Builtin.ObjectAttr.dataDescriptor? (some (.builtin "object.__class__")) (some (.builtin "getset_descriptor.__get__"))) (some (.builtin "getset_descriptor.__get__",.builtin "object.__class__")):=y3.andThen .now
  exact y1.andThen (y2.andThen (y4.andThen (Looks.tag .now)))
 unfold Builtin.«object.__getattribute__»
 repeat (first|with_reducible refine L0.at ?_|with_reducible refine L4.at ?_|wp_step)
 refine exc_get X I hm ?_
 repeat (any_goals (first|assumption|wp_step))
theorem exc_check {M:Model}{nameV:Value}{P:Unit->Shared->Prop}(X:K.In s.heap) (I:ExcAt x C s.heap) (hb:mroIn K C (.type "BaseException")=some true) (h:P () s) :
  wpAny M A (checkBuiltinCall "BaseException.__getattribute__" ⟨[.ref x,nameV],[]⟩) P E s:=by
 have hk:builtinKind "BaseException.__getattribute__" = some .slot:=by decide +kernel
 have hsplit:splitId "BaseException.__getattribute__" = some ("BaseException", "__getattribute__"):=by decide +kernel
 have hargs:=F.args_bexc_ga (.ref x) nameV
 obtain⟨hh,g,d,t,os⟩:=s
 have L0:=I.type (M:=M)
 have L3:=looks_mroIn (M:=M) X hb
 simp only[checkBuiltinCall,hk,hsplit]
 refine wpAny_bind ?_
 unfold isInstance
 refine wpAny_bind (L0.at (L3.at ?_))
 repeat (first|assumption|wp_step)
theorem exc_call {tk:Tok}{R:Result->Shared->Prop}(X:K.In s.heap) (I:ExcAt x C s.heap)
  (ha:findIn K (.ref C) "__class__" = some (some (.builtin "object.__class__"))) (hn:specialIn K (.builtin "object.__class__") "__get__" = some (some (.builtin "getset_descriptor.__get__"))) (htk:takesIn K (.builtin "object.__class__")=some true)
  (hm:mroIn K C (.type "object")=some true) (hb:mroIn K C (.type "BaseException")=some true) (hc:(clsIn K C).isSome=true) (h:R (.ok (.ret (.ref C))) s) :
  codeAny (model prog w) A (.call (.builtin "BaseException.__getattribute__") ⟨[.ref x,.str "__class__" tk],[]⟩) R s:=
 codeAny_call_builtin F.excAttr_ValueError.ga.plain F.entry_bexc_ga (exc_check X I hb (exc_entry X I ha hn htk hm hc h))
theorem exc_class {Q:Option Value->Shared->Prop}(X:K.In s.heap) (I:ExcAt x C s.heap) (hga:findIn K (.ref C) "__getattribute__" = some (some (.builtin "BaseException.__getattribute__"))) (hgt:findIn K (.ref C) "__getattr__" = some none)
  (ha:findIn K (.ref C) "__class__" = some (some (.builtin "object.__class__"))) (hn:specialIn K (.builtin "object.__class__") "__get__" = some (some (.builtin "getset_descriptor.__get__"))) (htk:takesIn K (.builtin "object.__class__")=some true)
  (hm:mroIn K C (.type "object")=some true) (hb:mroIn K C (.type "BaseException")=some true) (hc:(clsIn K C).isSome=true) (h:Q (some (.ref C)) { s with toks:=s.toks+1 }) :
  wpAny (model prog w) A (getAttr? (.ref x) "__class__") Q E s:=by
 have go:=λ(A':Around) (R:Result->Shared->Prop) (tk:Tok)=>exc_call (prog:=prog) (w:=w) (A:=A') (R:=R) (s:={ s with toks:=s.toks+1 }) (tk:=tk) X I ha hn htk hm hb hc
 obtain⟨hh,g,d,t,os⟩:=s
 have L0:=I.type (M:=model prog w)
 have L1:=looks_findIn (M:=model prog w) X hga
 have L2:=looks_findIn (M:=model prog w) X hgt
 have f3:=F.excAttr_ValueError.ga.bind (.ref x)
 have hx2:(Value.builtin "BaseException.__getattribute__" == Value.builtin "object.__getattribute__")=false:=by decide +kernel
 have hx1:(onTheHeap (Value.ref C)&&Value.builtin "BaseException.__getattribute__" == Value.builtin "object.__getattribute__")=false:=by rw[hx2];rfl
 unfold getAttr? getAttrBy? getAttrBy
 refine wpAny_bind (wpAny_mkText (wpAny_bind (wpAny_attempt (wpAny_holding (wpAny_bind (L0.at (wpAny_bind (L1.at ?_))))))))
 dsimp only
 rw[if_neg (by rw[hx1];exact Bool.false_ne_true)]
 unfold getAttrByItsOwn
 repeat (any_goals (first|assumption|with_reducible refine L0.at ?_|with_reducible refine L2.at ?_|wp_step))
 refine go _ _ _ ?_
 repeat (any_goals (first|assumption|wp_step))
structure ExcCls (K:Frag) (C:Addr):Prop where
 hga:findIn K (.ref C) "__getattribute__" = some (some (.builtin "BaseException.__getattribute__"))
 hgt:findIn K (.ref C) "__getattr__" = some none
 ha:findIn K (.ref C) "__class__" = some (some (.builtin "object.__class__"))
 hn:specialIn K (.builtin "object.__class__") "__get__" = some (some (.builtin "getset_descriptor.__get__"))
 htk:takesIn K (.builtin "object.__class__")=some true
 hm:mroIn K C (.type "object")=some true
 hb:mroIn K C (.type "BaseException")=some true
 hc:(clsIn K C).isSome=true
theorem kitx_exc (T:ExcCls K C):KitX K (.ref x) (.ref C) (ExcAt x C) where
 ty:=λ_ _ _ I=>I.type
 it:=λ_ _ X _=>by
  have hc:=T.hc
  unfold clsIn at hc
  split at hc
  ·rename_i c' d' cd' sl' ho
   intro A1 Q1 E1 s1 kp q1
   unfold isType loadHead
   refine wpAny_bind (wpAny_loadPart (kp _ _ (X _ _ ho)) ?_)
   exact wpAny_pure q1
  ·cases hc
 ne:=λh tp dd its n sl X htp=>by
  have hc:=T.hc
  refine Bool.eq_false_iff.mpr λq=>?_
  have e:C=tp:=Value.ref.inj (beq_iff_eq.mp q)
  subst e
  unfold clsIn at hc
  split at hc
  ·rename_i c' d' cd' sl' ho
   have z:=(X _ _ ho).symm.trans htp
   cases z
  ·cases hc
 ca:=λX I k=>exc_class X I T.hga T.hgt T.ha T.hn T.htk T.hm T.hb T.hc k
end
end L2
namespace L2
open PySem PySem.Spec PyProof.Rows PySem.W
section
variable {K:Frag}{h:Heap}{C:Addr}{bmB:List Value}{newId:String}
end
section
variable {X:Cx}{x:Str}{C:Addr}{E:XK}{e₀:Expr}{rest:List Expr}{t:TA}{np cpos pos:Pos}
end
section
variable {X:Cx}{pins:List (Addr×Obj)}{σ:St}{H:Hp}{s:Shared}
end
section
variable {prog:Program}{w:World}{A:Around}{E:Value->Shared->Prop}{s:Shared}{x C e:Addr}
end
end L2
namespace L2
open PySem PySem.Spec PyProof.Rows
section
variable {X:Cx}{k:Nat}{f xe:Addr}{fd:FuncData}{ps:List Str}{sp:SpH}{x:Str}{p pos:Pos}{e:Expr}{es:List Expr}{t:TA}
end
end L2
namespace L2
open PySem PySem.Spec PyProof.Rows PySem.W
section
variable {X:Cx}
def clsV:V->Option Value
 |.ty n=>some (.type n)
 |.ref a=>some (.ref a)
 |_=>none
theorem clsV_is {c:V}{u cv:Value}(r:RelV c u) (e:clsV c=some cv):u=cv:=by
 cases c with
 |ty n=>cases e;exact r
 |ref a=>cases e;exact r
 |_=>cases e
def ExcT (K:Frag) (H:Hp) (x:V) (t:Value):Prop:=∃a C,x=.ref a/\H a=some (.ext (ExcAt a C))/\ExcCls K C/\t=.ref C
theorem call_isi:CallR X (.builtin "isinstance") (λxs H Q=>∃x c t cv b,xs=[x,c]/\clsV c=some cv/\(TyOf X.K H x t\/ExcT X.K H x t)/\kitOne X.K t cv=some b/\Q (.bl b) H):=by
 intro pins s σ H xs us Q I r h
 obtain⟨x,c,t,cv,b,rfl,hc,ht,hk,q⟩:=h
 obtain⟨u,u',rfl,rx,rc⟩:=vals2 r
 cases clsV_is rc hc
 rcases ht with ty|⟨a,C,rfl,e,T,rfl⟩
 ·exact isinst_ok I rx ty hk λtk=>⟨.bl b,H,I.tok _,rfl,q⟩
 ·cases (show u=Value.ref a from rx)
  have p:ExcAt a C s.heap:=(I.hok a _ e).1
  exact kia_one (kitx_exc T) I.kIn p hk (λz=>nomatch z) λtk=>⟨.bl b,H,I.tok _,rfl,q⟩
theorem moved_inv {pins:List (Addr×Obj)}{σ:St}{H:Hp}{s s':Shared}{o₁:Obj}{wr:List Addr}(I:Inv X pins σ H s) (mv:Moved wr (λa b=>b=a) { s with heap:=s.heap.push o₁ } s') (hn:∀b o,s.heap.get? b=some o->b∈wr->False):Inv X pins σ H s':=by
 obtain⟨h',g',d',t',os'⟩:=s'
 obtain⟨m1,m2,m3,m4,m5⟩:=mv
 cases (show g'=s.gens from m2)
 cases (show d'=s.drawn from m3)
 cases (show os'=s.os from m4)
 exact I.kept (h':=h') (t':=t') λb o e=>m1 b o (λz=>hn b o e z) (Heap.get?_push_of_some _ e)
theorem call_allL (hc:X.calm=true):CallR X (.builtin "all") (λxs H Q=>∃(p:Addr) (bs:List Bool),xs=[.ref p]/\H p=some (.lst (bs.map V.bl))/\Q (.bl (bs.all id)) H):=by
 intro pins s σ H xs us Q I r h
 obtain⟨p,bs,rfl,hp,q⟩:=h
 obtain⟨u,rfl,rx⟩:=vals1 r
 cases rx
 obtain⟨z,its,n,rv,hl⟩:=I.hok p _ hp
 have isl:s.heap.IsList p its.toArray:=⟨_,hl,rfl,_,rfl⟩
 have hlen:its.length=bs.length:=by have:=rv.length;simpa using this.symm
 have np:p≠s.heap.objs.size:=Nat.ne_of_lt (Heap.lt_size hl)
 refine call_all_walk (wpAny_pyIter_list isl ?_)
 refine⟨s.heap.objs.size,_,_,_,_,_,λi=>bs.getD i true,rfl,Walks.list (A:=X.A.in1) (I.ok.hd hc) s.heap.objs.size p np its.toArray,⟨⟨_,Heap.get?_push_size _ rfl,rfl,rfl⟩,isl.at λo e=>Heap.get?_push_of_some _ e⟩,?_,?_⟩
 ·intro i v s' Q' E' hv hq
  have hv':its[i]?=some v:=by simpa using hv
  have hi:i<bs.length:=by rw[<- hlen];exact (gS_ hv').1
  obtain⟨w',e1,e2⟩:=rv.get (x:=V.bl (bs[i])) (i:=i) (by simp[hi])
  rw[hv'] at e1;cases e1
  cases (show v=Value.bool bs[i] from e2)
  have eg:bs.getD i true=bs[i]:=by simp[List.getD,hi]
  dsimp only at hq
  rw[eg] at hq
  exact wpAny_truthy_bool hq
 ·intro h' tk k
  refine⟨.bl (bs.all id),H,I.kept (h':=h') (t':=tk) (λb o e=>k b o (λz=>?_) (Heap.get?_push_of_some _ e)),?_,q⟩
  ·have:b=s.heap.objs.size:=by simpa using z
   exact Nat.lt_irrefl _ (by rw[this] at e;exact Heap.lt_size e)
  ·have es:its.toArray.size=bs.length:=by simpa using hlen
   rw[es]
   show Value.bool _=Value.bool _
   congr 1
   rw[Bool.eq_iff_iff,List.all_eq_true,List.all_eq_true]
   constructor
   ·intro z b hb
    obtain⟨i,hi,e⟩:=List.mem_iff_getElem.mp hb
    have:=z i (List.mem_range.mpr hi)
    simpa [List.getD,hi,e] using this
   ·intro z i hi
    have hi':=List.mem_range.mp hi
    have:=z bs[i] (List.getElem_mem hi')
    simpa [List.getD,hi'] using this
theorem call_anyL (hc:X.calm=true):CallR X (.builtin "any") (λxs H Q=>∃(p:Addr) (bs:List Bool),xs=[.ref p]/\H p=some (.lst (bs.map V.bl))/\Q (.bl (bs.any id)) H):=by
 intro pins s σ H xs us Q I r h
 obtain⟨p,bs,rfl,hp,q⟩:=h
 obtain⟨u,rfl,rx⟩:=vals1 r
 cases rx
 obtain⟨z,its,n,rv,hl⟩:=I.hok p _ hp
 have isl:s.heap.IsList p its.toArray:=⟨_,hl,rfl,_,rfl⟩
 have hlen:its.length=bs.length:=by have:=rv.length;simpa using this.symm
 have np:p≠s.heap.objs.size:=Nat.ne_of_lt (Heap.lt_size hl)
 refine call_any_walk (wpAny_pyIter_list isl ?_)
 refine⟨s.heap.objs.size,_,_,_,_,_,λi=>bs.getD i true,rfl,Walks.list (A:=X.A.in1) (I.ok.hd hc) s.heap.objs.size p np its.toArray,⟨⟨_,Heap.get?_push_size _ rfl,rfl,rfl⟩,isl.at λo e=>Heap.get?_push_of_some _ e⟩,?_,?_⟩
 ·intro i v s' Q' E' hv hq
  have hv':its[i]?=some v:=by simpa using hv
  have hi:i<bs.length:=by rw[<- hlen];exact (gS_ hv').1
  obtain⟨w',e1,e2⟩:=rv.get (x:=V.bl (bs[i])) (i:=i) (by simp[hi])
  rw[hv'] at e1;cases e1
  cases (show v=Value.bool bs[i] from e2)
  have eg:bs.getD i true=bs[i]:=by simp[List.getD,hi]
  dsimp only at hq
  rw[eg] at hq
  exact wpAny_truthy_bool hq
 ·intro h' tk k
  refine⟨.bl (bs.any id),H,I.kept (h':=h') (t':=tk) (λb o e=>k b o (λz=>?_) (Heap.get?_push_of_some _ e)),?_,q⟩
  ·have:b=s.heap.objs.size:=by simpa using z
   exact Nat.lt_irrefl _ (by rw[this] at e;exact Heap.lt_size e)
  ·have es:its.toArray.size=bs.length:=by simpa using hlen
   rw[es]
   show Value.bool _=Value.bool _
   congr 1
   rw[Bool.eq_iff_iff,List.any_eq_true,List.any_eq_true]
   constructor
   ·rintro⟨i,hi,e⟩
    have hi':=List.mem_range.mp hi
    refine⟨bs[i],List.getElem_mem hi',?_⟩
    simpa [List.getD,hi'] using e
   ·rintro⟨b,hb,e⟩
    obtain⟨i,hi,e2⟩:=List.mem_iff_getElem.mp hb
    refine⟨i,List.mem_range.mpr hi,?_⟩
    have:bs.getD i true=bs[i]:=by simp[List.getD,hi]
    rw[this,e2]
    exact e
def best (ns:List Int):Nat->Int
 |0=>ns.getD 0 0
 |k+1=>if ns.getD (k+1) 0>best ns k then ns.getD (k+1) 0 else best ns k
theorem best_arg (ns:List Int):∀k,ns.getD (argBest (λi j=>decide (ns.getD i 0>ns.getD j 0)) k) 0=best ns k/\argBest (λi j=>decide (ns.getD i 0>ns.getD j 0)) k<=k
 |0=>⟨rfl,Nat.le_refl _⟩
 |k+1=>by
  obtain⟨h1,h2⟩:=best_arg ns k
  unfold argBest best
  rw[<- h1]
  by_cases hc:ns.getD (k+1) 0>ns.getD (argBest (λi j=>decide (ns.getD i 0>ns.getD j 0)) k) 0
  ·rw[if_pos (decide_eq_true hc),if_pos hc]
   exact⟨rfl,Nat.le_refl _⟩
  ·rw[if_neg (by simpa using hc),if_neg hc]
   exact⟨rfl,Nat.le_succ_of_le h2⟩
theorem call_maxL (hc:X.calm=true):CallR X (.builtin "max") (λxs H Q=>∃(p:Addr) (ns:List Int),xs=[.ref p]/\H p=some (.lst (ns.map V.int))/\ns≠[]/\Q (.int (best ns (ns.length-1))) H):=by
 intro pins s σ H xs us Q I r h
 obtain⟨p,ns,rfl,hp,hne,q⟩:=h
 obtain⟨u,rfl,rx⟩:=vals1 r
 cases rx
 obtain⟨z,its,n,rv,hl⟩:=I.hok p _ hp
 have isl:s.heap.IsList p its.toArray:=⟨_,hl,rfl,_,rfl⟩
 have hlen:its.length=ns.length:=by have:=rv.length;simpa using this.symm
 have np:p≠s.heap.objs.size:=Nat.ne_of_lt (Heap.lt_size hl)
 have es:its.toArray.size=ns.length:=by simpa using hlen
 have pos:0<ns.length:=List.length_pos_iff.mpr hne
 have item:∀(i:Nat) (v:Value),its.toArray[i]?=some v->∃t,v=.int (ns.getD i 0) t:=λi v hv=>by
  have hv':its[i]?=some v:=by simpa using hv
  have hi:i<ns.length:=by rw[<- hlen];exact (gS_ hv').1
  obtain⟨w',e1,t,e2⟩:=rv.get (x:=V.int (ns[i])) (i:=i) (by simp[hi])
  rw[hv'] at e1;cases e1
  exact⟨t,by rw[e2];simp[List.getD,hi]⟩
 refine call_max_walkS (wpAny_pyIter_list isl ?_)
 refine⟨s.heap.objs.size,_,_,_,_,_,_,λi j=>decide (ns.getD i 0>ns.getD j 0),rfl,(Walks.list (A:=X.A.in1) (I.ok.hd hc) s.heap.objs.size p np its.toArray).toS,⟨⟨_,Heap.get?_push_size _ rfl,rfl,rfl⟩,isl.at λo e=>Heap.get?_push_of_some _ e⟩,?_,by rw[es];exact pos,?_,?_⟩
 ·intro b hb
  rw[Heap.size_push]
  rcases List.mem_cons.mp hb with rfl|hb
  ·exact Nat.lt_succ_self _
  ·have:b=p:=by simpa using hb
   subst this
   exact Nat.lt_succ_of_lt (Heap.lt_size hl)
 ·intro i j vi vj s' Q' E' hi hj hq
  obtain⟨t,rfl⟩:=item i vi hi
  obtain⟨t',rfl⟩:=item j vj hj
  exact gt_int hq
 ·intro v s' hv mv
  rw[es] at hv
  obtain⟨t,rfl⟩:=item _ v hv
  rw[(best_arg ns (ns.length-1)).1]
  refine⟨.int _,H,moved_inv I mv (λb o e hb=>?_),⟨t,rfl⟩,q⟩
  have:b=s.heap.objs.size:=by simpa using hb
  exact Nat.lt_irrefl _ (by rw[this] at e;exact Heap.lt_size e)
theorem kV_of {P:Program}{w:World}{k:Key}{v:Value}(h:(mixKind P w).is k v=true):RelV (kV k) v:=by
 rcases keyIs_shape (show keyIs k v=true from h) with ⟨i,t,rfl,rfl⟩|⟨x,t,rfl,rfl⟩
 ·exact⟨t,rfl⟩
 ·exact⟨t,rfl⟩
theorem vals_of:∀{xs:List V}{us:List Value},xs.length=us.length->(∀(i:Nat) x v,xs[i]?=some x->us[i]?=some v->RelV x v)->Vals xs us
 |[],[],_,_=>.nil
 |[],_::_,h,_=>by simp at h
 |_::_,[],h,_=>by simp at h
 |x::xs,u::us,h,f=>.cons (f 0 x u rfl rfl) (vals_of (by simpa using h) λi y v hy hv=>f (i+1) y v (by simpa using hy) (by simpa using hv))
theorem call_listD (hc:X.calm=true):CallR X (.type "list") (λxs H Q=>∃(d:Addr) (kvs:List (Key×V)),xs=[.ref d]/\H d=some (.dK kvs)/\∀l,H l=none->Q (.ref l) (upd H l (.lst (kvs.map λkv=>kV kv.1)))):=by
 intro pins s σ H xs us Q I r h
 obtain⟨d,kvs,rfl,hd,q⟩:=h
 obtain⟨u,rfl,ru⟩:=vals1 r
 cases ru
 obtain⟨z,lo,vs,rel,dd⟩:=dk_of I.hok hd
 obtain⟨ep,hat⟩:=dd.dictAt
 have hl:=rel.length
 refine kdl_call (kdl_dict (knd:=mixKind X.prog X.w) (kvs:=vs) (ep:=ep) lo) (I.ok.hd hc) hat (by rw[<- hl];exact z) λh' tk acc c kp ho hacc=>?_
 refine⟨.ref s.heap.objs.size,_,I.laid (a:=s.heap.objs.size) (o:=.lst (kvs.map λkv=>kV kv.1)) (t':=tk) kp (Nat.le_refl _) ⟨by simpa using z,acc.toList,c,?_,by simpa using ho⟩,rfl,q _ I.fresh⟩
 refine vals_of (by simp[hl,hacc.1]) λi x v hx hv=>?_
 rw[List.getElem?_map] at hx
 obtain⟨kv,hkv,rfl⟩:=Option.map_eq_some_iff.mp hx
 obtain⟨k,y,hk,his⟩:=hacc.2 i v (by simpa using hv)
 have e1:vs[i]?=some (k,y):=hk
 have e2:kv.1=k:=by
  have z1:(kvs.map (·.1))[i]?=some kv.1:=by rw[List.getElem?_map,hkv];rfl
  have z2:(vs.map (·.1))[i]?=some k:=by rw[List.getElem?_map,e1];rfl
  rw[rel.keys] at z1
  rw[z1] at z2
  exact Option.some.inj z2
 rw[e2]
 exact kV_of his
theorem call_range1V:CallR X (.type "range") (λxs H Q=>∃n:Int,xs=[.int n]/\∀r,H r=none->Q (.ref r) (upd H r (.rng 0 n))):=by
 intro pins s σ H xs us Q I r h
 obtain⟨n,rfl,q⟩:=h
 obtain⟨u,rfl,t,rfl⟩:=vals1 r
 exact call_range_1 ⟨.ref s.heap.objs.size,_,I.laid (a:=s.heap.objs.size) (o:=.rng 0 n) (λb o e=>Heap.get?_push_of_some _ e) (Nat.le_refl _) ⟨_,_,_,Heap.get?_push_size _ rfl⟩,rfl,q _ I.fresh⟩
theorem call_listR (hc:X.calm=true):CallR X (.type "list") (λxs H Q=>∃(r:Addr) (n:Nat),xs=[.ref r]/\H r=some (.rng 0 (n:Int))/\n<=1000000/\∀l,H l=none->Q (.ref l) (upd H l (.lst ((List.range n).map λ(i:Nat)=>V.int (i:Int))))):=by
 intro pins s σ H xs us Q I rv h
 obtain⟨r,n,rfl,hr,hn,q⟩:=h
 obtain⟨u,rfl,ru⟩:=vals1 rv
 cases ru
 obtain⟨t,u,v,ho⟩:=I.hok r _ hr
 refine call_list_range (a:=0) (b:=n) (c:=1) (n:=n) (I.ok.hd hc) ho (small_one (by lia) (by lia) (by lia) (by lia)) (by rw[rangeSize_one];split<;>lia) (by lia) λh' tk acc c kp ho' hacc=>?_
 refine⟨.ref s.heap.objs.size,_,I.laid (a:=s.heap.objs.size) (o:=.lst ((List.range n).map λ(i:Nat)=>V.int (i:Int))) (t':=tk) kp (Nat.le_refl _) ⟨?_,acc.toList,c,?_,by simpa using ho'⟩,rfl,q _ I.fresh⟩
 ·rw[List.length_map,List.length_range,sizeLine_eq]
  lia
 ·refine vals_of (by simp[hacc.1]) λi x v hx hv=>?_
  rw[List.getElem?_map] at hx
  obtain⟨j,hj,rfl⟩:=Option.map_eq_some_iff.mp hx
  have e:j=i:=by
   obtain⟨_,e⟩:=gS_ hj
   simpa using e.symm
  subst e
  obtain⟨t',rfl⟩:=hacc.2 j v (by simpa using hv)
  exact⟨t',by simp⟩
end
namespace TupMul
theorem noFill:fillsNumberSlot (.type "tuple") "mul" = pure false:=
 PySem.fillsNumberSlot_seq (id:= "tuple.__mul__") (r:=some (.builtin "tuple.__rmul__")) F.slot_tuple_mul.lookup (by decide +kernel) F.slot_tuple_rmul.lookup (by decide +kernel)
theorem rep:seqRepeat? (.type "tuple")=pure (some (.builtin "tuple.__mul__")):=by
 unfold seqRepeat?
 rw[PySem.seqSlot_of (T:= "tuple") (name:= "__mul__") (id:= "tuple.__mul__") F.slot_tuple_mul.lookup (by decide +kernel),PySem.seqSlot_of (T:= "tuple") (name:= "__rmul__") (id:= "tuple.__rmul__") F.slot_tuple_rmul.lookup (by decide +kernel)]
 rfl
theorem declines (a:Int) (t:Tok) (l:Addr) (items:Array Value) (n:Nat) (dct:Option Addr) (sl:Array (Option Value)) :
  Meets (Builtin.«int.__rmul__» ⟨[.int a t,.ref l],[]⟩) (λ_ R s=>s.heap.get? l=some { cls:=.type "tuple",dict:=dct,data:=.seq items n,slots:=sl }/\R (.ok (.ret Value.notImplemented)) s):=
 .of_wp λprog w A R s h=>by
  obtain⟨hp,g,d,tk,os⟩:=s
  obtain⟨hl,h⟩:=h
  wp_walk
  exact⟨_,rfl,h⟩
theorem mul (k:Int) (t:Tok) (l:Addr) (items:Array Value) (n:Nat) (dct:Option Addr) (sl:Array (Option Value)) (h1:1<k) (h2:k<=1000) (hs:items.size=1) :
  Meets (Builtin.«tuple.__mul__» ⟨[.ref l,.int k t],[]⟩) (λ_ R s=>s.heap.get? l=some { cls:=.type "tuple",dict:=dct,data:=.seq items n,slots:=sl } /\
   R (.ok (.ret (.ref s.heap.objs.size))) { s with heap:=s.heap.push { cls:=.type "tuple",data:=.seq ((List.replicate k.toNat items).foldl (·++·) #[]) } }):=
 .of_wp λprog w A R s h=>by
  obtain⟨hp,g,d,tk,os⟩:=s
  obtain⟨hl,h⟩:=h
  have c1:(decide (k < -2^63)||decide (k>=2^63))=false:=by simp;lia
  have c0:items.isEmpty=false:=by
   cases he:items.isEmpty with
   |false=>rfl
   |true=>rw[Array.isEmpty_iff.mp he] at hs;cases hs
  have c2:(items.isEmpty||k==1)=false:=by rw[c0];simp;lia
  have c3:(decide (k<=0)||items.isEmpty)=false:=by rw[c0];simp;lia
  have c4:¬((items.size:Int)*k>(2^63-1)/8):=by rw[hs];lia
  have c5:Builtin.Tuple.tupleTooMany ((items.size:Int)*k)=false:=by
   rw[hs]
   show decide (((1:Nat):Int)*k>(sizeLine:Int))=false
   rw[sizeLine_eq]
   exact decide_eq_false (by lia)
  wp_walk
  refine wpAny_ite_split (λz=>by rw[c1] at z;cases z) λ_=>?_
  wp_walk
  refine wpAny_ite_split (λz=>by rw[c2] at z;cases z) λ_=>?_
  refine wpAny_ite_split (λz=>by rw[c3] at z;cases z) λ_=>?_
  refine wpAny_ite_split (λz=>absurd z c4) λ_=>?_
  refine wpAny_ite_split (λz=>by rw[c5] at z;cases z) λ_=>?_
  wp_walk
  refine wpAny_ite_split (λz=>absurd z ?_) λ_=>?_
  ·have f:∀(m:Nat) (acc:Array Value),(List.foldl (λx1 x2=>x1++x2) acc (List.replicate m items)).size=acc.size+m:=λm=>by
    induction m with
    |zero=>intro acc;rfl
    |succ m ih=>
     intro acc
     rw[List.replicate_succ,List.foldl_cons,ih,Array.size_append,hs]
     lia
   rw[f,sizeLine_eq]
   simp
   lia
  wp_walk
  exact⟨_,rfl,h⟩
end TupMul
section
variable {X:Cx}
theorem op_repT:OpR X (binaryOp .Mult) (λx y H Q=>∃(l:Addr) (k:Int) (v:V),x=.ref l/\y=.int k/\H l=some (.tup [v])/\1<k/\k<=1000/\∀p,H p=none->Q (.ref p) (upd H p (.tup (List.replicate k.toNat v)))):=by
 intro pins s σ H x y v u Q I rx ry h
 obtain⟨l,k,v1,rfl,rfl,hH,h1,h2,q⟩:=h
 cases rx
 obtain⟨t,rfl⟩:=ry
 obtain⟨_,its,r,o,ho,hc,⟨n,hdn⟩,hd⟩:=I.hok l _ hH
 obtain⟨oc,od,odt,osl⟩:=o
 replace hc:oc=.type "tuple":=hc
 replace hd:odt=.seq its.toArray n:=hd
 subst hc hd
 cases r with
 |cons r1 rr=>
  cases rr
  rename_i u1
  have hnew:List.foldl (λx1 x2=>x1++x2) #[] (List.replicate k.toNat #[u1])=(List.replicate k.toNat u1).toArray:=by
   have f:∀(m:Nat) (acc:List Value),List.foldl (λx1 x2=>x1++x2) acc.toArray (List.replicate m #[u1])=(acc++List.replicate m u1).toArray:=λm=>by
    induction m with
    |zero=>intro acc;simp
    |succ m ih=>
     intro acc
     rw[List.replicate_succ,List.foldl_cons,show acc.toArray++#[u1]=(acc++[u1]).toArray by simp,ih]
     simp[List.replicate_succ]
   have:=f k.toNat []
   simpa using this
  refine wpAny_binaryOp_repeat_ref (T:= "tuple") (U:= "int") (by decide) ⟨_,ho,rfl⟩ (λs'=>typeIs_int s' k t) TupMul.noFill F.fills_int_mul F.slot_int_rmul TupMul.rep F.slot_int_index.lookup
   (call_meets F.slot_int_rmul (typeIs_int s k t) F.entry_int_rmul (F.args_int_rmul_2 _ _) (TupMul.declines k t l _ n od osl)
    ⟨ho,rfl,⟨_,ho,rfl⟩,call_meets F.slot_tuple_mul ⟨_,ho,rfl⟩ F.entry_tuple_mul (F.args_tuple_mul_2 _ _) (TupMul.mul k t l _ n od osl h1 h2 rfl) ⟨ho,?_⟩⟩)
  rw[hnew]
  refine⟨.ref _,_,I.laid (a:=s.heap.objs.size) (o:=.tup (List.replicate k.toNat v1)) (t':=s.toks) (λb o e=>Heap.get?_push_of_some _ e) (Nat.le_refl _) ⟨?_,List.replicate k.toNat u1,?_,_,Heap.get?_push_size _ rfl,rfl,⟨_,rfl⟩,rfl⟩,rfl,q _ I.fresh⟩
  ·rw[List.length_replicate,sizeLine_eq];lia
  ·generalize k.toNat=m
   induction m with
   |zero=>exact .nil
   |succ m ih=>exact .cons r1 ih
end
end L2
namespace Qf
abbrev Row:=List Nat
def mx:List Nat->Nat
 |[]=>0
 |a::l=>max a (mx l)
theorem le_mx {x:Nat}:∀{l:List Nat},x∈l->x<=mx l
 |a::l,h=>by
  rcases List.mem_cons.mp h with rfl|h
  ·exact Nat.le_max_left _ _
  ·exact Nat.le_trans (le_mx h) (Nat.le_max_right _ _)
theorem mx_le {b:Nat}:∀{l:List Nat},(∀x∈l,x<=b)->mx l<=b
 |[],_=>Nat.zero_le _
 |a::l,h=>Nat.max_le.mpr ⟨h a List.mem_cons_self,mx_le λx hx=>h x (List.mem_cons_of_mem _ hx)⟩
theorem mx_mono {f g:Nat->Nat}:∀{l:List Nat},(∀x∈l,f x<=g x)->mx (l.map f)<=mx (l.map g)
 |[],_=>Nat.le_refl _
 |a::l,h=>by
  have h1:=h a List.mem_cons_self
  have h2:=mx_mono (l:=l) λx hx=>h x (List.mem_cons_of_mem _ hx)
  show max (f a) (mx (l.map f))<=max (g a) (mx (l.map g))
  lia
theorem mx_congr {f g:Nat->Nat}{l:List Nat}(h:∀x∈l,f x=g x):mx (l.map f)=mx (l.map g):=by
 rw[List.map_congr_left h]
def RowOk (p:Nat) (r:Row):Prop:=r.length=4/\∀x∈r,x<p+2
def RowsOk (rows:List Row):Prop:=∀p r,rows[p]?=some r->RowOk p r
def depStep (ds:List Nat) (r:Row):List Nat:=ds++[1+mx (r.map (ds.getD · 0))]
def deps (rows:List Row):List Nat:=rows.foldl depStep [0,0]
def dp (rows:List Row) (x:Nat):Nat:=(deps rows).getD x 0
theorem deps_snoc (rows:List Row) (r:Row):deps (rows++[r])=deps rows++[1+mx (r.map (dp rows))]:=by
 unfold deps dp deps
 rw[List.foldl_append]
 rfl
theorem snoc_ind {P:List Row->Prop}(h0:P []) (h1:∀l a,P l->P (l++[a])) (l:List Row):P l:=by
 have:∀m:List Row,P m.reverse:=λm=>by
  induction m with
  |nil=>exact h0
  |cons a m ih=>rw[List.reverse_cons];exact h1 _ _ ih
 have h:=this l.reverse
 rwa [List.reverse_reverse] at h
theorem deps_len (rows:List Row):(deps rows).length=rows.length+2:=by
 induction rows using snoc_ind with
 |h0=>rfl
 |h1 l a ih=>rw[deps_snoc,List.length_append,ih,List.length_append];simp
theorem dp_snoc_lt {rows:List Row}{r:Row}{x:Nat}(h:x<rows.length+2):dp (rows++[r]) x=dp rows x:=by
 unfold dp
 rw[deps_snoc,List.getD_eq_getElem?_getD,List.getD_eq_getElem?_getD,List.getElem?_append_left (by rw[deps_len];exact h)]
theorem dp_snoc_at {rows:List Row}{r:Row}:dp (rows++[r]) (rows.length+2)=1+mx (r.map (dp rows)):=by
 unfold dp
 rw[deps_snoc,List.getD_eq_getElem?_getD,List.getElem?_append_right (by rw[deps_len];exact Nat.le_refl _),deps_len]
 simp only[Nat.sub_self,List.getElem?_cons_zero,Option.getD_some]
 rfl
theorem dp_append_lt {rows more:List Row}{x:Nat}(h:x<rows.length+2):dp (rows++more) x=dp rows x:=by
 induction more using snoc_ind with
 |h0=>simp
 |h1 l a ih=>
  rw[<- List.append_assoc,dp_snoc_lt (by simp;lia),ih]
theorem dp_low {rows:List Row}{x:Nat}(h:x<2):dp rows x=0:=by
 have:=dp_append_lt (rows:=[]) (more:=rows) (x:=x) (by simpa using h)
 rw[List.nil_append] at this
 rw[this]
 match x,h with
 |0,_=>rfl
 |1,_=>rfl
theorem take_next {rows:List Row}{p:Nat}{r:Row}(hp:rows[p]?=some r):rows=rows.take p++[r]++rows.drop (p+1):=by
 have hlt:=(gS_ hp).1
 have he:=(gS_ hp).2
 rw[<- he,List.take_append_getElem hlt,List.take_append_drop]
theorem dp_at {rows:List Row}(ok:RowsOk rows){p:Nat}{r:Row}(hp:rows[p]?=some r):dp rows (p+2)=1+mx (r.map (dp rows)):=by
 have hlt:=(gS_ hp).1
 have hl:(rows.take p).length=p:=by simp;lia
 have e:=take_next hp
 have h1:dp rows (p+2)=dp (rows.take p++[r]) (p+2):=by
  have:=dp_append_lt (rows:=rows.take p++[r]) (more:=rows.drop (p+1)) (x:=p+2) (by simp;lia)
  rw[<- e] at this
  exact this
 have h2:=dp_snoc_at (rows:=rows.take p) (r:=r)
 rw[hl] at h2
 rw[h1,h2]
 congr 1
 refine mx_congr λx hx=>?_
 have hx2:=(ok p r hp).2 x hx
 have:=dp_append_lt (rows:=rows.take p) (more:=[r]++rows.drop (p+1)) (x:=x) (by rw[hl];exact hx2)
 rw[<- List.append_assoc,<- e] at this
 exact this.symm
def dfs (rows:List Row):Nat->List Nat->Nat->List Nat
 |0,e,_=>e
 |d+1,e,x=>if x<2\/x-2∈e then e else (rows.getD (x-2) []).foldl (dfs rows d) e++[x-2]
theorem foldl_ext {f:List Nat->Nat->List Nat}(h:∀e x,∃s,f e x=e++s):∀(l:List Nat) (e:List Nat),∃s,l.foldl f e=e++s
 |[],e=>⟨[],by simp⟩
 |a::l,e=>by
  obtain⟨s,hs⟩:=h e a
  obtain⟨s',hs'⟩:=foldl_ext h l (f e a)
  exact⟨s++s',by rw[List.foldl_cons,hs',hs,List.append_assoc]⟩
theorem dfs_ext (rows:List Row):∀(d:Nat) (e:List Nat) (x:Nat),∃s,dfs rows d e x=e++s
 |0,e,x=>⟨[],by simp[dfs]⟩
 |d+1,e,x=>by
  unfold dfs
  split
  ·exact⟨[],by simp⟩
  ·obtain⟨s,hs⟩:=foldl_ext (dfs_ext rows d) (rows.getD (x-2) []) e
   exact⟨s++[x-2],by rw[hs,List.append_assoc]⟩
structure Post (rows:List Row) (e:List Nat):Prop where
 nd:e.Nodup
 lt:∀p∈e,p<rows.length
 ch:∀(i p:Nat),e[i]?=some p->∀q∈rows.getD p [],q<2\/∃j:Nat,j<i/\e[j]?=some (q-2)
theorem post_nil (rows:List Row):Post rows []:=⟨List.nodup_nil,λp hp=>(nomatch hp),λi p h=>by simp at h⟩
theorem mem_pre {e s:List Nat}{j a:Nat}(h:e[j]?=some a):(e++s)[j]?=some a:=by
 have:=(gS_ h).1
 rw[List.getElem?_append_left this];exact h
theorem dfs_post {rows:List Row}(ok:RowsOk rows):∀(d:Nat) (e:List Nat) (x:Nat),Post rows e->x<rows.length+2->dp rows x<=d->Post rows (dfs rows d e x)/\(x<2\/x-2∈dfs rows d e x)
 |0,e,x,pe,hx,hd=>by
  refine⟨pe,?_⟩
  by_cases h:x<2
  ·exact .inl h
  ·exfalso
   obtain⟨p,rfl⟩:∃p,x=p+2:=⟨x-2,by lia⟩
   have hp:rows[p]?=some (rows[p]'(by lia)):=by simp[show p<rows.length by lia]
   rw[dp_at ok hp] at hd
   lia
 |d+1,e,x,pe,hx,hd=>by
  unfold dfs
  split
  ·rename_i h
   exact⟨pe,h⟩
  ·rename_i h
   obtain⟨h1,h2⟩:=not_or.mp h
   obtain⟨p,rfl⟩:∃p,x=p+2:=⟨x-2,by lia⟩
   rw[Nat.add_sub_cancel] at h2 ⊢
   have hlt:p<rows.length:=by lia
   have hp:rows[p]?=some rows[p]:=by simp[hlt]
   have eg:rows.getD p []=rows[p]:=by simp[List.getD,hlt]
   rw[eg]
   have hdp:=dp_at ok hp
   have rk:=ok p _ hp
   have key:∀(l:List Nat) (e0:List Nat),(∀q∈l,q<p+2/\dp rows q<=d)->Post rows e0->Post rows (l.foldl (dfs rows d) e0)/\(∀q∈l,q<2\/q-2∈l.foldl (dfs rows d) e0)/\(∀a∈l.foldl (dfs rows d) e0,a∈e0\/a<p):=λl=>by
    induction l with
    |nil=>exact λe0 _ pe0=>⟨pe0,λq hq=>(nomatch hq),λa ha=>.inl ha⟩
    |cons q l ih=>
     intro e0 hl pe0
     obtain⟨hq1,hq2⟩:=hl q List.mem_cons_self
     obtain⟨p1,m1⟩:=dfs_post ok d e0 q pe0 (by lia) hq2
     obtain⟨p2,m2,n2⟩:=ih (dfs rows d e0 q) (λq' hq'=>hl q' (List.mem_cons_of_mem _ hq')) p1
     obtain⟨s,hs⟩:=foldl_ext (dfs_ext rows d) l (dfs rows d e0 q)
     refine⟨p2,λq' hq'=>?_,λa ha=>?_⟩
     ·rcases List.mem_cons.mp hq' with rfl|hq'
      ·rcases m1 with z|z
       ·exact .inl z
       ·rw[List.foldl_cons,hs];exact .inr (List.mem_append_left _ z)
      ·exact m2 q' hq'
     ·rcases n2 a ha with z|z
      ·
       have below:∀(d0:Nat) (e1:List Nat) (y:Nat),y<rows.length+2->∀a∈dfs rows d0 e1 y,a∈e1\/a+2<=y:=λd0=>by
        induction d0 with
        |zero=>exact λe1 y _ a ha=>.inl ha
        |succ d0 ihd=>
         intro e1 y hy a ha
         unfold dfs at ha
         split at ha
         ·exact .inl ha
         ·rename_i hh
          obtain⟨hh1,hh2⟩:=not_or.mp hh
          rcases List.mem_append.mp ha with ha|ha
          ·have hy2:y-2<rows.length:=by lia
           have eg2:rows.getD (y-2) []=rows[y-2]:=by simp[List.getD,hy2]
           rw[eg2] at ha
           have rk2:=ok (y-2) rows[y-2] (by simp[hy2])
           have kk:∀(l2:List Nat) (e2:List Nat),(∀q∈l2,q<y-2+2)->∀a∈l2.foldl (dfs rows d0) e2,a∈e2\/a+2<=y:=λl2=>by
            induction l2 with
            |nil=>exact λe2 _ a ha=>.inl ha
            |cons q2 l2 ih2=>
             intro e2 hl2 a ha
             rcases ih2 _ (λq' hq'=>hl2 q' (List.mem_cons_of_mem _ hq')) a ha with z|z
             ·have hq2:=hl2 q2 List.mem_cons_self
              rcases ihd e2 q2 (by lia) a z with z|z
              ·exact .inl z
              ·exact .inr (by lia)
             ·exact .inr z
           exact kk _ _ rk2.2 a ha
          ·have:a=y-2:=by simpa using ha
           exact .inr (by lia)
       rcases below d e0 q (by lia) a z with z|z
       ·exact .inl z
       ·exact .inr (by lia)
      ·exact .inr z
   obtain⟨k1,k2,k3⟩:=key rows[p] e (λq hq=>⟨rk.2 q hq,by
    have:dp rows q<=mx (rows[p].map (dp rows)):=le_mx (List.mem_map.mpr ⟨q,hq,rfl⟩)
    lia⟩) pe
   refine⟨⟨?_,?_,?_⟩,.inr (List.mem_append_right _ (by simp))⟩
   ·rw[List.nodup_append]
    refine⟨k1.nd,by simp,λa ha b hb=>?_⟩
    have:b=p:=by simpa using hb
    subst this
    intro z
    subst z
    rcases k3 a ha with z|z
    ·exact h2 z
    ·exact Nat.lt_irrefl _ z
   ·intro a ha
    rcases List.mem_append.mp ha with ha|ha
    ·exact k1.lt a ha
    ·have:a=p:=by simpa using ha
     lia
   ·intro i a hi q hq
    by_cases hlen:i<(rows[p].foldl (dfs rows d) e).length
    ·rw[List.getElem?_append_left hlen] at hi
     rcases k1.ch i a hi q hq with z|⟨j,hj,ej⟩
     ·exact .inl z
     ·exact .inr ⟨j,hj,mem_pre ej⟩
    ·rw[List.getElem?_append_right (by lia)] at hi
     have hi0:i-(rows[p].foldl (dfs rows d) e).length=0:=by
      have:=(gS_ hi).1
      simp at this
      lia
     rw[hi0] at hi
     have:a=p:=by simpa using hi.symm
     subst this
     rw[eg] at hq
     rcases k2 q hq with z|z
     ·exact .inl z
     ·obtain⟨j,hj,ej⟩:=List.mem_iff_getElem.mp z
      exact .inr ⟨j,by lia,mem_pre (by simp[hj,ej])⟩
theorem nd_iff {α:Type}{l:List α}:l.Nodup<->∀i j:Nat,i<j->j<l.length->l[i]?≠l[j]?:=by
 unfold List.Nodup
 rw[List.pairwise_iff_getElem]
 constructor
 ·intro h i j hij hj z
  rw[List.getElem?_eq_getElem (by lia),List.getElem?_eq_getElem hj] at z
  exact h i j (by lia) hj hij (Option.some.inj z)
 ·intro h i j hi hj hij z
  refine h i j hij hj ?_
  rw[List.getElem?_eq_getElem hi,List.getElem?_eq_getElem hj,z]
def nm (E:List Nat) (q:Nat):Nat:=if q<2 then q else E.idxOf (q-2)+2
theorem nm_low {E:List Nat}{q:Nat}(h:q<2):nm E q=q:=if_pos h
theorem nm_high {E:List Nat}{q:Nat}(h:¬q<2):nm E q=E.idxOf (q-2)+2:=if_neg h
def InE (E:List Nat) (q:Nat):Prop:=q<2\/q-2∈E
theorem idx_at {E:List Nat}(nd:E.Nodup){i a:Nat}(h:E[i]?=some a):E.idxOf a=i:=by
 obtain⟨hl,he⟩:=gS_ h
 rw[<- he]
 exact nd.idxOf_getElem _ _
theorem at_idx {E:List Nat}{a:Nat}(h:a∈E):E[E.idxOf a]?=some a:=by
 have hl:=List.idxOf_lt_length_of_mem h
 rw[List.getElem?_eq_getElem hl]
 congr 1
 exact List.getElem_idxOf hl
theorem nm_inj {E:List Nat}{q r:Nat}(hq:InE E q) (hr:InE E r) (h:nm E q=nm E r):q=r:=by
 by_cases h1:q<2
 ·rw[nm_low h1] at h
  by_cases h2:r<2
  ·rwa [nm_low h2] at h
  ·rw[nm_high h2] at h;lia
 ·rw[nm_high h1] at h
  by_cases h2:r<2
  ·rw[nm_low h2] at h;lia
  ·rw[nm_high h2] at h
   have a:=at_idx (hq.resolve_left h1)
   have b:=at_idx (hr.resolve_left h2)
   have e:E.idxOf (q-2)=E.idxOf (r-2):=by lia
   rw[e,b] at a
   have:=Option.some.inj a
   lia
def told (rows:List Row) (E:List Nat):List Row:=E.map λp=>(rows.getD p []).map (nm E)
theorem told_len (rows:List Row) (E:List Nat):(told rows E).length=E.length:=by simp[told]
theorem told_at {rows:List Row}{E:List Nat}{i p:Nat}(h:E[i]?=some p):(told rows E)[i]?=some ((rows.getD p []).map (nm E)):=by
 unfold told
 rw[List.getElem?_map,h];rfl
theorem row_in {rows:List Row}{E:List Nat}(pe:Post rows E){i p:Nat}(h:E[i]?=some p){q:Nat}(hq:q∈rows.getD p []):InE E q/\nm E q<i+2:=by
 rcases pe.ch i p h q hq with z|⟨j,hj,ej⟩
 ·exact⟨.inl z,by rw[nm_low z];lia⟩
 ·have hm:q-2∈E:=List.mem_of_getElem? ej
  refine⟨.inr hm,?_⟩
  by_cases z:q<2
  ·rw[nm_low z];lia
  ·rw[nm_high z,idx_at pe.nd ej];lia
theorem getD_at {rows:List Row}{p:Nat}(h:p<rows.length):rows[p]?=some (rows.getD p []):=by
 simp[List.getD,h]
theorem told_ok {rows:List Row}(ok:RowsOk rows){E:List Nat}(pe:Post rows E):RowsOk (told rows E):=by
 intro i r hi
 have hl:i<E.length:=by
  have:=(gS_ hi).1
  rwa [told_len] at this
 have he:E[i]?=some E[i]:=List.getElem?_eq_getElem hl
 rw[told_at he] at hi
 have hr:=Option.some.inj hi
 subst hr
 have hp:=pe.lt _ (List.getElem_mem hl)
 refine⟨?_,λx hx=>?_⟩
 ·rw[List.length_map];exact (ok _ _ (getD_at hp)).1
 ·obtain⟨q,hq,rfl⟩:=List.mem_map.mp hx
  exact (row_in pe he hq).2
theorem told_nodup {rows:List Row}{E:List Nat}(pe:Post rows E) (nd:rows.Nodup):(told rows E).Nodup:=by
 rw[nd_iff]
 intro i j hij hj
 rw[told_len] at hj
 have hi:i<E.length:=by lia
 have ei:E[i]?=some E[i]:=List.getElem?_eq_getElem hi
 have ej:E[j]?=some E[j]:=List.getElem?_eq_getElem hj
 rw[told_at ei,told_at ej]
 intro z
 have z:=Option.some.inj z
 have key:∀l m:List Nat,(∀q∈l,InE E q)->(∀q∈m,InE E q)->l.map (nm E)=m.map (nm E)->l=m:=λl=>by
  induction l with
  |nil=>intro m _ _ h;cases m with
   |nil=>rfl
   |cons b m=>simp at h
  |cons a l ih=>intro m h1 h2 h;cases m with
   |nil=>simp at h
   |cons b m=>
    rw[List.map_cons,List.map_cons] at h
    injection h with h3 h4
    rw[nm_inj (h1 a List.mem_cons_self) (h2 b List.mem_cons_self) h3,ih m (λq hq=>h1 q (List.mem_cons_of_mem _ hq)) (λq hq=>h2 q (List.mem_cons_of_mem _ hq)) h4]
 have e:=key _ _ (λq hq=>(row_in pe ei hq).1) (λq hq=>(row_in pe ej hq).1) z
 have pi:=pe.lt _ (List.getElem_mem hi)
 have pj:=pe.lt _ (List.getElem_mem hj)
 have gi:=getD_at pi
 have gj:=getD_at pj
 rw[e,<- gj] at gi
 have:E[i]=E[j]:=by
  by_cases hne:E[i]=E[j]
  ·exact hne
  ·exfalso
   rcases Nat.lt_or_gt_of_ne hne with w|w
   ·exact (nd_iff.mp nd) _ _ w pj gi
   ·exact (nd_iff.mp nd) _ _ w pi gi.symm
 have:=(nd_iff.mp pe.nd) i j hij hj
 rw[ei,ej] at this
 exact this (by rw[‹E[i]=E[j]›])
def Plain (r:Row):Prop:=r=[0,0,0,0]\/r=[1,1,1,1]
instance (r:Row):Decidable (Plain r):=by unfold Plain;infer_instance
theorem map_rep {f:Nat->Nat}{c:Nat}(h:∀q,f q=c->q=c):∀{l:List Nat}{k:Nat},l.map f=List.replicate k c->l=List.replicate k c
 |[],0,_=>rfl
 |[],k+1,z=>by simp[List.replicate] at z
 |a::l,0,z=>by simp at z
 |a::l,k+1,z=>by
  rw[List.map_cons,List.replicate_succ] at z
  injection z with z1 z2
  rw[h a z1,map_rep h z2,List.replicate_succ]
theorem nm_plain {E:List Nat}{c:Nat}(hc:c<2) (q:Nat) (h:nm E q=c):q=c:=by
 by_cases z:q<2
 ·rwa [nm_low z] at h
 ·rw[nm_high z] at h;lia
theorem told_unplain {rows:List Row}{E:List Nat}(pe:Post rows E) (np:∀r∈rows,¬Plain r):∀r∈told rows E,¬Plain r:=by
 intro r hr
 obtain⟨p,hp,rfl⟩:=List.mem_map.mp hr
 have hm:rows.getD p []∈rows:=List.mem_of_getElem? (getD_at (pe.lt p hp))
 intro z
 rcases z with z|z
 ·exact np _ hm (.inl (map_rep (k:=4) (nm_plain (by decide)) z))
 ·exact np _ hm (.inr (map_rep (k:=4) (nm_plain (by decide)) z))
theorem told_dp {rows:List Row}(ok:RowsOk rows){E:List Nat}(pe:Post rows E):∀q,InE E q->dp (told rows E) (nm E q)=dp rows q:=by
 intro q
 induction q using Nat.strongRecOn with
 |ind q ih=>
  intro hq
  by_cases z:q<2
  ·rw[nm_low z,dp_low z,dp_low z]
  ·have hm:=hq.resolve_left z
   have hp:=pe.lt _ hm
   have ea:=at_idx hm
   rw[nm_high z,dp_at (told_ok ok pe) (told_at ea)]
   have e2:dp rows q=1+mx ((rows.getD (q-2) []).map (dp rows)):=by
    have:=dp_at ok (getD_at hp)
    rwa [show q-2+2=q by lia] at this
   rw[e2,List.map_map]
   congr 1
   refine mx_congr λx hx=>?_
   have hx2:=(ok _ _ (getD_at hp)).2 x hx
   exact ih x (by lia) (row_in pe ea hx).1
theorem told_dfs {rows:List Row}(ok:RowsOk rows){E:List Nat}(pe:Post rows E):∀(d:Nat) (e:List Nat) (y:Nat),dfs rows d e y <+: E->dfs (told rows E) d (List.range e.length) (nm E y)=List.range (dfs rows d e y).length
 |0,e,y,_=>rfl
 |d+1,e,y,pf=>by
  have pe1:e <+: E:=by
   obtain⟨s,hs⟩:=dfs_ext rows (d+1) e y
   rw[hs] at pf
   exact List.IsPrefix.trans (List.prefix_append _ _) pf
  have memi:∀{a:Nat},a∈E->(a∈e<->E.idxOf a<e.length):=λ{a} ha=>by
   obtain⟨s,hs⟩:=pe1
   constructor
   ·intro hm
    rw[<- hs,List.idxOf_append,if_pos hm]
    exact List.idxOf_lt_length_of_mem hm
   ·intro hl
    have:=at_idx ha
    rw[<- hs,List.getElem?_append_left (by rw[hs];exact hl)] at this
    exact List.mem_of_getElem? this
  unfold dfs at pf ⊢
  by_cases h:y<2\/y-2∈e
  ·rw[if_pos h,if_pos]
   rcases h with h|h
   ·exact .inl (by rw[nm_low h];exact h)
   ·by_cases z:y<2
    ·exact .inl (by rw[nm_low z];exact z)
    ·right
     rw[nm_high z,Nat.add_sub_cancel,List.mem_range]
     exact (memi (pe1.subset h)).mp h
  ·rw[if_neg h] at pf ⊢
   obtain⟨h1,h2⟩:=not_or.mp h
   have hE:y-2∈E:=pf.subset (by simp)
   rw[nm_high h1,Nat.add_sub_cancel]
   have hnot:¬(E.idxOf (y-2)+2<2\/E.idxOf (y-2)∈List.range e.length):=by
    rw[List.mem_range]
    rintro (z|z)
    ·lia
    ·exact h2 ((memi hE).mpr z)
   rw[if_neg hnot]
   have et:(told rows E).getD (E.idxOf (y-2)) []=(rows.getD (y-2) []).map (nm E):=by
    have:=told_at (rows:=rows) (at_idx hE)
    rw[List.getD_eq_getElem?_getD,this];rfl
   rw[et]
   have key:∀(l:List Nat) (e0:List Nat),l.foldl (dfs rows d) e0 <+: E->(l.map (nm E)).foldl (dfs (told rows E) d) (List.range e0.length)=List.range (l.foldl (dfs rows d) e0).length:=λl=>by
    induction l with
    |nil=>exact λe0 _=>rfl
    |cons q l ih=>
     intro e0 pf0
     rw[List.map_cons,List.foldl_cons,List.foldl_cons]
     have:dfs rows d e0 q <+: E:=by
      obtain⟨s,hs⟩:=foldl_ext (dfs_ext rows d) l (dfs rows d e0 q)
      rw[List.foldl_cons,hs] at pf0
      exact List.IsPrefix.trans (List.prefix_append _ _) pf0
     rw[told_dfs ok pe d e0 q this]
     exact ih _ pf0
   have pf2:(rows.getD (y-2) []).foldl (dfs rows d) e <+: E:=List.IsPrefix.trans (List.prefix_append _ _) pf
   rw[key _ e pf2,List.length_append]
   have:E.idxOf (y-2)=((rows.getD (y-2) []).foldl (dfs rows d) e).length:=by
    refine idx_at pe.nd ?_
    obtain⟨s,hs⟩:=pf
    rw[<- hs,List.append_assoc,List.getElem?_append_right (Nat.le_refl _),Nat.sub_self]
    rfl
   rw[this]
   exact List.range_succ.symm
structure Canon (n top:Nat) (rows:List Row):Prop where
 size:n<=12
 rok:RowsOk rows
 inn:top<rows.length+2
 deep:dp rows top<=n
 unplain:∀r∈rows,¬Plain r
 unlike:rows.Nodup
 ends:dfs rows n [] top=List.range rows.length
theorem told_canon {n x:Nat}{rows:List Row}(hn:n<=12) (ok:RowsOk rows) (hx:x<rows.length+2) (hd:dp rows x<=n) (np:∀r∈rows,¬Plain r) (nd:rows.Nodup) :
  Canon n (nm (dfs rows n [] x) x) (told rows (dfs rows n [] x)):=by
 obtain⟨pe,hm⟩:=dfs_post ok n [] x (post_nil rows) hx hd
 refine⟨hn,told_ok ok pe,?_,?_,told_unplain pe np,told_nodup pe nd,?_⟩
 ·rw[told_len]
  by_cases z:x<2
  ·rw[nm_low z];lia
  ·rw[nm_high z]
   have:=List.idxOf_lt_length_of_mem (hm.resolve_left z)
   lia
 ·rw[told_dp ok pe x hm];exact hd
 ·rw[told_len]
  exact told_dfs ok pe n [] x (List.prefix_refl _)
def ex (q:Nat):Nat:=if q<2 then 1-q else q
theorem ex_ex (q:Nat):ex (ex q)=q:=by
 by_cases h:q<2
 ·have:ex q=1-q:=if_pos h
  rw[this];unfold ex;rw[if_pos (by lia)];lia
 ·have:ex q=q:=if_neg h
  rw[this,this]
theorem ex_lt {q b:Nat}(h:q<b+2):ex q<b+2:=by unfold ex;split<;>lia
def exr (rows:List Row):List Row:=rows.map (·.map ex)
theorem exr_ok {rows:List Row}(ok:RowsOk rows):RowsOk (exr rows):=by
 intro p r hp
 unfold exr at hp
 rw[List.getElem?_map] at hp
 obtain⟨r0,h0,rfl⟩:=Option.map_eq_some_iff.mp hp
 refine⟨by rw[List.length_map];exact (ok p r0 h0).1,λx hx=>?_⟩
 obtain⟨q,hq,rfl⟩:=List.mem_map.mp hx
 exact ex_lt ((ok p r0 h0).2 q hq)
def mgK (K:List Row) (look:Row):List Row:=if look∈K then K else K++[look]
def mgStep (s:List Nat×List Row) (r:Row):List Nat×List Row:=(s.1++[s.2.idxOf (r.map (s.1.getD · 0))],mgK s.2 (r.map (s.1.getD · 0)))
def mg (rows:List Row):List Nat×List Row:=rows.foldl mgStep ([0,1],[[0,0,0,0],[1,1,1,1]])
structure MgOk (rows:List Row) (s:List Nat×List Row):Prop where
 len:s.1.length=rows.length+2
 two:2<=s.2.length
 fst:s.2.take 2=[[0,0,0,0],[1,1,1,1]]
 nd:s.2.Nodup
 lt:∀x∈s.1,x<s.2.length
 ok:RowsOk (s.2.drop 2)
 dp:∀x,dp (s.2.drop 2) (s.1.getD x 0)<=dp rows x
theorem mg_snoc (rows:List Row) (r:Row):mg (rows++[r])=mgStep (mg rows) r:=by
 unfold mg
 rw[List.foldl_append]
 rfl
theorem getD_lt {l:List Nat}{b:Nat}(hb:0<b) (h:∀x∈l,x<b) (i:Nat):l.getD i 0<b:=by
 rw[List.getD_eq_getElem?_getD]
 cases e:l[i]? with
 |none=>exact hb
 |some a=>exact h a (List.mem_of_getElem? e)
theorem mg_ok {rows:List Row}(h:RowsOk rows):MgOk rows (mg rows):=by
 revert h
 induction rows using snoc_ind with
 |h0=>
  intro _
  refine⟨rfl,by decide,rfl,by decide,by decide,λp r hp=>?_,λx=>?_⟩
  ·exact absurd hp (by simp[mg])
  ·show dp [] _<=dp [] x
   match x with
   |0=>exact Nat.le_refl _
   |1=>exact Nat.le_refl _
   |x+2=>
    show dp [] (([0,1]:List Nat).getD (x+2) 0)<=_
    have:([0,1]:List Nat).getD (x+2) 0=0:=rfl
    rw[this];exact Nat.zero_le _
 |h1 l r ih=>
  intro h
  have hr:RowOk l.length r:=h l.length r (by simp)
  have hl:RowsOk l:=λp r0 hp=>h p r0 (by
   have:=(gS_ hp).1
   rw[List.getElem?_append_left this];exact hp)
  have m:=ih hl
  rw[mg_snoc]
  generalize mg l=s at m
  obtain⟨H,K⟩:=s
  obtain⟨mlen,mtwo,mfst,mnd,mlt,mok,mdp⟩:=m
  simp only at mlen mtwo mfst mnd mlt mok mdp
  unfold mgStep
  simp only
  generalize hk:r.map (H.getD · 0)=look
  have lk4:look.length=4:=by rw[<- hk,List.length_map];exact hr.1
  have lklt:∀x∈look,x<K.length:=λx hx=>by
   rw[<- hk] at hx
   obtain⟨q,_,rfl⟩:=List.mem_map.mp hx
   exact getD_lt (by lia) mlt q
  obtain⟨s,hs⟩:∃s,mgK K look=K++s:=by
   unfold mgK;split
   ·exact⟨[],by simp⟩
   ·exact⟨[look],rfl⟩
  have ok':RowsOk ((mgK K look).drop 2):=by
   unfold mgK;split
   ·exact mok
   ·rw[List.drop_append_of_le_length mtwo]
    intro p r0 hp
    by_cases hpl:p<(K.drop 2).length
    ·rw[List.getElem?_append_left hpl] at hp
     exact mok p r0 hp
    ·rw[List.getElem?_append_right (by lia)] at hp
     have:p-(K.drop 2).length=0:=by
      have:=(gS_ hp).1
      simp at this ⊢
      lia
     rw[this] at hp
     have:r0=look:=by simpa using hp.symm
     subst this
     refine⟨lk4,λx hx=>?_⟩
     have:=lklt x hx
     rw[List.length_drop] at hpl
     lia
  have dpK:∀x,x<K.length->dp ((mgK K look).drop 2) x=dp (K.drop 2) x:=λx hx=>by
   rw[hs,List.drop_append_of_le_length mtwo]
   exact dp_append_lt (by rw[List.length_drop];lia)
  have hidx:K.idxOf look<(mgK K look).length:=by
   unfold mgK;split
   ·rename_i hm;exact List.idxOf_lt_length_of_mem hm
   ·rename_i hm
    rw[List.idxOf_eq_length hm,List.length_append];simp
  have hat:(mgK K look)[K.idxOf look]?=some look:=by
   unfold mgK;split
   ·rename_i hm
    have hlt:=List.idxOf_lt_length_of_mem hm
    rw[List.getElem?_eq_getElem hlt]
    congr 1
    exact List.getElem_idxOf hlt
   ·rename_i hm
    rw[List.idxOf_eq_length hm];simp
  refine⟨?_,?_,?_,?_,?_,ok',?_⟩
  ·simp[mlen]
  ·rw[hs,List.length_append];lia
  ·rw[hs,List.take_append_of_le_length mtwo];exact mfst
  ·unfold mgK;split
   ·exact mnd
   ·rename_i hm
    rw[List.nodup_append]
    exact⟨mnd,by simp,λa ha b hb=>by
     have:b=look:=by simpa using hb
     subst this
     intro z
     exact hm (z▸ha)⟩
  ·intro x hx
   rcases List.mem_append.mp hx with hx|hx
   ·have:=mlt x hx
    rw[hs,List.length_append];lia
   ·have:x=K.idxOf look:=by simpa using hx
    rw[this];exact hidx
  ·intro x
   by_cases hx:x<l.length+2
   ·have e:(H++[K.idxOf look]).getD x 0=H.getD x 0:=by
     rw[List.getD_eq_getElem?_getD,List.getD_eq_getElem?_getD,List.getElem?_append_left (by lia)]
    rw[e,dp_snoc_lt hx,dpK _ (getD_lt (by lia) mlt x)]
    exact mdp x
   ·by_cases hx2:x=l.length+2
    ·subst hx2
     have e:(H++[K.idxOf look]).getD (l.length+2) 0=K.idxOf look:=by
      rw[List.getD_eq_getElem?_getD,List.getElem?_append_right (by lia),mlen];simp
     rw[e,dp_snoc_at]
     by_cases z:K.idxOf look<2
     ·rw[dp_low z];exact Nat.zero_le _
     ·have hat2:((mgK K look).drop 2)[K.idxOf look-2]?=some look:=by
       rw[List.getElem?_drop,show 2+(K.idxOf look-2)=K.idxOf look by lia];exact hat
      have:=dp_at ok' hat2
      rw[show K.idxOf look-2+2=K.idxOf look by lia] at this
      rw[this,<- hk,List.map_map]
      refine Nat.add_le_add_left ?_ _
      refine mx_mono λq _=>?_
      show dp ((mgK K (r.map (H.getD · 0))).drop 2) (H.getD q 0)<=dp l q
      rw[hk,dpK _ (getD_lt (by lia) mlt q)]
      exact mdp q
    ·have e:(H++[K.idxOf look]).getD x 0=0:=by
      rw[List.getD_eq_getElem?_getD,List.getElem?_eq_none (by simp;lia)];rfl
     rw[e,dp_low (by decide)]
     exact Nat.zero_le _
def mgTop (rows:List Row) (top:Nat):Nat:=(mg rows).1.getD top 0
def mgRows (rows:List Row):List Row:=(mg rows).2.drop 2
theorem mg_canon {n top:Nat}{rows:List Row}(hn:n<=12) (ok:RowsOk rows) (ht:top<rows.length+2) (hd:dp rows top<=n) :
  Canon n (nm (dfs (mgRows rows) n [] (mgTop rows top)) (mgTop rows top)) (told (mgRows rows) (dfs (mgRows rows) n [] (mgTop rows top))):=by
 have m:=mg_ok ok
 have hl:=m.two
 refine told_canon hn m.ok ?_ (Nat.le_trans (m.dp top) hd) ?_ ?_
 ·have:=getD_lt (by lia) m.lt top
  unfold mgTop mgRows
  rw[List.length_drop]
  lia
 ·intro r hr z
  have nd:=m.nd
  rw[<- List.take_append_drop 2 (mg rows).2,m.fst,List.nodup_append] at nd
  have:=nd.2.2
  rcases z with z|z
  ·exact this [0,0,0,0] (by simp) r hr z.symm
  ·exact this [1,1,1,1] (by simp) r hr z.symm
 ·exact List.Nodup.sublist (List.drop_sublist _ _) m.nd
end Qf
namespace L2
open PySem PySem.Spec PyProof.Rows PySem.W
section
variable {X:Cx}
def tDict0:TE:=λ_ H Q=>∀p,H p=none->Q (.ref p) (upd H p (.dK []))
theorem pe_dict0 {pos:Pos}:PE X (.Dict [] [] pos) tDict0:=λpins s σ H Q I h=>by
 have hb:sysModules<s.heap.objs.size:=Nat.lt_trans (by decide) (I.mod.glob.keeps I.bk).lt
 exact wpAny_Dict_empty ⟨.ref s.heap.objs.size,_,I.laid (a:=s.heap.objs.size) (o:=.dK []) (t':=s.toks) (λ_ _ q=>Heap.get?_push_of_some _ q) (Nat.le_refl _) ⟨Nat.zero_le _,beq_eq_false_iff_ne.mpr (Ne.symm (Nat.ne_of_lt hb)),[],.nil,Heap.DictOf.new _⟩,rfl,h _ (I.hok.fresh (Nat.le_refl _))⟩
theorem pe_compB {x:Str}{px pos:Pos}{elt iter:Expr}{scope:Scope}{wi:TI}{te:TE}(N:List Str) (sc:Scope) (hNe:X.N=N) (hsc:X.env.scope=sc) (hc:X.calm=true) (hN:X.N.Nodup) (hi:PI X (.Name x px) iter wi) (he:∀cl C fp s₀ H₀,PE (compCx X scope cl C x fp s₀ H₀) elt te)
  (hkind:scope.kind=.function:=by rfl) (hcell:scope.names.all (λy=>y.2 != .cell)=true:=by decide +kernel) (hnames:scope.names.all (λy=>y.2 != .local||scope.names.lookup y.1==some .local)=true:=by decide +kernel)
  (hx:scope.names.lookup x=some .local:=by rfl) (hloc:N.all (λy=>scope.names.lookup y != some .local)=true:=by decide +kernel)
  (hfr:scope.names.all (λp=>p.2 != .free||(sc.names.lookup p.1==some .cell||sc.names.lookup p.1==some .free))=true:=by decide +kernel)
  (hs:∀x,foldedSetIterable iter X.env x=pure x:=by intro _;rfl):PE X (.ListComp elt [⟨.Name x px,iter,[],0⟩] scope pos) (tComp wi te):=by
 refine pe_comp hc hN hi he hkind (λy hy=>?_) (λy hy hl=>?_) hx (λy hy=>?_) (λp hp hk=>?_) hs
 ·have:=List.all_eq_true.mp hcell y hy
  simpa using this
 ·have:=List.all_eq_true.mp hnames y hy
  simpa [hl] using this
 ·have:=List.all_eq_true.mp hloc y (by rw[<- hNe];exact hy)
  simpa using this
 ·have:=List.all_eq_true.mp hfr p hp
  rw[hk] at this
  have z:sc.names.lookup p.1=some .cell\/sc.names.lookup p.1=some .free:=by simpa using this
  rw[hsc]
  refine⟨.inr z,λq=>?_⟩
  rcases z with z|z<;>(rw[z] at q;cases q)
end
end L2
namespace L2
open PySem
theorem keepU {H:Hp}{a b:Addr}{o u:HO}(e:H a=some o) (hn:H b=none):upd H b u a=some o:=by rw[upd_ne (qa2 e hn)];exact e
theorem sameU {H:Hp}{a:Addr}{o:HO}(h:H a=none):Same H (upd H a o):=λb u e=>keepU e h
def Tups (H H':Hp):Prop:=∀b u,H b=some (.tup u)->H' b=some (.tup u)
theorem Same.tups {H H':Hp}(s:Same H H'):Tups H H':=λb u e=>s b _ e
theorem Tups.trans {H H1 H2:Hp}(a:Tups H H1) (b:Tups H1 H2):Tups H H2:=λc u e=>b c u (a c u e)
structure Goes (J:It) (H:Hp) (n:Nat) (item:Nat->V->Hp->Prop):Prop where
 go:∀i H2,i<n->Same H H2->J.go i H2
 yl:∀i H2 y H3,i<n->Same H H2->J.yld i H2 y H3->Same H2 H3/\item i y H3
 st:∀H2,Same H H2->J.stop n H2
theorem goes_tup {K:PySem.W.Frag}{H:Hp}{a:Addr}{xs:List V}(ha:H a=some (.tup xs)):Goes (Itt K a) H xs.length (λi y _=>xs[i]?=some y) where
 go:=λi H2 hi s=>⟨xs,xs[i],SqT.of (s _ _ ha),by simp[hi]⟩
 yl:=λi H2 y H3 hi s h=>by
  obtain⟨e,h⟩:=h
  subst e
  exact⟨Same.refl _,h xs (SqT.of (s _ _ ha))⟩
 st:=λH2 s=>⟨xs,SqT.of (s _ _ ha),Nat.le_refl _⟩
theorem goes_rng {H:Hp}{n:Nat}:Goes (Itr 0 n) H n (λi y _=>y=.int (i:Int)) where
 go:=λi H2 hi s=>hi
 yl:=λi H2 y H3 hi s h=>by
  obtain⟨e,h⟩:=h
  subst e
  exact⟨Same.refl _,by rw[h,Int.zero_add]⟩
 st:=λH2 s=>Nat.le_refl n
theorem goes_enum {K:PySem.W.Frag}{H:Hp}{a:Addr}{xs:List V}(ha:H a=some (.tup xs)):Goes (Ite K a) H xs.length (λi y H3=>∃p x,y=.ref p/\xs[i]?=some x/\H3 p=some (.tup [.int i,x])) where
 go:=λi H2 hi s=>⟨xs,xs[i],SqT.of (s _ _ ha),by simp[hi]⟩
 yl:=λi H2 y H3 hi s h=>by
  obtain⟨p,x,hp,hx,rfl,rfl⟩:=h
  exact⟨sameU hp,p,x,rfl,hx xs (SqT.of (s _ _ ha)),qa1⟩
 st:=λH2 s=>⟨xs,SqT.of (s _ _ ha),Nat.le_refl _⟩
theorem comp_walk {J:It}{H:Hp}{n:Nat}{item:Nat->V->Hp->Prop}{te:TE}{σ:St}{Fin:Hp->Prop}{D:Addr}(hD:H D=none) (Rel:Nat->V->Hp->Prop) (G:Goes J H n item) (hsz:n<sizeLine)
  (mono:∀i y H1 H2,i<n->Tups H1 H2->Rel i y H1->Rel i y H2)
  (step:∀i x H2,i<n->item i x H2->Same H H2->∀Q':VK,(∀y H3,Same H2 H3->Rel i y H3->Q' y H3)->te (some x::σ) H2 Q')
  (fin:∀ys H2,Same H H2->H2 D=some (.lst ys)->ys.length=n->(∀i y,ys[i]?=some y->Rel i y H2)->Fin H2) :
  ∃W:Nat->Nat->List V->Hp->Prop,(∃m,W 0 m [] (upd H D (.lst []))) /\
   ∀i m xs H2,W i m xs H2->H2 D=some (.lst xs)/\xs.length<sizeLine/\((J.stop i H2/\Fin H2)\/(J.go i H2/\∀y H3,J.yld i H2 y H3 ->
    te (some y::σ) H3 λv H4=>H4 D=some (.lst xs)/\∃m',m'<m/\W (i+1) m' (xs++[v]) (upd H4 D (.lst (xs++[v]))))):=by
 refine⟨λi m ys H2=>i<=n/\m=n-i/\ys.length=i/\H2 D=some (.lst ys)/\Same H H2/\∀j y,ys[j]?=some y->Rel j y H2,⟨n,Nat.zero_le _,rfl,rfl,qa1,sameU hD,λj y h=>by simp at h⟩,?_⟩
 rintro i m ys H2 ⟨hi,rfl,hl,hd,s2,rel⟩
 refine⟨hd,by lia,?_⟩
 by_cases he:i=n
 ·subst he
  exact .inl ⟨G.st H2 s2,fin ys H2 s2 hd hl rel⟩
 ·refine .inr ⟨G.go i H2 (by lia) s2,λy H3 hy=>?_⟩
  obtain⟨s3,it⟩:=G.yl i H2 y H3 (by lia) s2 hy
  refine step i y H3 (by lia) it (s2.trans s3) _ λv H4 s4 r4=>?_
  have hd4:=s4 _ _ (s3 _ _ hd)
  refine⟨hd4,n-(i+1),by lia,by lia,rfl,by rw[List.length_append,hl];rfl,qa1,?_,?_⟩
  ·intro b o e
   rw[upd_ne (qa2 e hD)]
   exact s4 _ _ (s3 _ _ (s2 _ _ e))
  ·have tk:Tups H4 (upd H4 D (.lst (ys++[v]))):=λb u e=>by
    have:b≠D:=λz=>by subst z;rw[hd4] at e;cases e
    rw[upd_ne this];exact e
   intro j z hz
   by_cases hj:j<i
   ·rw[List.getElem?_append_left (by lia)] at hz
    exact mono j z H4 _ (by lia) tk (mono j z H2 H4 (by lia) (s3.trans s4).tups (rel j z hz))
   ·rw[List.getElem?_append_right (by lia)] at hz
    have:j-ys.length=0:=by
     have:=(gS_ hz).1
     simp at this
     lia
    rw[this] at hz
    have:z=v:=by simpa using hz.symm
    subst this
    have:j=i:=by lia
    subst this
    exact mono _ _ H4 _ (by lia) tk r4
theorem compG_walk {J:It}{H:Hp}{n k:Nat}{item:Nat->V->Hp->Prop}{g:TG}{tt:TT}{te:TE}{σ:St}{Fin:Hp->Prop}{D:Addr}(hD:H D=none) (yes:Nat->Bool) (val:Nat->V) (G:Goes J H n item) (hsz:n<sizeLine)
  (step:∀i x H2,i<n->item i x H2->Same H H2->∀os:St,os.length=k->∀(Q1:Hp->Prop) (Q2:VK),(yes i=false->∀H3,Same H2 H3->Q1 H3)->(yes i=true->∀H3,Same H2 H3->Q2 (val i) H3) ->
   g x (os++σ) H2 λσ4 H4=>tt σ4 H4 λb H5=>if b=true then te σ4 H5 Q2 else Q1 H5)
  (fin:∀H2,Same H H2->H2 D=some (.lst (((List.range n).filter yes).map val))->Fin H2) :
  ∃W:Nat->Nat->List V->Hp->Prop,(∃m,W 0 m [] (upd H D (.lst []))) /\
   ∀i m xs H2,W i m xs H2->H2 D=some (.lst xs)/\xs.length<sizeLine/\((J.stop i H2/\Fin H2)\/(J.go i H2/\∀y H3,J.yld i H2 y H3->∀os:St,os.length=k ->
    g y (os++σ) H3 λσ4 H4=>tt σ4 H4 λb H5=>if b=true then te σ4 H5 λv H6=>H6 D=some (.lst xs)/\∃m',m'<m/\W (i+1) m' (xs++[v]) (upd H6 D (.lst (xs++[v]))) else ∃m',m'<m/\W (i+1) m' xs H5)):=by
 refine⟨λi m ys H2=>i<=n/\m=n-i/\ys=((List.range i).filter yes).map val/\H2 D=some (.lst ys)/\Same H H2,⟨n,Nat.zero_le _,rfl,rfl,qa1,sameU hD⟩,?_⟩
 rintro i m ys H2 ⟨hi,rfl,hl,hd,s2⟩
 have hlen:ys.length<=i:=by
  rw[hl,List.length_map]
  exact Nat.le_trans (List.length_filter_le _ _) (by simp)
 refine⟨hd,by lia,?_⟩
 by_cases he:i=n
 ·subst he
  exact .inl ⟨G.st H2 s2,fin H2 s2 (hl▸hd)⟩
 ·refine .inr ⟨G.go i H2 (by lia) s2,λy H3 hy os ho=>?_⟩
  obtain⟨s3,it⟩:=G.yl i H2 y H3 (by lia) s2 hy
  refine step i y H3 (by lia) it (s2.trans s3) os ho _ _ (λhno H4 s4=>?_) (λhyes H4 s4=>?_)
  ·refine⟨n-(i+1),by lia,by lia,rfl,?_,s4 _ _ (s3 _ _ hd),(s2.trans s3).trans s4⟩
   rw[hl,List.range_succ,List.filter_append]
   simp[hno]
  ·have hd4:=s4 _ _ (s3 _ _ hd)
   refine⟨hd4,n-(i+1),by lia,by lia,rfl,?_,qa1,λb o e=>?_⟩
   ·rw[hl,List.range_succ,List.filter_append]
    simp[hyes]
   ·rw[upd_ne (qa2 e hD)]
    exact s4 _ _ (s3 _ _ (s2 _ _ e))
theorem ixL {X:Cx}(K:PySem.W.Frag) (h:X.K=K):IxR X (rIxL K):=h▸ix_list
theorem ixT {X:Cx}(K:PySem.W.Frag) (h:X.K=K):IxR X (rIxT K):=h▸ix_tup
theorem tupO {X:Cx}(K:PySem.W.Frag) (h:X.K=K):CallR X (.type "tuple") (λxs H Q=>∃p ys,xs=[.ref p]/\((SqL K H p ys/\∀l,H l=none->Q (.ref l) (upd H l (.tup ys)))\/(SqT K H p ys/\Q (.ref p) H))):=h▸call_tuple_of
theorem piT {X:Cx}{tg l:Expr}{tl:TE}(K:PySem.W.Frag) (h:X.K=K) (hl:PE X l tl):PI X tg l (iTup K tl):=h▸pi_tup hl
theorem piL {X:Cx}{tg l:Expr}{tl:TE}(K:PySem.W.Frag) (h:X.K=K) (hl:PE X l tl):PI X tg l (iList K tl):=h▸pi_list hl
end L2
namespace ZipT
open PySem PySem.Spec
section
variable {prog:Program}{w:World}{A:Around}{E:Value->Shared->Prop}{s:Shared}{p q:Addr}{xs ys:Array Value}
theorem call_new {Q:Value->Shared->Prop}(hp:s.heap.IsTuple p xs) (hq:s.heap.IsTuple q ys)
  (k:∀h',At h' (s.heap.objs.size+4) (s.heap.objs.size+2) (s.heap.objs.size+3) s.heap.objs.size (s.heap.objs.size+1) p q 0 .none->(∀c u,s.heap.get? c=some u->h'.get? c=some u)->Q (.ref (s.heap.objs.size+4)) { s with heap:=h' }) :
  wpAny (model prog w) A (call (.type "zip") [.ref p,.ref q]) Q E s:=by
 refine callType_new F.called_zip (by decide) (F.typeCall_zip_2 _ _) (F.newCall_zip_2 _ _) (λobj=>F.args_object_init_3 obj _ _) F.entry_zip_new (made p q xs ys) ⟨hp,hq,?_⟩
 have n1:(k1 s.heap p).objs.size=s.heap.objs.size+1:=Heap.size_push ..
 have n2:(k2 s.heap p q).objs.size=s.heap.objs.size+2:=by rw[Heap.size_push,n1]
 have n3:(k3 s.heap p q).objs.size=s.heap.objs.size+3:=by rw[Heap.size_push,n2]
 have n4:(k4 s.heap p q).objs.size=s.heap.objs.size+4:=by rw[Heap.size_push,n3]
 have e5:(k5 s.heap p q).get? (k4 s.heap p q).objs.size=some _:=Heap.get?_push_size _ rfl
 have e4:(k5 s.heap p q).get? (k3 s.heap p q).objs.size=some _:=Heap.get?_push_of_some _ (Heap.get?_push_size _ rfl)
 have e3:(k5 s.heap p q).get? (k2 s.heap p q).objs.size=some _:=Heap.get?_push_of_some _ (Heap.get?_push_of_some _ (Heap.get?_push_size _ rfl))
 have e2:(k5 s.heap p q).get? (k1 s.heap p).objs.size=some _:=Heap.get?_push_of_some _ (Heap.get?_push_of_some _ (Heap.get?_push_of_some _ (Heap.get?_push_size _ rfl)))
 have e1:(k5 s.heap p q).get? s.heap.objs.size=some _:=Heap.get?_push_of_some _ (Heap.get?_push_of_some _ (Heap.get?_push_of_some _ (Heap.get?_push_of_some _ (Heap.get?_push_size _ rfl))))
 show _/\_
 rw[n2,n3,n4] at e5;rw[n1,n2] at e3;rw[n3] at e4;rw[n1] at e2;rw[n4]
 exact⟨⟨_,e5,rfl⟩,k _ ⟨e5,e3,⟨_,_,e4⟩,⟨_,e1,rfl,rfl⟩,⟨_,e2,rfl,rfl⟩⟩ λc u x=>Heap.get?_push_of_some _ (Heap.get?_push_of_some _ (Heap.get?_push_of_some _ (Heap.get?_push_of_some _ (Heap.get?_push_of_some _ x))))⟩
end
end ZipT
namespace L2
open PySem PySem.Spec PyProof.Rows
def Itz (K:PySem.W.Frag) (a b:Addr):It:=
 ⟨λi H=>∃xs ys x y,SqT K H a xs/\SqT K H b ys/\xs[i]?=some x/\ys[i]?=some y,λi H v H'=>∃p x y,H p=none/\(∀xs,SqT K H a xs->xs[i]?=some x)/\(∀ys,SqT K H b ys->ys[i]?=some y)/\H'=upd H p (.tup [x,y])/\v=.ref p,λi H=>∃xs,SqT K H a xs/\xs.length<=i⟩
theorem laid_pair {X:Cx}{pins:List (Addr×Obj)}{σ:St}{H:Hp}{s:Shared}{x y:V}{u v:Value}(I:Inv X pins σ H s) (rx:RelV x u) (ry:RelV y v) :
  Inv X pins σ (upd H s.heap.objs.size (.tup [x,y])) { s with heap:=s.heap.push { cls:=.type "tuple",data:=.seq #[u,v] } }:=
 I.laid (t':=s.toks) (λb o q=>Heap.get?_push_of_some _ q) (Nat.le_refl _) ⟨by show 2<=sizeLine;decide,[u,v],.cons rx (.cons ry .nil),_,Heap.get?_push_size _ rfl,rfl,⟨_,rfl⟩,rfl⟩
theorem turnedS {X:Cx}{pins:List (Addr×Obj)}{σ:St}{H:Hp}{s:Shared}{h':Heap}{t':Nat}{fp:List Addr}(I:Inv X pins σ H s) (k:∀c u,c∉fp->s.heap.get? c=some u->h'.get? c=some u) (hf:∀b∈fp,FpOk X pins H b):Inv X pins σ H { s with heap:=h',toks:=t' }:=by
 have nit:∀b u,H b=some u->b∉fp:=λb u e z=>by rw[(hf b z).1] at e;cases e
 have hL:X.env.locals∉fp:=λz=>(hf _ z).2.1 rfl
 refine I.step (g':=s.gens) (d':=s.drawn) (ch:=fp) (λb hb=>⟨(hf b hb).2.2.2.1,(hf b hb).2.1,(hf b hb).2.2.2.2.1,(hf b hb).2.2.2.2.2⟩) (λb o _ _ hc e _=>k b o hc e) (λb o _ _ hc e _=>⟨o.slots,k b o hc e⟩) (λ_ _ _ _ n=>n)
  (λb o hc e=>⟨o,k b o hc e⟩) (λ_ _ e=>e) (λ_ _ _ e=>e) (λb ps e=>⟨#[],by rw[e];simp⟩) (λm hm=>?_) (λb u e=>?_) I.bare
 ·obtain⟨o,es,ep,ho,r⟩:=hm
  exact⟨o,es,ep,k _ o hL ho,r⟩
 ·refine (I.hok b u e).stay (λc v hc q=>k c v ?_ q) (λ_ q=>q) λ_ _ q=>q
  rcases hc with z|z
  ·rw[z];exact nit b u e
  ·exact nit c _ z
theorem turn_zipT {P:Program}{w:World}{K:PySem.W.Frag}{elts:List Expr}{x1:Nat}{tpos:Pos}(p q z I O a b:Addr) (D:ZipT.Ap z I O a b) (nps:∀c,c=z\/c=O\/c=a\/c=b->c≠p/\c≠q) :
  Turn P w K (.Tuple elts x1 tpos) (Itz K p q) [z,I,O,a,b] z (λi h=>ZipT.At h z I O a b p q i .none) where
 mem:=by simp
 obj:=λi h st c hc=>by
  obtain⟨zp,pr,⟨x0,y0,ow⟩,⟨oa,ia,_,da⟩,⟨ob,ib,_,db⟩⟩:=st
  have:c=z\/c=I\/c=O\/c=a\/c=b:=by simpa using hc
  rcases this with rfl|rfl|rfl|rfl|rfl
  ·exact⟨_,zp,λv e=>nomatch e⟩
  ·exact⟨_,pr,λv e=>nomatch e⟩
  ·exact⟨_,ow,λv e=>nomatch e⟩
  ·exact⟨oa,ia,λv e=>by rw[da] at e;cases e⟩
  ·exact⟨ob,ib,λv e=>by rw[db] at e;cases e⟩
 keep:=λi h h' st k=>by
  obtain⟨zp,pr,⟨x0,y0,ow⟩,ia,ib⟩:=st
  exact⟨k z (by simp) _ zp,k I (by simp) _ pr,⟨x0,y0,k O (by simp) _ ow⟩,ia.at λo e=>k a (by simp) o e,ib.at λo e=>k b (by simp) o e⟩
 item:=by
  intro X hP hw hK hc i pins s σ H E I0 hf st hg
  subst hP hw hK
  obtain⟨xs,ys,x,y,hx0,hy0,hx,hy⟩:=hg
  obtain⟨is1,rv1,pt1,hz1⟩:=I0.tuple hx0
  obtain⟨is2,rv2,pt2,hz2⟩:=I0.tuple hy0
  obtain⟨u,hu,ru⟩:=rv1.get hx
  obtain⟨v,hv,rv⟩:=rv2.get hy
  refine ZipT.nxt D st nps (show s.heap.IsTuple p is1.toArray from pt1) (show s.heap.IsTuple q is2.toArray from pt2) (x:=u) (y:=v) (by simpa using hu) (by simpa using hv) λh' st2 pr2 kp=>?_
  refine⟨_,rfl,wpAny_letOwnedTupleGo_zip st2.zp λh2 z2 sb=>?_⟩
  have lt:∀c∈[z,I,O,a,b],c<s.heap.objs.size:=λc hc=>by
   obtain⟨zp,pr,⟨x0,y0,ow⟩,⟨oa,ia,_,_⟩,⟨ob,ib,_,_⟩⟩:=st
   have:c=z\/c=I\/c=O\/c=a\/c=b:=by simpa using hc
   rcases this with rfl|rfl|rfl|rfl|rfl
   ·exact Heap.lt_size zp
   ·exact Heap.lt_size pr
   ·exact Heap.lt_size ow
   ·exact Heap.lt_size ia
   ·exact Heap.lt_size ib
  have fresh:H s.heap.objs.size=none:=I0.hok.fresh (Nat.le_refl _)
  have J0:=laid_pair (x:=x) (y:=y) I0 ru rv
  have hf1:∀c∈[z,I,O,a,b],FpOk X pins (upd H s.heap.objs.size (.tup [x,y])) c:=λc hc=>by
   obtain⟨g1,g2⟩:=hf c hc
   exact⟨by rw[upd_ne (Nat.ne_of_lt (lt c hc))];exact g1,g2⟩
  have J1:=turnedS (h':=h2) (t':=s.toks) J0 (λc o hc e=>by
   have nz:c≠z:=λw=>hc (by simp[w])
   have e:(s.heap.push { cls:=.type "tuple",data:=.seq #[u,v] }).get? c=some o:=e
   refine (sb.2 c nz).trans ?_
   by_cases hlt:c<s.heap.objs.size
   ·exact kp c o nz (λw=>hc (by simp[w])) (λw=>hc (by simp[w])) (λw=>hc (by simp[w])) (push_lt e hlt)
   ·have hb2:c<s.heap.objs.size+1:=by have:=Heap.lt_size e;rw[Heap.size_push] at this;exact this
    have eb:c=s.heap.objs.size:=Nat.le_antisymm (Nat.le_of_lt_succ hb2) (Nat.le_of_not_lt hlt)
    subst eb
    rw[Heap.get?_push_size _ rfl] at e
    cases e
    exact pr2) hf1
  refine⟨.ref s.heap.objs.size,_,J1,rfl,⟨_,x,y,fresh,λxs' h=>by rw[I0.tuple_inj h hx0];exact hx,λys' h=>by rw[I0.tuple_inj h hy0];exact hy,rfl,rfl⟩,?_,λc hc=>(hf1 c hc).1⟩
  obtain⟨_,pr3,⟨x3,y3,ow3⟩,ia3,ib3⟩:=st2
  exact⟨z2,(sb.2 I D.Iz).trans pr3,⟨x3,y3,(sb.2 O D.Oz).trans ow3⟩,ia3.at λo e=>(sb.2 a D.az).trans e,ib3.at λo e=>(sb.2 b D.bz).trans e⟩
 done:=by
  intro X hP hw hK hc i pins s σ H E I0 hf st hg
  subst hP hw hK
  obtain⟨xs,hq,hx⟩:=hg
  obtain⟨its,rv,pt,hz⟩:=I0.tuple hq
  have hl:=rv.length
  refine ZipT.stop (I0.ok.hd hc) D st nps (show s.heap.IsTuple p its.toArray from pt) (by simp;lia) λh' kp=>⟨rfl,turnedS (t':=s.toks) I0 (λc u hc e=>?_) hf⟩
  exact kp c u (λw=>hc (by simp[w])) (λw=>hc (by simp[w])) (λw=>hc (by simp[w])) (λw=>hc (by simp[w])) e
 self:=λ_ _ _ _ _ st h=>wpAny_pyIter_zip st.zp h
section
variable {X:Cx}{elts:List Expr}{x1:Nat}{tpos:Pos}
def iZipT (K:PySem.W.Frag) (ta:TA):TI:=λσ H R=>ta σ H λvs H1=>∃a b,vs=[.ref a,.ref b]/\(∃xs,SqT K H1 a xs)/\(∃ys,SqT K H1 b ys)/\R (Itz K a b) H1
theorem pi_zipT {e1 e2:Expr}{ta:TA}{p pos:Pos}(hg:Gl X "zip") (hm:X.mg "zip" = none) (ha:PA X [e1,e2] ta) (hs:starEach [e1,e2] X.env=(false,eval e1 X.env)::starEach [e2] X.env:=by rfl) (hs2:(backTo pos (starEach [e2] X.env)).any (·.1)=false:=by rfl):PI X (.Tuple elts x1 tpos) (.Call (.Name "zip" p) [e1,e2] [] pos) (iZipT X.K ta):=by
 intro pins s σ H R I h
 refine Call_ (ld_blt I hg hm PyProof.Rows.boot_zip (PyProof.Rows.callWith_type1 (thn (ha pos pins s σ H _ I h) λus s1 ⟨vs,H1,I1,r1,q1⟩=>?_) hs hs2))
 obtain⟨a,b,rfl,⟨xs,hx⟩,⟨ys,hy⟩,k⟩:=q1
 obtain⟨u,v,rfl,ru,rv⟩:∃u v,us=[u,v]/\RelV (.ref a) u/\RelV (.ref b) v:=by
  cases r1 with
  |cons a1 a2=>cases a2 with
   |cons a3 a4=>cases a4;exact⟨_,_,rfl,a1,a3⟩
 cases ru
 cases rv
 obtain⟨is1,rv1,pt1,hz1⟩:=I1.tuple hx
 obtain⟨is2,rv2,pt2,hz2⟩:=I1.tuple hy
 have lp:a<s1.heap.objs.size:=by obtain⟨o,e,_⟩:=pt1;exact Heap.lt_size e
 have lq:b<s1.heap.objs.size:=by obtain⟨o,e,_⟩:=pt2;exact Heap.lt_size e
 refine ZipT.call_new (show s1.heap.IsTuple a is1.toArray from pt1) (show s1.heap.IsTuple b is2.toArray from pt2) λh' at_ kp=>?_
 refine wpAny_pyIter_zip at_.zp ?_
 have J:Inv X pins σ H1 { s1 with heap:=h' }:=I1.kept (t':=s1.toks) kp
 generalize hN:s1.heap.objs.size=N at at_ lp lq
 have ge:∀c,N<=c->FpOk X pins H1 c:=λc hc=>I1.fpOk (by rw[hN];exact hc) (I1.hok.fresh (by rw[hN];exact hc))
 refine⟨N+4,[N+4,N+2,N+3,N,N+1],_,_,H1,rfl,J,turn_zipT a b (N+4) (N+2) (N+3) N (N+1) ?_ ?_,at_,λc hc=>?_,k⟩
 ·constructor<;>simp
 ·intro c hc
  have hge:N<=c:=by rcases hc with rfl|rfl|rfl|rfl<;>simp
  exact⟨Nat.ne_of_gt (Nat.lt_of_lt_of_le lp hge),Nat.ne_of_gt (Nat.lt_of_lt_of_le lq hge)⟩
 ·have:c=N+4\/c=N+2\/c=N+3\/c=N\/c=N+1:=by simpa using hc
  exact ge c (by rcases this with rfl|rfl|rfl|rfl|rfl<;>simp)
end
end L2
namespace ZipN
open PySem PySem.Spec ZipT
abbrev IsZipG (h:Heap) (z TI TO:Addr) (f0:Value) (g:Bool):Prop:=
 h.get? z=some { cls:=.type "zip",dict:=none,data:=.fields #[f0,.bool g,.bool false,.ref TI,.ref TO],slots:=#[] }
structure At (h:Heap) (z I O a b p q:Addr) (n:Nat):Prop where
 zp:∃f g,(f=.none\/∃t0:Nat,f=rawInt t0)/\IsZipG h z I O f g
 pr:IsPair h I (.ref a) (.ref b)
 ow:∃x y,IsPair h O x y
 ia:h.IsTupleIter a p n
 ib:h.IsTupleIter b q n
section
variable {prog:Program}{w:World}{A:Around}{E:Value->Shared->Prop}{s:Shared}{z I O a b p q:Addr}{n:Nat}{xs ys:Array Value}
theorem isFree {Q:Bool->Shared->Prop}{f:Value}{g:Bool}(hf:f=.none\/∃t0:Nat,f=rawInt t0) (zp:IsZipG s.heap z I O f g) (k1:Q true s)
  (k2:∀h' g',IsZipG h' z I O f g'->(∀c u,c≠z->s.heap.get? c=some u->h'.get? c=some u)->h'.objs.size=s.heap.objs.size->Q false { s with heap:=h' }):wpAny (model prog w) A (Builtin.SmallTypes.ownedTupleIsFree (.ref z)) Q E s:=by
 unfold Builtin.SmallTypes.ownedTupleIsFree
 rcases hf with rfl|⟨t0,rfl⟩
 ·exact wpAny_bind (wpAny_field zp rfl (x:=.none) rfl (wpAny_pure k1))
 refine wpAny_bind (wpAny_field zp rfl (x:=rawInt t0) rfl ?_)
 show wpAny _ _ (loadIfAlive ((t0:Int).toNat) >>= _) _ _ _
 have al:∀{Q':Option Obj->Shared->Prop},Q' (s.heap.get? (t0:Int).toNat) s->wpAny (model prog w) A (loadIfAlive ((t0:Int).toNat)) Q' E s:=λh'=>λ_ _ _=>h'
 refine wpAny_bind (al ?_)
 refine wpAny_ite_split (λ_=>wpAny_pure k1) (λ_=>?_)
 refine wpAny_bind (wpAny_field zp rfl (x:=.bool g) rfl ?_)
 cases g with
 |false=>
  refine wpAny_ite_split (λ_=>?_) (λh=>absurd (by decide) h)
  refine wpAny_bind (wpAny_setField_rec zp (by simp) λg1 z1 u1=>?_)
  exact wpAny_pure (k2 g1 true z1 (λc u hc e=>u1.extBut c u hc e) u1.1)
 |true=>
  refine wpAny_ite_split (λh=>absurd h (by decide)) (λ_=>?_)
  exact wpAny_pure (k2 _ true zp (λ_ _ _ e=>e) rfl)
theorem item {x y:Value}{Q:Value->Shared->Prop}(D:Ap z I O a b) (Z:At s.heap z I O a b p q n) (nps:∀c,c=z\/c=O\/c=a\/c=b->c≠p/\c≠q) (hp:s.heap.IsTuple p xs) (hq:s.heap.IsTuple q ys) (hx:xs[n]?=some x) (hy:ys[n]?=some y)
  (k:∀h',At h' z I O a b p q (n+1)->IsPair h' s.heap.objs.size x y->(∀c u,c≠z->c≠O->c≠a->c≠b->s.heap.get? c=some u->h'.get? c=some u)->Q (.ref s.heap.objs.size) { s with heap:=h' }) :
  wpAny (model prog w) A (Builtin.«zip.__next__» ⟨[.ref z],[]⟩) (λfin s'=>∃v,fin=.done (.ret v)/\Q v s') E s:=by
 obtain⟨⟨f,g,hf,zp⟩,pr,⟨x0,y0,ow⟩,ia,ib⟩:=Z
 show wpAny _ _ (field (.ref z) 2 >>= _) _ _ _;refine wpAny_bind (wpAny_field zp rfl (x:=.bool false) rfl ?_)
 show wpAny _ _ (field (.ref z) 3 >>= _) _ _ _;refine wpAny_bind (wpAny_field zp rfl (x:=.ref I) rfl (wpAny_bind (wpAny_seqItems pr rfl ?_)))
 show wpAny _ _ (Builtin.SmallTypes.ownedTupleIsFree (.ref z) >>= _) _ _ _;refine wpAny_bind (isFree hf zp ?_ λg1 gg z1 u1 sz1=>?_)
 ·simp only[if_true]
  refine wpAny_bind (wpAny_rule (wpAny_bind (wpAny_field zp rfl (x:=.ref O) rfl (wpAny_bind (wpAny_setField_rec zp (by simp) λg1 z1 u1=>?_)))))
  replace z1:IsZipG g1 z I O .ellipsis g:=z1
  refine wpAny_bind ?_;simp only[List.zipIdx_cons,List.zipIdx_nil,List.forIn_cons,List.forIn_nil]
  refine wpAny_bind (wpAny_bind (wpAny_onRaise ?_))
  have hp1:=tup_at hp λu e=>u1.extBut p u (nps z (.inl rfl)).1.symm e
  have ia1:g1.IsTupleIter a p n:=ia.at λu e=>u1.extBut a u D.az e
  show wpAny _ _ (Builtin.SmallTypes.nextOf (.ref a) >>= _) _ _ _;refine wpAny_bind (EnumT.inner_item ia1 hp1 hx λg2 ia2 u2=>wpAny_pure ?_)
  have ow2:IsPair g2 O x0 y0:=u2.extBut _ _ D.Oa (u1.extBut _ _ D.Oz ow)
  refine wpAny_bind (wpAny_seqItems ow2 rfl (wpAny_bind (wpAny_updateSeq_pair ow2 λg3 ow3 u3=>wpAny_bind (wpAny_letGo (wpAny_pure ?_)))))
  replace ow3:IsPair g3 O x y0:=ow3
  refine wpAny_bind (wpAny_bind (wpAny_onRaise ?_))
  have hq3:=tup_at hq λu e=>u3.extBut q u (nps O (.inr (.inl rfl))).2.symm (u2.extBut q u (nps a (.inr (.inr (.inl rfl)))).2.symm (u1.extBut q u (nps z (.inl rfl)).2.symm e))
  have ib3:g3.IsTupleIter b q n:=ib.at λu e=>u3.extBut b u D.Ob.symm (u2.extBut b u D.ab.symm (u1.extBut b u D.bz e))
  show wpAny _ _ (Builtin.SmallTypes.nextOf (.ref b) >>= _) _ _ _;refine wpAny_bind (EnumT.inner_item ib3 hq3 hy λg4 ib4 u4=>wpAny_pure ?_)
  have ow4:IsPair g4 O x y0:=u4.extBut _ _ D.Ob ow3
  refine wpAny_bind (wpAny_seqItems ow4 rfl (wpAny_bind (wpAny_updateSeq_pair ow4 λg5 ow5 u5=>wpAny_bind (wpAny_letGo (wpAny_pure (wpAny_pure ?_))))))
  replace ow5:IsPair g5 O x y:=ow5
  refine wpAny_bind (wpAny_seqItems ow5 rfl (wpAny_bind (wpAny_newTuple ?_)))
  have size5:g5.objs.size=s.heap.objs.size:=by rw[u5.1,u4.1,u3.1,u2.1,u1.1]
  have all5:∀c u,c≠z->c≠O->c≠a->c≠b->s.heap.get? c=some u->g5.get? c=some u:=λc u c1 c2 c3 c4 e=>u5.extBut _ _ c2 (u4.extBut _ _ c4 (u3.extBut _ _ c2 (u2.extBut _ _ c3 (u1.extBut _ _ c1 e))))
  have zp5:IsZipG g5 z I O .ellipsis g:=u5.extBut _ _ D.Oz.symm (u4.extBut _ _ D.bz.symm (u3.extBut _ _ D.Oz.symm (u2.extBut _ _ D.az.symm z1)))
  have ia5:g5.IsTupleIter a p (n+1):=ia2.at λu e=>u5.extBut a u D.Oa.symm (u4.extBut a u D.ab (u3.extBut a u D.Oa.symm e))
  have ib5:g5.IsTupleIter b q (n+1):=ib4.at λu e=>u5.extBut b u D.Ob.symm e
  have zlt:=Heap.lt_size zp5
  show wpAny _ _ (Builtin.SmallTypes.ownedTupleHandOut (.ref z) (.ref g5.objs.size) >>= _) _ _ _;refine wpAny_bind ?_;unfold Builtin.SmallTypes.ownedTupleHandOut
  have zp6:IsZipG (g5.push { cls:=.type "tuple",data:=.seq #[x,y] }) z I O .ellipsis g:=Heap.get?_push_of_some _ zp5
  refine wpAny_bind (wpAny_setField_rec zp6 (by simp) λg7 zp7 u7=>?_)
  replace zp7:IsZipG g7 z I O (rawInt g5.objs.size) g:=zp7
  refine wpAny_setField_rec zp7 (by simp) λg8 zp8 u8=>?_
  replace zp8:IsZipG g8 z I O (rawInt g5.objs.size) false:=zp8
  have up:∀c u,c≠z->g5.get? c=some u->g8.get? c=some u:=λc u c1 e=>u8.extBut _ _ c1 (u7.extBut _ _ c1 (Heap.get?_push_of_some _ e))
  have out:IsPair g8 g5.objs.size x y:=u8.extBut _ _ (Nat.ne_of_gt zlt) (u7.extBut _ _ (Nat.ne_of_gt zlt) (Heap.get?_push_size _ rfl))
  rw[size5] at zp8 out
  refine wpAny_pure ⟨_,rfl,?_⟩
  show Q (.ref g5.objs.size) _
  rw[size5]
  exact k g8 ⟨⟨_,_,.inr ⟨_,rfl⟩,zp8⟩,up _ _ D.Iz (all5 _ _ D.Iz D.IO D.Ia D.Ib pr),⟨x,y,up _ _ D.Oz ow5⟩,ia5.at λu e=>up _ u D.az e,ib5.at λu e=>up _ u D.bz e⟩ out λc u c1 c2 c3 c4 e=>up c u c1 (all5 c u c1 c2 c3 c4 e)
 ·simp only[Bool.false_eq_true,if_false,List.forIn_toArray,List.forIn_cons,List.forIn_nil]
  have hp1:=tup_at hp λu e=>u1 p u (nps z (.inl rfl)).1.symm e
  have ia1:g1.IsTupleIter a p n:=ia.at λu e=>u1 a u D.az e
  refine wpAny_bind (wpAny_bind (wpAny_bind (wpAny_holding ?_)))
  show wpAny _ _ (Builtin.SmallTypes.nextOf (.ref a) >>= _) _ _ _;refine wpAny_bind (EnumT.inner_item ia1 hp1 hx λg2 ia2 u2=>wpAny_pure (wpAny_pure ?_))
  have hq2:=tup_at hq λu e=>u2.extBut q u (nps a (.inr (.inr (.inl rfl)))).2.symm (u1 q u (nps z (.inl rfl)).2.symm e)
  have ib2:g2.IsTupleIter b q n:=ib.at λu e=>u2.extBut b u D.ab.symm (u1 b u D.bz e)
  refine wpAny_bind (wpAny_bind (wpAny_holding ?_))
  show wpAny _ _ (Builtin.SmallTypes.nextOf (.ref b) >>= _) _ _ _;refine wpAny_bind (EnumT.inner_item ib2 hq2 hy λg3 ib3 u3=>wpAny_pure (wpAny_pure (wpAny_pure ?_)))
  have up3:∀c u,c≠z->c≠a->c≠b->s.heap.get? c=some u->g3.get? c=some u:=λc u c1 c2 c3 e=>u3.extBut c u c3 (u2.extBut c u c2 (u1 c u c1 e))
  have sz3:g3.objs.size=s.heap.objs.size:=by rw[u3.1,u2.1,sz1]
  have z3:IsZipG g3 z I O f gg:=u3.extBut _ _ D.bz.symm (u2.extBut _ _ D.az.symm z1)
  show wpAny _ _ (newTuple [x,y] >>= _) _ _ _
  refine wpAny_bind (wpAny_newTuple (wpAny_pure ⟨_,rfl,?_⟩))
  show Q (.ref g3.objs.size) _
  rw[sz3]
  refine k _ ⟨⟨f,gg,hf,Heap.get?_push_of_some _ z3⟩,Heap.get?_push_of_some _ (up3 _ _ D.Iz D.Ia D.Ib pr),⟨x0,y0,Heap.get?_push_of_some _ (up3 _ _ D.Oz D.Oa D.Ob ow)⟩,(ia2.at λu e=>Heap.get?_push_of_some _ (u3.extBut a u D.ab e)),(ib3.at λu e=>Heap.get?_push_of_some _ e)⟩ ?_ λc u c1 _ c3 c4 e=>Heap.get?_push_of_some _ (up3 c u c1 c3 c4 e)
  rw[<- sz3];exact Heap.get?_push_size _ rfl
theorem ended {Q:Fin->Shared->Prop}(hh:A.handled=none) (D:Ap z I O a b) (Z:At s.heap z I O a b p q n) (nps:∀c,c=z\/c=O\/c=a\/c=b->c≠p/\c≠q) (hp:s.heap.IsTuple p xs) (hx:xs[n]?=none)
  (k:∀h' e,(∀c u,c≠z->c≠O->c≠a->c≠b->s.heap.get? c=some u->h'.get? c=some u)->(∃u,h'.get? e=some u/\u.cls=.type "StopIteration")->E (.ref e) { s with heap:=h' }) :
  wpAny (model prog w) A (Builtin.«zip.__next__» ⟨[.ref z],[]⟩) Q E s:=by
 obtain⟨⟨f,g,hf,zp⟩,pr,⟨x0,y0,ow⟩,ia,ib⟩:=Z
 show wpAny _ _ (field (.ref z) 2 >>= _) _ _ _;refine wpAny_bind (wpAny_field zp rfl (x:=.bool false) rfl ?_)
 show wpAny _ _ (field (.ref z) 3 >>= _) _ _ _;refine wpAny_bind (wpAny_field zp rfl (x:=.ref I) rfl (wpAny_bind (wpAny_seqItems pr rfl ?_)))
 show wpAny _ _ (Builtin.SmallTypes.ownedTupleIsFree (.ref z) >>= _) _ _ _;refine wpAny_bind (isFree hf zp ?_ λg1 gg z1 u1 sz1=>?_)
 ·simp only[if_true]
  refine wpAny_bind (wpAny_rule (wpAny_bind (wpAny_field zp rfl (x:=.ref O) rfl (wpAny_bind (wpAny_setField_rec zp (by simp) λg1 z1 u1=>?_)))))
  replace z1:IsZipG g1 z I O .ellipsis g:=z1
  refine wpAny_bind ?_;simp only[List.zipIdx_cons,List.zipIdx_nil,List.forIn_cons,List.forIn_nil]
  refine wpAny_bind (wpAny_bind (wpAny_onRaise ?_))
  have hp1:=tup_at hp λu e=>u1.extBut p u (nps z (.inl rfl)).1.symm e
  have ia1:g1.IsTupleIter a p n:=ia.at λu e=>u1.extBut a u D.az e
  show wpAny _ _ (Builtin.SmallTypes.nextOf (.ref a) >>= _) _ _ _;refine wpAny_bind (EnumT.inner_end hh ia1 hp1 hx λg2 e u2 he=>?_)
  obtain⟨oe,he1,he2⟩:=he
  have z2:IsZipG g2 z I O .ellipsis g:=u2 _ _ D.az.symm z1
  have ne:e≠z:=λv=>by subst v;rw[z2] at he1;cases he1;simp at he2
  exact wpAny_setField_rec z2 (by simp) λg3 _ u3=>k g3 e (λc u c1 _ c3 _ v=>u3.extBut _ _ c1 (u2 _ _ c3 (u1.extBut _ _ c1 v))) ⟨oe,u3.extBut _ _ ne he1,he2⟩
 ·simp only[Bool.false_eq_true,if_false,List.forIn_toArray,List.forIn_cons,List.forIn_nil]
  have hp1:=tup_at hp λu e=>u1 p u (nps z (.inl rfl)).1.symm e
  have ia1:g1.IsTupleIter a p n:=ia.at λu e=>u1 a u D.az e
  refine wpAny_bind (wpAny_bind (wpAny_bind (wpAny_holding ?_)))
  show wpAny _ _ (Builtin.SmallTypes.nextOf (.ref a) >>= _) _ _ _;refine wpAny_bind (EnumT.inner_end hh ia1 hp1 hx λg2 e u2 he=>?_)
  exact k g2 e (λc u c1 _ c3 _ v=>u2 _ _ c3 (u1 c u c1 v)) he
theorem nxt {x y:Value}{Q:Option Value->Shared->Prop}(D:Ap z I O a b) (Z:At s.heap z I O a b p q n) (nps:∀c,c=z\/c=O\/c=a\/c=b->c≠p/\c≠q) (hp:s.heap.IsTuple p xs) (hq:s.heap.IsTuple q ys) (hx:xs[n]?=some x) (hy:ys[n]?=some y)
  (k:∀h',At h' z I O a b p q (n+1)->IsPair h' s.heap.objs.size x y->(∀c u,c≠z->c≠O->c≠a->c≠b->s.heap.get? c=some u->h'.get? c=some u)->Q (some (.ref s.heap.objs.size)) { s with heap:=h' }) :
  wpAny (model prog w) A (pyNext (.ref z)) Q E s:=by
 have ty:s.TypeIs (.ref z) "zip":=let ⟨_,_,_,zp⟩:=Z.zp;⟨_,zp,rfl⟩
 unfold pyNext
 exact wpAny_bind (wpAny_attempt (wpAny_callSpecial?_slot (name:=Str.ofString "__next__") ty F.slot_zip_next (wpAny_call_entry F.slot_zip_next ty F.entry_zip_next (item D Z nps hp hq hx hy λh' a1 a2 a3=>wpAny_pure (k h' a1 a2 a3)) (F.args_zip_next_1 _))))
theorem stop {Q:Option Value->Shared->Prop}(hh:A.handled=none) (D:Ap z I O a b) (Z:At s.heap z I O a b p q n) (nps:∀c,c=z\/c=O\/c=a\/c=b->c≠p/\c≠q) (hp:s.heap.IsTuple p xs) (hx:xs[n]?=none)
  (k:∀h',(∀c u,c≠z->c≠O->c≠a->c≠b->s.heap.get? c=some u->h'.get? c=some u)->Q none { s with heap:=h' }):wpAny (model prog w) A (pyNext (.ref z)) Q E s:=by
 have ty:s.TypeIs (.ref z) "zip":=let ⟨_,_,_,zp⟩:=Z.zp;⟨_,zp,rfl⟩
 unfold pyNext
 refine wpAny_bind (wpAny_attempt (wpAny_callSpecial?_slot (name:=Str.ofString "__next__") ty F.slot_zip_next (wpAny_call_entry F.slot_zip_next ty F.entry_zip_next (ended hh D Z nps hp hx λh' e hk he=>?_) (F.args_zip_next_1 _))))
 obtain⟨u,hu,hc⟩:=he
 exact wpAny_bind (wpAny_isInstance (T:= "StopIteration") (b:=true) ⟨u,hu,hc⟩ isSubtype_stop (wpAny_pure (k _ hk)))
theorem iter {Q:Value->Shared->Prop}(Z:At s.heap z I O a b p q n) (h:Q (.ref z) s):wpAny (model prog w) A (pyIter (.ref z)) Q E s:=by
 have hT:s.TypeIs (.ref z) "zip":=let ⟨_,_,_,zp⟩:=Z.zp;⟨_,zp,rfl⟩
 refine wpAny_pyIter_slot hT F.slot_zip_iter (wpAny_call_entry F.slot_zip_iter hT F.entry_zip_iter ?_ (F.args_zip_iter_1 _))
 show wpAny _ _ (ret (.ref z)) _ _ s
 exact wpAny_pure ⟨_,rfl, "zip",_,hT,F.slot_zip_next.lookup,h⟩
end
end ZipN
namespace L2
open PySem PySem.Spec PyProof.Rows
theorem turn_zipN {P:Program}{w:World}{K:PySem.W.Frag}{nx:Str}{px:Pos}(p q z I O a b:Addr) (D:ZipT.Ap z I O a b) (nps:∀c,c=z\/c=O\/c=a\/c=b->c≠p/\c≠q) :
  Turn P w K (.Name nx px) (Itz K p q) [z,I,O,a,b] z (λi h=>ZipN.At h z I O a b p q i) where
 mem:=by simp
 obj:=λi h st c hc=>by
  obtain⟨⟨_,_,_,zp⟩,pr,⟨x0,y0,ow⟩,⟨oa,ia,_,da⟩,⟨ob,ib,_,db⟩⟩:=st
  have:c=z\/c=I\/c=O\/c=a\/c=b:=by simpa using hc
  rcases this with rfl|rfl|rfl|rfl|rfl
  ·exact⟨_,zp,λv e=>nomatch e⟩
  ·exact⟨_,pr,λv e=>nomatch e⟩
  ·exact⟨_,ow,λv e=>nomatch e⟩
  ·exact⟨oa,ia,λv e=>by rw[da] at e;cases e⟩
  ·exact⟨ob,ib,λv e=>by rw[db] at e;cases e⟩
 keep:=λi h h' st k=>by
  obtain⟨⟨f,g,hf,zp⟩,pr,⟨x0,y0,ow⟩,ia,ib⟩:=st
  exact⟨⟨f,g,hf,k z (by simp) _ zp⟩,k I (by simp) _ pr,⟨x0,y0,k O (by simp) _ ow⟩,ia.at λo e=>k a (by simp) o e,ib.at λo e=>k b (by simp) o e⟩
 item:=by
  intro X hP hw hK hc i pins s σ H E I0 hf st hg
  subst hP hw hK
  obtain⟨xs,ys,x,y,hx0,hy0,hx,hy⟩:=hg
  obtain⟨is1,rv1,pt1,hz1⟩:=I0.tuple hx0
  obtain⟨is2,rv2,pt2,hz2⟩:=I0.tuple hy0
  obtain⟨u,hu,ru⟩:=rv1.get hx
  obtain⟨v,hv,rv⟩:=rv2.get hy
  refine ZipN.nxt D st nps (show s.heap.IsTuple p is1.toArray from pt1) (show s.heap.IsTuple q is2.toArray from pt2) (x:=u) (y:=v) (by simpa using hu) (by simpa using hv) λh' st2 pr2 kp=>?_
  refine⟨_,rfl,wpAny_pure ?_⟩
  have lt:∀c∈[z,I,O,a,b],c<s.heap.objs.size:=λc hc=>by
   obtain⟨⟨_,_,_,zp⟩,pr,⟨x0,y0,ow⟩,⟨oa,ia,_,_⟩,⟨ob,ib,_,_⟩⟩:=st
   have:c=z\/c=I\/c=O\/c=a\/c=b:=by simpa using hc
   rcases this with rfl|rfl|rfl|rfl|rfl
   ·exact Heap.lt_size zp
   ·exact Heap.lt_size pr
   ·exact Heap.lt_size ow
   ·exact Heap.lt_size ia
   ·exact Heap.lt_size ib
  have fresh:H s.heap.objs.size=none:=I0.hok.fresh (Nat.le_refl _)
  have J0:=laid_pair (x:=x) (y:=y) I0 ru rv
  have hf1:∀c∈[z,I,O,a,b],FpOk X pins (upd H s.heap.objs.size (.tup [x,y])) c:=λc hc=>by
   obtain⟨g1,g2⟩:=hf c hc
   exact⟨by rw[upd_ne (Nat.ne_of_lt (lt c hc))];exact g1,g2⟩
  have J1:=turnedS (h':=h') (t':=s.toks) J0 (λc o hc e=>by
   have nz:c≠z:=λw=>hc (by simp[w])
   have e:(s.heap.push { cls:=.type "tuple",data:=.seq #[u,v] }).get? c=some o:=e
   by_cases hlt:c<s.heap.objs.size
   ·exact kp c o nz (λw=>hc (by simp[w])) (λw=>hc (by simp[w])) (λw=>hc (by simp[w])) (push_lt e hlt)
   ·have hb2:c<s.heap.objs.size+1:=by have:=Heap.lt_size e;rw[Heap.size_push] at this;exact this
    have eb:c=s.heap.objs.size:=Nat.le_antisymm (Nat.le_of_lt_succ hb2) (Nat.le_of_not_lt hlt)
    subst eb
    rw[Heap.get?_push_size _ rfl] at e
    cases e
    exact pr2) hf1
  refine⟨.ref s.heap.objs.size,_,J1,rfl,⟨_,x,y,fresh,λxs' h=>by rw[I0.tuple_inj h hx0];exact hx,λys' h=>by rw[I0.tuple_inj h hy0];exact hy,rfl,rfl⟩,?_,λc hc=>(hf1 c hc).1⟩
  exact st2
 done:=by
  intro X hP hw hK hc i pins s σ H E I0 hf st hg
  subst hP hw hK
  obtain⟨xs,hq,hx⟩:=hg
  obtain⟨its,rv,pt,hz⟩:=I0.tuple hq
  have hl:=rv.length
  refine ZipN.stop (I0.ok.hd hc) D st nps (show s.heap.IsTuple p its.toArray from pt) (by simp;lia) λh' kp=>⟨rfl,turnedS (t':=s.toks) I0 (λc u hc e=>?_) hf⟩
  exact kp c u (λw=>hc (by simp[w])) (λw=>hc (by simp[w])) (λw=>hc (by simp[w])) (λw=>hc (by simp[w])) e
 self:=λ_ _ _ _ _ st h=>ZipN.iter st h
section
variable {X:Cx}{nx:Str}{px:Pos}
theorem pi_zipN {e1 e2:Expr}{ta:TA}{p pos:Pos}(hg:Gl X "zip") (hm:X.mg "zip" = none) (ha:PA X [e1,e2] ta) (hs:starEach [e1,e2] X.env=(false,eval e1 X.env)::starEach [e2] X.env:=by rfl) (hs2:(backTo pos (starEach [e2] X.env)).any (·.1)=false:=by rfl):PI X (.Name nx px) (.Call (.Name "zip" p) [e1,e2] [] pos) (iZipT X.K ta):=by
 intro pins s σ H R I h
 refine Call_ (ld_blt I hg hm PyProof.Rows.boot_zip (PyProof.Rows.callWith_type1 (thn (ha pos pins s σ H _ I h) λus s1 ⟨vs,H1,I1,r1,q1⟩=>?_) hs hs2))
 obtain⟨a,b,rfl,⟨xs,hx⟩,⟨ys,hy⟩,k⟩:=q1
 obtain⟨u,v,rfl,ru,rv⟩:∃u v,us=[u,v]/\RelV (.ref a) u/\RelV (.ref b) v:=by
  cases r1 with
  |cons a1 a2=>cases a2 with
   |cons a3 a4=>cases a4;exact⟨_,_,rfl,a1,a3⟩
 cases ru
 cases rv
 obtain⟨is1,rv1,pt1,hz1⟩:=I1.tuple hx
 obtain⟨is2,rv2,pt2,hz2⟩:=I1.tuple hy
 have lp:a<s1.heap.objs.size:=by obtain⟨o,e,_⟩:=pt1;exact Heap.lt_size e
 have lq:b<s1.heap.objs.size:=by obtain⟨o,e,_⟩:=pt2;exact Heap.lt_size e
 refine ZipT.call_new (show s1.heap.IsTuple a is1.toArray from pt1) (show s1.heap.IsTuple b is2.toArray from pt2) λh' at_ kp=>?_
 have at2:ZipN.At h' (s1.heap.objs.size+4) (s1.heap.objs.size+2) (s1.heap.objs.size+3) s1.heap.objs.size (s1.heap.objs.size+1) a b 0:=⟨⟨_,_,.inl rfl,at_.zp⟩,at_.pr,at_.ow,at_.ia,at_.ib⟩
 refine ZipN.iter at2 ?_
 have J:Inv X pins σ H1 { s1 with heap:=h' }:=I1.kept (t':=s1.toks) kp
 generalize hN:s1.heap.objs.size=N at at2 lp lq
 have ge:∀c,N<=c->FpOk X pins H1 c:=λc hc=>I1.fpOk (by rw[hN];exact hc) (I1.hok.fresh (by rw[hN];exact hc))
 refine⟨N+4,[N+4,N+2,N+3,N,N+1],_,_,H1,rfl,J,turn_zipN a b (N+4) (N+2) (N+3) N (N+1) ?_ ?_,at2,λc hc=>?_,k⟩
 ·constructor<;>simp
 ·intro c hc
  have hge:N<=c:=by rcases hc with rfl|rfl|rfl|rfl<;>simp
  exact⟨Nat.ne_of_gt (Nat.lt_of_lt_of_le lp hge),Nat.ne_of_gt (Nat.lt_of_lt_of_le lq hge)⟩
 ·have:c=N+4\/c=N+2\/c=N+3\/c=N\/c=N+1:=by simpa using hc
  exact ge c (by rcases this with rfl|rfl|rfl|rfl|rfl<;>simp)
theorem for_zipt {K:PySem.W.Frag}{a b:Addr}{xs ys:List V}{g:TG}{tb:TS}{D:Ends}{σ:St}{H:Hp}(hxy:xs.length=ys.length) (Pv:Nat->St->Hp->Prop) (h0:Pv 0 σ H) (hl:∀i σ H,Pv i σ H->SqT K H a xs/\SqT K H b ys)
  (hs:∀(i:Nat) x y t σ H,xs[i]?=some x->ys[i]?=some y->H t=none->Pv i σ H->g (.ref t) σ (upd H t (.tup [x,y])) λσ2 H2=>tb { D with nx:=Pv (i+1),ct:=Pv (i+1),bk:=D.nx } σ2 H2) (hd:∀σ H,Pv xs.length σ H->D.nx σ H) :
  ∃W:Nat->Nat->St->Hp->Prop,(∃m,W 0 m σ H)/\∀i m σ H,W i m σ H ->
   ((Itz K a b).stop i H/\D.nx σ H)\/((Itz K a b).go i H/\∃N:St->Hp->Prop,(∀σ' H',N σ' H'->∃m',m'<m/\W (i+1) m' σ' H')/\∀x H',(Itz K a b).yld i H x H'->g x σ H' λσ2 H2=>tb { D with nx:=N,ct:=N,bk:=D.nx } σ2 H2):=by
 refine⟨λi m σ H=>m=xs.length-i/\i<=xs.length/\Pv i σ H,⟨xs.length,by simp,Nat.zero_le _,h0⟩,?_⟩
 rintro i m σ H ⟨rfl,hi,p⟩
 obtain⟨q1,q2⟩:=hl i σ H p
 by_cases hlt:i<xs.length
 ·refine .inr ⟨⟨xs,ys,xs[i],ys[i]'(by lia),q1,q2,by simp[hlt],by simp[show i<ys.length by lia]⟩,Pv (i+1),λσ' H' p'=>⟨xs.length-(i+1),by lia,rfl,hlt,p'⟩,λx H' y=>?_⟩
  obtain⟨t,u,v,ht,hu,hv,rfl,rfl⟩:=y
  exact hs i u v t σ _ (hu xs q1) (hv ys q2) ht p
 ·have e:i=xs.length:=by lia
  subst e
  exact .inl ⟨⟨xs,q1,Nat.le_refl _⟩,hd σ H p⟩
end
end L2
namespace Pr
open PySem L2
abbrev sWhole:Stmt:=top 8
abbrev sPlain:Stmt:=top 9
abbrev sDeps:Stmt:=top 10
abbrev sEnd:Stmt:=top 11
abbrev sPlaces:Stmt:=top 12
abbrev sRenum:Stmt:=top 13
abbrev sShapeOf:Stmt:=top 14
abbrev sBkInit:Stmt:=inClass (top 15) 0
abbrev sBkNum:Stmt:=inClass (top 15) 1
abbrev sBkNums:Stmt:=inClass (top 15) 2
abbrev sSize:Stmt:=top 18
abbrev sNumber:Stmt:=top 20
abbrev sRow:Stmt:=top 21
abbrev sRows:Stmt:=top 22
abbrev sTelling:Stmt:=top 23
abbrev sShape:Stmt:=top 24
abbrev sWantS:Stmt:=top 25
abbrev sWantO:Stmt:=top 26
abbrev sExch:Stmt:=top 32
abbrev sExchR:Stmt:=top 33
abbrev sBoth:Stmt:=top 34
abbrev sBeside:Stmt:=top 35
abbrev sDdInit:Stmt:=inClass (top 36) 0
abbrev sDdPair:Stmt:=inClass (top 36) 1
abbrev sBrought:Stmt:=top 37
abbrev sJoined:Stmt:=top 38
abbrev sCut:Stmt:=top 39
abbrev sWithout:Stmt:=top 40
abbrev sUnlike:Stmt:=top 41
abbrev sGather:Stmt:=top 42
abbrev sPairs:Stmt:=top 43
abbrev lPurse:Stmt:=top 45
abbrev lDraw:Stmt:=top 46
abbrev lQuarter:Stmt:=top 47
abbrev lDeps:Stmt:=top 48
abbrev lRows:Stmt:=top 49
abbrev lEnds:Stmt:=top 50
abbrev lShape:Stmt:=top 51
abbrev lDrawn:Stmt:=top 52
abbrev lTwo:Stmt:=top 53
abbrev lCount:Stmt:=top 54
abbrev lBesideL:Stmt:=top 55
abbrev lIsNum:Stmt:=top 56
abbrev lTwoRight:Stmt:=top 57
abbrev lLaw:Stmt:=top 58
end Pr
namespace Pr
open PySem L2 Qf
structure Blt (mg:Str->Option Value):Prop where
 isi:mg "isinstance" = none
 int:mg "int" = none
 bool:mg "bool" = none
 tuple:mg "tuple" = none
 list:mg "list" = none
 set:mg "set" = none
 len:mg "len" = none
 all:mg "all" = none
 any:mg "any" = none
 enum:mg "enumerate" = none
 range:mg "range" = none
 max:mg "max" = none
 min:mg "min" = none
structure Cst (mg:Str->Option Value):Prop where
 first:∃t,mg "FIRST" = some (.int 2 t)
 full:∃t,mg "FULL" = some (.int 1 t)
 great:∃t,mg "GREATEST_SIZE" = some (.int 12 t)
def vN (r:List Nat):List V:=r.map λn:Nat=>V.int (n:Int)
theorem vN_len (r:List Nat):(vN r).length=r.length:=List.length_map ..
theorem vN_get {r:List Nat}{i:Nat}{x:V}(h:(vN r)[i]?=some x):∃n:Nat,r[i]?=some n/\x=.int (n:Int):=by
 unfold vN at h
 rw[List.getElem?_map] at h
 obtain⟨n,h1,h2⟩:=Option.map_eq_some_iff.mp h
 exact⟨n,h1,h2.symm⟩
theorem vN_at {r:List Nat}{i n:Nat}(h:r[i]?=some n):(vN r)[i]?=some (.int (n:Int)):=by
 unfold vN
 rw[List.getElem?_map,h];rfl
theorem vN_atI {r:List Nat}{i n:Nat}(h:r[i]?=some n):atI (vN r) (i:Int)=some (.int (n:Int)):=atI_nat (vN_at h)
theorem vN_int (r:List Nat):vN r=(r.map λn:Nat=>(n:Int)).map V.int:=by unfold vN;rw[List.map_map];rfl
def RowsAt (H:Hp) (p:Addr) (rows:List Row):Prop:=∃bs:List Addr,H p=some (.tup (bs.map V.ref))/\bs.length=rows.length/\∀(i:Nat) b r,bs[i]?=some b->rows[i]?=some r->H b=some (.tup (vN r))
theorem RowsAt.mono {H H':Hp}{p:Addr}{rows:List Row}(h:RowsAt H p rows) (t:Tups H H'):RowsAt H' p rows:=by
 obtain⟨bs,h1,h2,h3⟩:=h
 exact⟨bs,t _ _ h1,h2,λi b r e1 e2=>t _ _ (h3 i b r e1 e2)⟩
theorem RowsAt.same {H H':Hp}{p:Addr}{rows:List Row}(h:RowsAt H p rows) (t:Same H H'):RowsAt H' p rows:=h.mono t.tups
def RowsS (H:Hp) (p:Addr) (rows:List Row):Prop:=∃bs:List Addr,(H p=some (.tup (bs.map V.ref))\/H p=some (.lst (bs.map V.ref)))/\bs.length=rows.length/\∀(i:Nat) b r,bs[i]?=some b->rows[i]?=some r->H b=some (.tup (vN r))
theorem RowsAt.s {H:Hp}{p:Addr}{rows:List Row}(h:RowsAt H p rows):RowsS H p rows:=let ⟨bs,a,b,c⟩:=h;⟨bs,.inl a,b,c⟩
theorem RowsS.same {H H':Hp}{p:Addr}{rows:List Row}(h:RowsS H p rows) (s:Same H H'):RowsS H' p rows:=by
 obtain⟨bs,h1,h2,h3⟩:=h
 exact⟨bs,h1.imp (s _ _) (s _ _),h2,λi b r e1 e2=>s _ _ (h3 i b r e1 e2)⟩
def rIxS (K:PySem.W.Frag):R2:=λx y H Q=>rIxL K x y H Q\/rIxT K x y H Q
theorem ixS {X:Cx}(K:PySem.W.Frag) (h:X.K=K):IxR X (rIxS K):=(ixL K h).or (ixT K h)
section
variable {P:Program}{w:World}{K:PySem.W.Frag}{mg:Str->Option Value}{base:Heap}
theorem scWhole:FnScope ["thing"] ["thing"] (defScope sWhole):=⟨rfl,rfl,rfl,by decide +kernel,rfl,by decide +kernel,by decide +kernel⟩
def spWhole:Sp:=λvs H Q _=>∃i:Int,vs=[.int i]/\Q (.bl true) H
theorem ok_whole {f:Addr}{fd:FuncData}(F:Fun K "is_whole" "is_whole" sWhole f fd) (B:Blt mg):FnOk P w K mg base CX0 1 f fd ["thing"] spWhole:=by
 refine F.ok scWhole (λvs H Q E h=>?_) (λcdv A outer s H vs Q E hr h=>?_)
 ·obtain⟨i,rfl,_⟩:=h
  rfl
 ·obtain⟨i,rfl,q⟩:=h
  refine⟨_,pss_one (ps_ret (pe_and (pe_callB call_isi (by rfl) B.isi PyProof.Rows.boot_isinstance (qa0 (pv 0) (qa0 (pe_bltn (v:=.ty "int") (by rfl) B.int PyProof.Rows.boot_int rfl) qa3)))
   (pe_one (pe_not (pe_callB call_isi (by rfl) B.isi PyProof.Rows.boot_isinstance (qa0 (pv 0) (qa0 (pe_bltn (v:=.ty "bool") (by rfl) B.bool PyProof.Rows.boot_bool rfl) qa3))))))),?_⟩
  exact⟨_,rfl,_,_,_,_,true,rfl,rfl,.inl (.int i),rfl,_,rfl,iteT ⟨_,rfl,_,_,_,_,false,rfl,rfl,.inl (.int i),rfl,_,rfl,q⟩⟩
theorem scSize:FnScope ["thing"] ["thing"] (defScope sSize):=⟨rfl,rfl,rfl,by decide +kernel,rfl,by decide +kernel,by decide +kernel⟩
def spSize:Sp:=λvs H Q _=>∃n:Nat,vs=[.int n]/\n<=12/\Q (.bl true) H
theorem ok_size {f fW:Addr}{fd fdW:FuncData}(F:Fun K "is_size" "is_size" sSize f fd) (B:Blt mg) (T:Cst mg) (hW:mg "is_whole" = some (.ref fW)) (FW:Fun K "is_whole" "is_whole" sWhole fW fdW) (bW:Binds K fdW ["thing"] []):FnOk P w K mg base CX0 2 f fd ["thing"] spSize:=by
 have GW:FnOk P w K mg base CX0 1 fW fdW ["thing"] spWhole:=ok_whole FW B
 obtain⟨tg,hgr⟩:=T.great
 refine F.ok scSize (λvs H Q E h=>?_) (λcdv A outer s H vs Q E hr h=>?_)
 ·obtain⟨x,rfl,_⟩:=h
  rfl
 ·obtain⟨n,rfl,hn,q⟩:=h
  refine⟨_,pss_one (ps_ret (pe_and (pe_call GW hr (by rfl) hW FW.kp bW .nil pass0 (qa0 (pv 0) qa3)) (pe_one (pe_chain op_le op_le qa4 (pv 0) (pe_glob (v:=.int 12) (by rfl) hgr ⟨_,rfl⟩))))),?_⟩
  refine⟨_,rfl,n,rfl,_,rfl,iteT ⟨_,rfl,_,_,rfl,rfl,_,rfl,?_⟩⟩
  have e:decide ((n:Int)<=12)=true:=decide_eq_true (by lia)
  refine ite2 (λ_=>⟨_,_,rfl,rfl,?_⟩) (λh1=>absurd (decide_eq_true (Int.natCast_nonneg n)) h1)
  show Q (V.bl (decide ((n:Int)<=12))) H
  rw[e];exact q
theorem scNumber:FnScope ["thing", "many"] ["thing", "many"] (defScope sNumber):=⟨rfl,rfl,rfl,by decide +kernel,rfl,by decide +kernel,by decide +kernel⟩
def spNumber:Sp:=λvs H Q _=>∃n m:Nat,vs=[.int n,.int m]/\n<m+2/\Q (.bl true) H
theorem ok_number {f fW:Addr}{fd fdW:FuncData}(F:Fun K "is_number" "is_number" sNumber f fd) (B:Blt mg) (T:Cst mg) (hW:mg "is_whole" = some (.ref fW)) (FW:Fun K "is_whole" "is_whole" sWhole fW fdW) (bW:Binds K fdW ["thing"] []):FnOk P w K mg base CX0 2 f fd ["thing", "many"] spNumber:=by
 have GW:FnOk P w K mg base CX0 1 fW fdW ["thing"] spWhole:=ok_whole FW B
 obtain⟨tf,hf⟩:=T.first
 refine F.ok scNumber (λvs H Q E h=>?_) (λcdv A outer s H vs Q E hr h=>?_)
 ·obtain⟨n,m,rfl,_⟩:=h
  rfl
 ·obtain⟨n,m,rfl,hn,q⟩:=h
  refine⟨_,pss_one (ps_ret (pe_and (pe_call GW hr (by rfl) hW FW.kp bW .nil pass0 (qa0 (pv 0) qa3)) (pe_one (pe_chain op_le op_lt qa4 (pv 0) (pe_op op_add (pv 1) (pe_glob (v:=.int 2) (by rfl) hf ⟨_,rfl⟩)))))),?_⟩
  refine⟨_,rfl,n,rfl,_,rfl,iteT ⟨_,rfl,_,_,rfl,rfl,_,rfl,?_⟩⟩
  have e:decide ((n:Int)<(m:Int)+2)=true:=decide_eq_true (by lia)
  refine ite2 (λ_=>⟨_,rfl,_,_,rfl,rfl,_,_,rfl,rfl,?_⟩) (λh1=>absurd (decide_eq_true (Int.natCast_nonneg n)) h1)
  show Q (V.bl (decide ((n:Int)<(m:Int)+2))) H
  rw[e];exact q
theorem scPlain:FnScope ["row"] ["row"] (defScope sPlain):=⟨rfl,rfl,rfl,by decide +kernel,rfl,by decide +kernel,by decide +kernel⟩
def spPlain:Sp:=λvs H Q _=>∃(b:Addr) (r:Row),vs=[.ref b]/\H b=some (.tup (vN r))/\r.length=4/\∀H',Same H H'->Q (.bl (decide (Plain r))) H'
theorem int_inj {l m:List Nat}(h:(l.map λn:Nat=>(n:Int))=m.map λn:Nat=>(n:Int)):l=m:=by
 induction l generalizing m with
 |nil=>cases m with
  |nil=>rfl
  |cons b m=>simp at h
 |cons a l ih=>cases m with
  |nil=>simp at h
  |cons b m=>
   rw[List.map_cons,List.map_cons] at h
   injection h with h1 h2
   rw[ih h2,Int.ofNat.inj h1]
theorem ok_plain {f:Addr}{fd:FuncData}(F:Fun K "is_plain" "is_plain" sPlain f fd) (T:Cst mg):FnOk P w K mg base CX0 2 f fd ["row"] spPlain:=by
 obtain⟨tf,hf⟩:=T.first
 refine F.ok scPlain (λvs H Q E h=>?_) (λcdv A outer s H vs Q E hr h=>?_)
 ·obtain⟨b,r,rfl,_⟩:=h
  rfl
 ·obtain⟨b,r,rfl,hb,hl,q⟩:=h
  refine⟨_,pss_one (ps_ret (pe_and (pe_cmpR op_lt (pe_ix ix_tup (pv 0) qa4 (λ_ _=>rfl)) (pe_glob (v:=.int 2) (by rfl) hf ⟨_,rfl⟩) (nomark _))
   (pe_one (pe_cmpR (op_eqD hr) (pv 0) (pe_op op_repT (pe_tup (qa0 (pe_ix ix_tup (pv 0) qa4 (λ_ _=>rfl)) qa3)) qa4) (nomark _))))),?_⟩
  match r,hl with
  |[x0,x1,x2,x3],_=>
   refine⟨_,rfl,b,_,0,.int x0,rfl,rfl,SqT.of hb,rfl,_,_,rfl,rfl,_,rfl,?_⟩
   refine ite2 (λhc=>?_) (λhc=>?_)
   ·have h2:x0<2:=by have:=of_decide_eq_true hc;lia
    refine⟨_,rfl,_,rfl,b,_,0,.int x0,rfl,rfl,SqT.of hb,rfl,(by show 1<=sizeLine;decide),λp hp=>⟨p,4,.int x0,rfl,rfl,qa1,by decide,by decide,λp2 hp2=>?_⟩⟩
    have hb2:=keepU (u:=.tup (List.replicate 4 (V.int x0))) (keepU (u:=.tup [V.int x0]) hb hp) hp2
    refine⟨dT [(x0:Int),(x1:Int),(x2:Int),(x3:Int)],dT [(x0:Int),(x0:Int),(x0:Int),(x0:Int)],.tup hb2 (DatasAt.ints [(x0:Int),(x1:Int),(x2:Int),(x3:Int)]),.tup qa1 (DatasAt.ints [(x0:Int),(x0:Int),(x0:Int),(x0:Int)]),dT_lay _,dT_lay _,(by show 1<=60;decide),?_⟩
    rw[dT_eqv]
    have e:decide (([(x0:Int),(x1:Int),(x2:Int),(x3:Int)]:List Int)=([(x0:Int),(x0:Int),(x0:Int),(x0:Int)]:List Int))=decide (Plain [x0,x1,x2,x3]):=by
     congr 1
     apply propext
     unfold Plain
     constructor
     ·intro z
      have:[x0,x1,x2,x3]=[x0,x0,x0,x0]:=int_inj (l:=[x0,x1,x2,x3]) (m:=[x0,x0,x0,x0]) z
      have:x0=0\/x0=1:=by lia
      rcases this with rfl|rfl
      ·exact .inl ‹_›
      ·exact .inr ‹_›
     ·rintro (z|z)<;>(cases z;rfl)
    rw[e]
    exact q _ ((sameU hp).trans (sameU hp2))
   ·have h2:¬x0<2:=λz=>hc (decide_eq_true (by lia))
    have e:decide (Plain [x0,x1,x2,x3])=false:=decide_eq_false (by
     rintro (z|z)<;>(cases z;lia))
    have:=q H (Same.refl H)
    rw[e] at this
    exact this
end
end Pr
namespace Qf
theorem mx_snoc (l:List Nat) (a:Nat):mx (l++[a])=max (mx l) a:=by
 induction l with
 |nil=>show max a 0=max 0 a;lia
 |cons b l ih=>show max b (mx (l++[a]))=max (max b (mx l)) a;rw[ih];lia
theorem best_mx (l:List Nat):∀k,k<l.length->L2.best (l.map λn:Nat=>(n:Int)) k=(mx (l.take (k+1)):Nat)
 |0,h=>by
  cases l with
  |nil=>simp at h
  |cons a l=>show ((a:Nat):Int)=((max a 0:Nat):Int);simp
 |k+1,h=>by
  have ih:=best_mx l k (by lia)
  have e:(l.map λn:Nat=>(n:Int)).getD (k+1) 0=((l[k+1]:Nat):Int):=by simp[List.getD,h]
  have t:l.take (k+1+1)=l.take (k+1)++[l[k+1]]:=by rw[List.take_append_getElem h]
  unfold L2.best
  rw[e,ih,t,mx_snoc]
  split<;>lia
theorem best_all {l:List Nat}(h:l≠[]):L2.best (l.map λn:Nat=>(n:Int)) ((l.map λn:Nat=>(n:Int)).length-1)=(mx l:Nat):=by
 have hl:0<l.length:=List.length_pos_iff.mpr h
 rw[List.length_map,best_mx l (l.length-1) (by lia),show l.length-1+1=l.length by lia,List.take_length]
theorem deps_take {rows:List Row}{i:Nat}{r:Row}(h:rows[i]?=some r):deps (rows.take (i+1))=deps (rows.take i)++[1+mx (r.map (dp (rows.take i)))]:=by
 have hl:=(gS_ h).1
 have he:=(gS_ h).2
 rw[<- deps_snoc,<- he,List.take_append_getElem hl]
theorem dp_get {rows:List Row}{x:Nat}(h:x<rows.length+2):(deps rows)[x]?=some (dp rows x):=by
 unfold dp
 rw[List.getD_eq_getElem?_getD]
 have:x<(deps rows).length:=by rw[deps_len];exact h
 rw[List.getElem?_eq_getElem this];rfl
end Qf
namespace Pr
open PySem L2 Qf
theorem list_ext {xs ys:List V}(hl:xs.length=ys.length) (h:∀(i:Nat) x,xs[i]?=some x->ys[i]?=some x):xs=ys:=by
 refine List.ext_getElem? λi=>?_
 cases e:xs[i]? with
 |some x=>exact (h i x e).symm
 |none=>
  have:xs.length<=i:=List.getElem?_eq_none_iff.mp e
  exact (List.getElem?_eq_none (by lia)).symm
section
variable {P:Program}{w:World}{K:PySem.W.Frag}{mg:Str->Option Value}{base:Heap}
theorem scDeps:FnScope ["rows", "depths", "row"] ["rows"] (defScope sDeps):=⟨rfl,rfl,rfl,by decide +kernel,rfl,by decide +kernel,by decide +kernel⟩
def spDeps:Sp:=λvs H Q _=>∃(p:Addr) (rows:List Row),vs=[.ref p]/\RowsAt H p rows/\RowsOk rows/\rows.length<=900/\∀H' D,Same H H'->H' D=some (.lst (vN (deps rows)))->Q (.ref D) H'
theorem ok_deps {f:Addr}{fd:FuncData}(F:Fun K "depths_of" "depths_of" sDeps f fd) (B:Blt mg):FnOk P w K mg base CX0 1 f fd ["rows"] spDeps:=by
 refine F.ok scDeps (λvs H Q E h=>?_) (λcdv A outer s H vs Q E hr h=>?_)
 ·obtain⟨p,rows,rfl,_⟩:=h
  rfl
 ·obtain⟨p,rows,rfl,hR,ok,hn,q⟩:=h
  refine⟨_,pss_cons (ps_set (i:=1) scDeps.nd rfl (by first|left;rfl|right;rfl) (pe_lst (qa0 qa4 (qa0 qa4 qa3))))
   (pss_cons (ps_for PassesOwn.never rfl (pi_tup (pv 0)) (pg_name (i:=2) scDeps.nd rfl (by first|left;rfl|right;rfl))
    (pss_one (ps_expr (pe_bm PySem.F.plainAttrs_list PySem.F.slot_list_append PySem.F.type_list_append mt_append (pv 1) (qa0 (pe_op op_add qa4 (pe_callB (call_maxL rfl) (by rfl) B.max PyProof.Rows.boot_max
     (qa0 (pe_compB ["rows", "depths", "row"] (defScope sDeps) rfl rfl rfl scDeps.nd (pi_tup (pv 2)) (λcl C fp s₀ H₀=>pe_ix (ixL K rfl) (pv 2) (pv 0) (λ_ _=>rfl))) qa3))) qa3)))))
   (pss_one (ps_ret (pv 1)))),?_⟩
  refine⟨(by show 2<=sizeLine;decide),λD hD=>?_⟩
  obtain⟨bs,hp,hlen,hrow⟩:=id hR
  have hp1:=keepU (u:=.lst [.int 0,.int 0]) hp hD
  have hlb:(bs.map V.ref).length=rows.length:=by rw[List.length_map];exact hlen
  refine⟨_,rfl,p,rfl,⟨_,SqT.of hp1⟩,for_tup (K:=K) (a:=p) (xs:=bs.map V.ref) (λi σ H2=>Same H H2/\H2 D=some (.lst (vN (deps (rows.take i))))/\∃v2,σ=[some (.ref p),some (.ref D),v2])
   ⟨sameU hD,qa1,none,rfl⟩ (λi σ H2 _ ⟨s2,_⟩=>SqT.of (s2 _ _ hp)) ?_ ?_⟩
  ·rintro i y σ H2 hy ⟨s2,hd2,v2,rfl⟩
   have hi:i<rows.length:=by rw[<- hlb];exact (gS_ hy).1
   rw[List.getElem?_map] at hy
   obtain⟨b,hb,rfl⟩:=Option.map_eq_some_iff.mp hy
   have hr1:rows[i]?=some rows[i]:=by simp[hi]
   have hbt:=s2 _ _ (hrow i b rows[i] hb hr1)
   have rk:=ok i _ hr1
   have tl:(rows.take i).length=i:=by rw[List.length_take];lia
   have hds:∀x,x<i+2->(deps (rows.take i))[x]?=some (dp (rows.take i) x):=λx hx=>dp_get (by rw[tl];exact hx)
   generalize rows[i]=r at hr1 hbt rk
   refine⟨_,rfl,.inl ⟨rfl,_,SqL.of hd2⟩,_,rfl,b,rfl,⟨_,SqT.of hbt⟩,λD2 hD2=>comp_walk hD2 (λj z _=>∃x,r[j]?=some x/\z=.int (dp (rows.take i) x:Nat)) (goes_tup (K:=K) hbt) (by rw[vN_len,rk.1];decide) (λ_ _ _ _ _ _ h=>h) ?_ ?_⟩
   ·intro j x H3 hj hx s3 Q' hq
    obtain⟨m,hm,rfl⟩:=vN_get hx
    have hlt:=rk.2 m (List.mem_of_getElem? hm)
    exact⟨_,rfl,_,rfl,D,_,(m:Int),.int (dp (rows.take i) m:Nat),rfl,rfl,SqL.of (s3 _ _ hd2),vN_atI (hds m hlt),hq _ _ (Same.refl _) ⟨m,hm,rfl⟩⟩
   ·intro ys H3 s3 hd3 hly hys
    have ey:ys=(r.map (dp (rows.take i))).map (λn:Nat=>V.int (n:Int)):=by
     refine list_ext (by rw[hly,vN_len,List.length_map,List.length_map]) λj x hx=>?_
     obtain⟨m,hm,rfl⟩:=hys j x hx
     rw[List.getElem?_map,List.getElem?_map,hm];rfl
    have e2:ys=((r.map (dp (rows.take i))).map (λn:Nat=>(n:Int))).map V.int:=ey.trans (vN_int _)
    have hne:r.map (dp (rows.take i))≠[]:=λz=>by
     have:=congrArg List.length z
     rw[List.length_map,rk.1] at this
     cases this
    refine⟨D2,(r.map (dp (rows.take i))).map (λn:Nat=>(n:Int)),rfl,e2▸hd3,λz=>hne (List.map_eq_nil_iff.mp z),_,_,rfl,rfl,?_⟩
    rw[best_all hne]
    have hd4:=s3 _ _ hd2
    refine⟨D,_,_,rfl,rfl,hd4,?_,?_⟩
    ·rw[vN_len,deps_len,tl];exact small1000 (by lia)
    ·have nD:∀b o,H b=some o->b≠D:=λb o e=>qa2 e hD
     refine⟨λb o e=>by rw[upd_ne (nD b o e)];exact s3 _ _ (s2 _ _ e),?_,_,rfl⟩
     rw[qa1,deps_take hr1]
     unfold vN
     rw[List.map_append]
     rfl
  ·rintro σ H2 ⟨s2,hd2,v2,rfl⟩
   refine⟨_,rfl,q H2 D s2 ?_⟩
   rw[hlb,List.take_length] at hd2
   exact hd2
end
end Pr
namespace Qf
theorem post_len {rows:List Row}{e:List Nat}(h:Post rows e):e.length<=rows.length:=by
 have:=h.nd.length_le_of_subset (l₂:=List.range rows.length) λp hp=>List.mem_range.mpr (h.lt p hp)
 simpa using this
theorem fold_post {rows:List Row}(ok:RowsOk rows){d p:Nat}{r:Row}(hp:rows[p]?=some r) (hd:dp rows (p+2)<=d+1):∀(l e:List Nat),(∀q∈l,q∈r)->Post rows e->Post rows (l.foldl (dfs rows d) e)
 |[],_,_,pe=>pe
 |q::l,e,hl,pe=>by
  have hq:=hl q List.mem_cons_self
  have hlt:=(ok p r hp).2 q hq
  have hpl:=(gS_ hp).1
  have hdq:dp rows q<=d:=by
   have:=le_mx (List.mem_map.mpr ⟨q,hq,rfl⟩:dp rows q∈r.map (dp rows))
   have e:=dp_at ok hp
   lia
  exact fold_post ok hp hd l _ (λz hz=>hl z (List.mem_cons_of_mem _ hz)) (dfs_post ok d e q pe (by lia) hdq).1
theorem dp_quarter {rows:List Row}(ok:RowsOk rows){d p:Nat}{r:Row}(hp:rows[p]?=some r) (hd:dp rows (p+2)<=d+1){q:Nat}(hq:q∈r):q<rows.length+2/\dp rows q<=d:=by
 have hlt:=(ok p r hp).2 q hq
 have hpl:=(gS_ hp).1
 have:=le_mx (List.mem_map.mpr ⟨q,hq,rfl⟩:dp rows q∈r.map (dp rows))
 have e:=dp_at ok hp
 exact⟨by lia,by lia⟩
theorem dp_pos {rows:List Row}(ok:RowsOk rows){x:Nat}(hx:x<rows.length+2) (h:dp rows x<=0):x<2:=by
 by_cases z:x<2
 ·exact z
 ·exfalso
  have hp:x-2<rows.length:=by lia
  have:=dp_at ok (getD_at hp)
  rw[show x-2+2=x by lia] at this
  lia
end Qf
namespace Pr
open PySem L2 Qf
theorem smallM {n:Nat}(h:n<=1191000):n<sizeLine:=Nat.lt_of_le_of_lt h (by decide)
def But (e:Addr) (H H':Hp):Prop:=∀b o,H b=some o->b≠e->H' b=some o
theorem But.refl (e:Addr) (H:Hp):But e H H:=λ_ _ h _=>h
theorem But.trans {e:Addr}{H H1 H2:Hp}(a:But e H H1) (b:But e H1 H2):But e H H2:=λc o h n=>b c o (a c o h n) n
theorem But.upd {e:Addr}{H:Hp}{o:HO}:But e H (upd H e o):=λb u h n=>by rw[upd_ne n];exact h
theorem But.of {e:Addr}{H H':Hp}(h:Same H H'):But e H H':=λb o q _=>h b o q
theorem But.tups {e:Addr}{H H':Hp}(h:But e H H'){o:HO}(he:H e=some o) (no:∀u,o≠.tup u):Tups H H':=λb u q=>h b _ q λz=>by
 subst z
 rw[q] at he
 exact no u (Option.some.inj he).symm
def eK (es:List Nat):List (Key×V):=es.map λp:Nat=>(Sum.inl (p:Int),V.bl true)
theorem eK_has (es:List Nat) (p:Nat):(valV (eK es) (Sum.inl (p:Int))).isSome=decide (p∈es):=by
 rw[<- valV_any]
 unfold eK
 rw[List.any_map]
 by_cases h:p∈es
 ·rw[decide_eq_true h,List.any_eq_true]
  exact⟨p,h,by simp⟩
 ·rw[decide_eq_false h,List.any_eq_false]
  intro q hq
  simp only[Function.comp,decide_eq_true_eq]
  intro z
  have:(q:Int)=p:=Sum.inl.inj z
  exact h (by rw[<- Int.ofNat.inj this];exact hq)
theorem eK_put {es:List Nat}{p:Nat}(h:p∉es):putK (eK es) (Sum.inl (p:Int)) (.bl true)=eK (es++[p]):=by
 unfold putK
 have:=eK_has es p
 rw[<- valV_any,decide_eq_false h] at this
 rw[if_neg (by rw[this];decide)]
 unfold eK
 rw[List.map_append];rfl
section
variable {P:Program}{w:World}{K:PySem.W.Frag}{mg:Str->Option Value}{base:Heap}
theorem scEnd:FnScope ["rows", "number", "ended", "quarter"] ["rows", "number", "ended"] (defScope sEnd):=⟨rfl,rfl,rfl,by decide +kernel,rfl,by decide +kernel,by decide +kernel⟩
def spEnd (d:Nat):Sp:=λvs H Q _=>∃(p e:Addr) (x:Nat) (rows:List Row) (es:List Nat),vs=[.ref p,.int (x:Nat),.ref e]/\RowsS H p rows/\RowsOk rows/\rows.length<=1190900/\x<rows.length+2/\dp rows x<=d/\Post rows es /\
 H e=some (.dK (eK es))/\∀H',But e H H'->H' e=some (.dK (eK (dfs rows d es x)))->Q .non H'
theorem ok_end {f:Addr}{fd:FuncData}(F:Fun K "end_rows" "end_rows" sEnd f fd) (T:Cst mg) (hE:mg "end_rows" = some (.ref f)) (bE:Binds K fd ["rows", "number", "ended"] []):∀d,FnOk P w K mg base CX0 (d+1) f fd ["rows", "number", "ended"] (spEnd d):=by
 obtain⟨tf,hf⟩:=T.first
 intro d
 induction d with
 |zero=>
  refine F.ok scEnd (λvs H Q E h=>?_) (λcdv A outer s H vs Q E hr h=>?_)
  ·obtain⟨p,e,x,rows,es,rfl,_⟩:=h
   rfl
  ·obtain⟨p,e,x,rows,es,rfl,hR,ok,hn,hx,hd,pe,he,q⟩:=h
   have hu:A.units+3+1<cLine:=by have:=hr.un;exact Nat.lt_of_le_of_lt (Nat.le_add_right _ _) (show A.units+3+1+199<cLine from by simpa using this)
   have x2:=dp_pos ok hx hd
   refine⟨_,pss_cons (ps_if (pw_or (pt_cmpR op_lt (pv 1) (pe_glob (v:=.int 2) (by rfl) hf ⟨_,rfl⟩) (nomark _)) (pw_or1 (pt_cmp (pc_din hu (pe_op op_sub (pv 1) (pe_glob (v:=.int 2) (by rfl) hf ⟨_,rfl⟩)) (pv 2))))).pt (pss_one ps_retN) pss_nil) pss_never,?_⟩
   refine⟨_,rfl,_,_,rfl,rfl,_,rfl,?_⟩
   rw[decide_eq_true (show (x:Int)<2 by lia)]
   exact iteT (iteT (q H (But.refl e H) he))
 |succ d ih=>
  refine F.ok scEnd (λvs H Q E h=>?_) (λcdv A outer s H vs Q E hr h=>?_)
  ·obtain⟨p,e,x,rows,es,rfl,_⟩:=h
   rfl
  ·obtain⟨p,e,x,rows,es,rfl,hR,ok,hn,hx,hd,pe,he,q⟩:=h
   have hu:A.units+3+1<cLine:=by have:=hr.un;exact Nat.lt_of_le_of_lt (Nat.le_add_right _ (16*(d+1)+199)) (show A.units+3+1+(16*(d+1)+199)<cLine from by
    have h2:A.units+3+16*(d+1)+200<cLine:=this
    lia)
   refine⟨_,pss_cons (ps_if (pw_or (pt_cmpR op_lt (pv 1) (pe_glob (v:=.int 2) (by rfl) hf ⟨_,rfl⟩) (nomark _)) (pw_or1 (pt_cmp (pc_din hu (pe_op op_sub (pv 1) (pe_glob (v:=.int 2) (by rfl) hf ⟨_,rfl⟩)) (pv 2))))).pt (pss_one ps_retN) pss_nil)
    (pss_cons (ps_for PassesOwn.never rfl (pi_tup (pe_ix (ixS K rfl) (pv 0) (pe_op op_sub (pv 1) (pe_glob (v:=.int 2) (by rfl) hf ⟨_,rfl⟩)) (λ_ _=>rfl))) (pg_name (i:=3) scEnd.nd rfl (Or.inl rfl))
     (pss_one (ps_expr (pe_call ih hr (by rfl) hE F.kp bE .nil pass0 (qa0 (pv 0) (qa0 (pv 3) (qa0 (pv 2) qa3)))))))
    (pss_one (ps_dput hu (pv 2) (pe_op op_sub (pv 1) (pe_glob (v:=.int 2) (by rfl) hf ⟨_,rfl⟩)) pe_bl (by rfl)))),?_⟩
   refine⟨_,rfl,_,_,rfl,rfl,_,rfl,?_⟩
   unfold dfs at q
   refine ite2 (λhc=>?_) (λhc=>?_)
   ·have x2:x<2:=by have:=of_decide_eq_true hc;lia
    rw[if_pos (.inl x2)] at q
    exact iteT (q H (But.refl e H) he)
   ·have x2:¬x<2:=λz=>hc (decide_eq_true (by lia))
    have ex:(x:Int)-2=((x-2:Nat):Int):=by lia
    have dg:DGet H e (.int ((x:Int)-2)) (valV (eK es) (Sum.inl ((x-2:Nat):Int))):=by rw[ex];exact DGet.k (k:=Sum.inl ((x-2:Nat):Int)) he
    refine⟨_,rfl,_,_,rfl,rfl,_,rfl,e,_,rfl,dg,_,rfl,?_⟩
    rw[eK_has]
    refine ite2 (λhm=>?_) (λhm=>?_)
    ·rw[if_pos (.inr (of_decide_eq_true hm))] at q
     exact q H (But.refl e H) he
    ·have hnm:x-2∉es:=λz=>hm (decide_eq_true z)
     rw[if_neg (by rintro (z|z);exact x2 z;exact hnm z)] at q
     have hlt:x-2<rows.length:=by lia
     have hg:=getD_at hlt
     generalize rows.getD (x-2) []=r at q hg
     obtain⟨bs,hp,hlen,hrow⟩:=id hR
     have hdx:dp rows (x-2+2)<=d+1:=by rw[show x-2+2=x by lia];exact hd
     have hbx:bs[x-2]?=some (bs[x-2]'(by lia)):=by simp[show x-2<bs.length by lia]
     have hbt:=hrow (x-2) _ r hbx hg
     have nbe:∀b∈bs,b≠e:=λb hb z=>by
      obtain⟨j,hj,ej⟩:=List.mem_iff_getElem.mp hb
      have:=hrow j b (rows[j]'(by lia)) (by rw[List.getElem?_eq_getElem hj,ej]) (List.getElem?_eq_getElem (by lia))
      rw[z,he] at this
      cases this
     have npe:p≠e:=λz=>by
      rw[z,he] at hp
      rcases hp with hp|hp<;>cases hp
     have hRm:∀H2,But e H H2->RowsS H2 p rows:=λH2 s2=>⟨bs,hp.imp (λh=>s2 _ _ h npe) (λh=>s2 _ _ h npe),hlen,λi b r e1 e2=>s2 _ _ (hrow i b r e1 e2) (nbe b (List.mem_of_getElem? e1))⟩
     have ixx:∀Q':VK,Q' (.ref (bs[x-2]'(by lia))) H->rIxS K (.ref p) (.int ((x:Int)-2)) H Q':=λQ' hQ=>by
      rcases hp with h|h
      ·exact .inr ⟨p,_,((x-2:Nat):Int),.ref (bs[x-2]'(by lia)),rfl,congrArg V.int ex,SqT.of h,atI_nat (by rw[List.getElem?_map,hbx];rfl),hQ⟩
      ·exact .inl ⟨p,_,((x-2:Nat):Int),.ref (bs[x-2]'(by lia)),rfl,congrArg V.int ex,SqL.of h,atI_nat (by rw[List.getElem?_map,hbx];rfl),hQ⟩
     refine⟨_,rfl,_,rfl,_,_,rfl,rfl,ixx _ ⟨_,rfl,⟨_,SqT.of hbt⟩,
      for_tup (K:=K) (xs:=vN r) (λi σ H2=>But e H H2/\H2 e=some (.dK (eK ((r.take i).foldl (dfs rows d) es)))/\∃v3,σ=[some (.ref p),some (.int (x:Nat)),some (.ref e),v3])
      ⟨But.refl e H,he,none,rfl⟩ (λi σ H2 _ ⟨s2,_⟩=>SqT.of (s2.tups he (λu z=>by cases z) _ _ hbt)) ?_ ?_⟩⟩
     ·rintro i y σ H2 hy ⟨s2,he2,v3,rfl⟩
      obtain⟨m,hm,rfl⟩:=vN_get hy
      have hq:=List.mem_of_getElem? hm
      obtain⟨b1,b2⟩:=dp_quarter ok hg hdx hq
      refine⟨_,rfl,_,rfl,_,rfl,p,e,m,rows,(r.take i).foldl (dfs rows d) es,rfl,hRm H2 s2,ok,hn,b1,b2,fold_post ok hg hdx _ es (λz hz=>List.mem_of_mem_take hz) pe,he2,λH3 s3 he3=>⟨s2.trans s3,?_,_,rfl⟩⟩
      have hml:=(gS_ hm).1
      have hme:=(gS_ hm).2
      rw[<- List.take_append_getElem hml,List.foldl_append,hme]
      exact he3
     ·rintro σ H2 ⟨s2,he2,v3,rfl⟩
      rw[vN_len,List.take_length] at he2
      have pf:=fold_post ok hg hdx r es (λz hz=>hz) pe
      have fin:=(dfs_post ok (d+1) es x pe hx hd).1
      unfold dfs at fin
      rw[if_neg (by rintro (z|z);exact x2 z;exact hnm z)] at fin
      have eg:rows.getD (x-2) []=r:=by
       rw[List.getD_eq_getElem?_getD,hg];rfl
      rw[eg] at fin
      have hni:x-2∉r.foldl (dfs rows d) es:=λz=>by
       have:=(List.nodup_append.mp fin.nd).2.2 (x-2) z (x-2) (by simp)
       exact this rfl
      have dq:DPut H2 e (.int ((x:Int)-2)) (.bl true) (upd H2 e (.dK (eK (r.foldl (dfs rows d) es++[x-2])))):=by
       rw[ex,<- eK_put hni]
       refine DPut.k (k:=Sum.inl ((x-2:Nat):Int)) he2 ?_
       unfold eK
       rw[List.length_map]
       exact smallM (by have:=post_len pf;lia)
      exact⟨_,rfl,_,rfl,_,_,rfl,rfl,e,_,rfl,dq,q _ (s2.trans But.upd) qa1⟩
theorem scPlaces:FnScope ["rows", "top", "ended"] ["rows", "top"] (defScope sPlaces):=⟨rfl,rfl,rfl,by decide +kernel,rfl,by decide +kernel,by decide +kernel⟩
def spPlaces (d:Nat):Sp:=λvs H Q _=>∃(p:Addr) (x:Nat) (rows:List Row),vs=[.ref p,.int (x:Nat)]/\RowsS H p rows/\RowsOk rows/\rows.length<=1190900/\x<rows.length+2/\dp rows x<=d /\
 ∀H' D,Same H H'->H' D=some (.lst (vN (dfs rows d [] x)))->Q (.ref D) H'
theorem ok_places {f fE:Addr}{fd fdE:FuncData}(F:Fun K "places_as_ended" "places_as_ended" sPlaces f fd) (B:Blt mg) (T:Cst mg) (hE:mg "end_rows" = some (.ref fE)) (FE:Fun K "end_rows" "end_rows" sEnd fE fdE) (bE:Binds K fdE ["rows", "number", "ended"] []) (d:Nat):FnOk P w K mg base CX0 (d+2) f fd ["rows", "top"] (spPlaces d):=by
 have GE:FnOk P w K mg base CX0 (d+1) fE fdE ["rows", "number", "ended"] (spEnd d):=ok_end FE T hE bE d
 refine F.ok scPlaces (λvs H Q E h=>?_) (λcdv A outer s H vs Q E hr h=>?_)
 ·obtain⟨p,x,rows,rfl,_⟩:=h
  rfl
 ·obtain⟨p,x,rows,rfl,hR,ok,hn,hx,hd,q⟩:=h
  refine⟨_,pss_cons (ps_set (i:=2) scPlaces.nd rfl (Or.inl rfl) pe_dict0)
   (pss_cons (ps_expr (pe_call GE hr (by rfl) hE FE.kp bE .nil pass0 (qa0 (pv 0) (qa0 (pv 1) (qa0 (pv 2) qa3)))))
   (pss_one (ps_ret (pe_callTy (call_listD rfl) (by rfl) B.list PyProof.Rows.boot_list (qa0 (pv 2) qa3))))),?_⟩
  refine λe he=>⟨_,rfl,_,rfl,_,rfl,p,e,x,rows,[],rfl,hR.same (sameU he),ok,hn,hx,hd,post_nil rows,qa1,λH2 s2 he2=>?_⟩
  refine⟨_,rfl,e,_,rfl,he2,λl hl=>q _ l ?_ ?_⟩
  ·intro b o z
   have nb:b≠e:=qa2 z he
   exact keepU (s2 b o (keepU z he) nb) hl
  ·rw[qa1]
   unfold eK vN
   rw[List.map_map]
   rfl
end
end Pr
namespace Qf
inductive Tr
 |z|o|nd (a b c d:Tr)
deriving DecidableEq
namespace Tr
def kids:Tr->List Tr
 |nd a b c d=>[a,b,c,d]
 |_=>[]
def dep:Tr->Nat
 |nd a b c d=>1+mx [dep a,dep b,dep c,dep d]
 |_=>0
def Red:Tr->Prop
 |nd a b c d=>¬(a=z/\b=z/\c=z/\d=z)/\¬(a=o/\b=o/\c=o/\d=o)/\Red a/\Red b/\Red c/\Red d
 |_=>True
def post:Tr->List Tr->List Tr
 |nd a b c d,e=>if nd a b c d∈e then e else post d (post c (post b (post a e)))++[nd a b c d]
 |_,e=>e
def In (L:List Tr) (t:Tr):Prop:=t=z\/t=o\/t∈L
theorem In.app {L s:List Tr}{t:Tr}(h:In L t):In (L++s) t:=h.imp id λh=>h.imp id λh=>List.mem_append_left _ h
structure Ord (L:List Tr):Prop where
 nd:L.Nodup
 ch:∀(i:Nat) t,L[i]?=some t->(∃a b c d,t=.nd a b c d)/\∀s∈kids t,s=z\/s=o\/∃j:Nat,j<i/\L[j]?=some s
theorem ord_nil:Ord []:=⟨List.nodup_nil,λi t h=>by simp at h⟩
theorem post_ext:∀(t:Tr) (e:List Tr),∃s,post t e=e++s
 |z,e=>⟨[],by simp[post]⟩
 |o,e=>⟨[],by simp[post]⟩
 |nd a b c d,e=>by
  unfold post
  split
  ·exact⟨[],by simp⟩
  ·obtain⟨s1,h1⟩:=post_ext a e
   obtain⟨s2,h2⟩:=post_ext b (post a e)
   obtain⟨s3,h3⟩:=post_ext c (post b (post a e))
   obtain⟨s4,h4⟩:=post_ext d (post c (post b (post a e)))
   exact⟨s1++s2++s3++s4++[nd a b c d],by rw[h4,h3,h2,h1];simp⟩
theorem In.post {L:List Tr}{t:Tr}(s:Tr) (h:In L t):In (post s L) t:=by
 obtain⟨u,e⟩:=post_ext s L
 rw[e];exact h.app
theorem post_mem:∀(t:Tr) (e:List Tr) (s:Tr),s∈post t e->s∈e\/sizeOf s<=sizeOf t
 |z,e,s,h=>.inl h
 |o,e,s,h=>.inl h
 |nd a b c d,e,s,h=>by
  unfold post at h
  split at h
  ·exact .inl h
  ·have sz:sizeOf (nd a b c d)=1+sizeOf a+sizeOf b+sizeOf c+sizeOf d:=by simp
   rcases List.mem_append.mp h with h|h
   ·rcases post_mem d _ s h with h|h
    ·rcases post_mem c _ s h with h|h
     ·rcases post_mem b _ s h with h|h
      ·rcases post_mem a _ s h with h|h
       ·exact .inl h
       ·exact .inr (by lia)
      ·exact .inr (by lia)
     ·exact .inr (by lia)
    ·exact .inr (by lia)
   ·have:s=nd a b c d:=by simpa using h
    rw[this]
    exact .inr (Nat.le_refl _)
theorem not_below {a b c d:Tr}{e:List Tr}(h:nd a b c d∉e):nd a b c d∉post d (post c (post b (post a e))):=λh2=>by
 have sz:sizeOf (nd a b c d)=1+sizeOf a+sizeOf b+sizeOf c+sizeOf d:=by simp
 rcases post_mem d _ _ h2 with h2|h2
 ·rcases post_mem c _ _ h2 with h2|h2
  ·rcases post_mem b _ _ h2 with h2|h2
   ·rcases post_mem a _ _ h2 with h2|h2
    ·exact h h2
    ·lia
   ·lia
  ·lia
 ·lia
theorem post_ord:∀(t:Tr) (e:List Tr),Ord e->Ord (post t e)/\In (post t e) t
 |z,e,h=>⟨h,.inl rfl⟩
 |o,e,h=>⟨h,.inr (.inl rfl)⟩
 |nd a b c d,e,h=>by
  unfold post
  split
  ·rename_i hm
   exact⟨h,.inr (.inr hm)⟩
  ·rename_i hm
   obtain⟨o1,i1⟩:=post_ord a e h
   obtain⟨o2,i2⟩:=post_ord b _ o1
   obtain⟨o3,i3⟩:=post_ord c _ o2
   obtain⟨o4,i4⟩:=post_ord d _ o3
   have i1:=((i1.post b).post c).post d
   have i2:=(i2.post c).post d
   have i3:=i3.post d
   have nb:=not_below hm
   generalize post d (post c (post b (post a e)))=L at o4 i1 i2 i3 i4 nb
   refine⟨⟨?_,?_⟩,.inr (.inr (by simp))⟩
   ·rw[List.nodup_append]
    exact⟨o4.nd,by simp,λx hx y hy e=>nb (by
     have:y=nd a b c d:=by simpa using hy
     rw[<- this,<- e];exact hx)⟩
   ·intro i t ht
    by_cases hi:i<L.length
    ·rw[List.getElem?_append_left hi] at ht
     obtain⟨h1,h2⟩:=o4.ch i t ht
     refine⟨h1,λs hs=>(h2 s hs).imp id λh=>h.imp id λ⟨j,hj,e⟩=>⟨j,hj,?_⟩⟩
     rw[List.getElem?_append_left (by lia)];exact e
    ·have hlen:=(gS_ ht).1
     rw[List.length_append] at hlen
     have hi2:i=L.length:=by simp at hlen;lia
     subst hi2
     have et:t=nd a b c d:=by simpa using ht.symm
     subst et
     refine⟨⟨a,b,c,d,rfl⟩,λs hs=>?_⟩
     have hin:In L s:=by
      have:s=a\/s=b\/s=c\/s=d:=by simpa [kids] using hs
      rcases this with rfl|rfl|rfl|rfl<;>assumption
     refine hin.imp id λh=>h.imp id λhm=>?_
     obtain⟨j,hj,e⟩:=List.mem_iff_getElem.mp hm
     exact⟨j,hj,by rw[List.getElem?_append_left hj,List.getElem?_eq_getElem hj,e]⟩
def name (L:List Tr):Tr->Nat
 |z=>0
 |o=>1
 |t=>L.idxOf t+2
def rowsOf (L:List Tr):List Row:=L.map λt=>(kids t).map (name L)
theorem name_nd (L:List Tr) (a b c d:Tr):name L (.nd a b c d)=L.idxOf (.nd a b c d)+2:=rfl
theorem name_at {L:List Tr}(h:Ord L){i:Nat}{t:Tr}(e:L[i]?=some t):name L t=i+2:=by
 obtain⟨⟨a,b,c,d,rfl⟩,_⟩:=h.ch i t e
 rw[name_nd]
 congr 1
 have hl:=(gS_ e).1
 have he:=(gS_ e).2
 rw[<- he]
 exact h.nd.idxOf_getElem i hl
theorem name_in {L:List Tr}(h:Ord L){t:Tr}(hi:In L t):(t=z/\name L t=0)\/(t=o/\name L t=1)\/∃i:Nat,L[i]?=some t/\name L t=i+2:=by
 rcases hi with rfl|rfl|hm
 ·exact .inl ⟨rfl,rfl⟩
 ·exact .inr (.inl ⟨rfl,rfl⟩)
 ·obtain⟨j,hj,e⟩:=List.mem_iff_getElem.mp hm
  have e':L[j]?=some t:=by rw[List.getElem?_eq_getElem hj,e]
  exact .inr (.inr ⟨j,e',name_at h e'⟩)
theorem name_inj {L:List Tr}(h:Ord L){s t:Tr}(hs:In L s) (ht:In L t) (e:name L s=name L t):s=t:=by
 rcases name_in h hs with ⟨rfl,e1⟩|⟨rfl,e1⟩|⟨i,e0,e1⟩
 ·rcases name_in h ht with ⟨rfl,e2⟩|⟨rfl,e2⟩|⟨j,e3,e2⟩
  ·rfl
  ·lia
  ·lia
 ·rcases name_in h ht with ⟨rfl,e2⟩|⟨rfl,e2⟩|⟨j,e3,e2⟩
  ·lia
  ·rfl
  ·lia
 ·rcases name_in h ht with ⟨rfl,e2⟩|⟨rfl,e2⟩|⟨j,e3,e2⟩
  ·lia
  ·lia
  ·have:i=j:=by lia
   subst this
   rw[e0] at e3
   exact Option.some.inj e3
theorem name_app {L s:List Tr}{t:Tr}(h:In L t) (hz:Ord L):name (L++s) t=name L t:=by
 rcases name_in hz h with ⟨rfl,_⟩|⟨rfl,_⟩|⟨i,e,_⟩
 ·rfl
 ·rfl
 ·obtain⟨⟨a,b,c,d,rfl⟩,_⟩:=hz.ch i t e
  rw[name_nd,name_nd,List.idxOf_append,if_pos (List.mem_of_getElem? e)]
theorem kid_in {L:List Tr}(h:Ord L){i:Nat}{t s:Tr}(e:L[i]?=some t) (hs:s∈kids t):In L s/\name L s<i+2:=by
 rcases (h.ch i t e).2 s hs with rfl|rfl|⟨j,hj,e2⟩
 ·exact⟨.inl rfl,by show 0<_;lia⟩
 ·exact⟨.inr (.inl rfl),by show 1<_;lia⟩
 ·exact⟨.inr (.inr (List.mem_of_getElem? e2)),by rw[name_at h e2];lia⟩
theorem rowsOf_len (L:List Tr):(rowsOf L).length=L.length:=by simp[rowsOf]
theorem rowsOf_at {L:List Tr}{i:Nat}{t:Tr}(e:L[i]?=some t):(rowsOf L)[i]?=some ((kids t).map (name L)):=by
 unfold rowsOf;rw[List.getElem?_map,e];rfl
theorem rowsOf_get {L:List Tr}{i:Nat}{r:Row}(e:(rowsOf L)[i]?=some r):∃t,L[i]?=some t/\r=(kids t).map (name L):=by
 unfold rowsOf at e
 rw[List.getElem?_map] at e
 obtain⟨t,h1,h2⟩:=Option.map_eq_some_iff.mp e
 exact⟨t,h1,h2.symm⟩
theorem rowsOf_ok {L:List Tr}(h:Ord L):RowsOk (rowsOf L):=λp r hp=>by
 obtain⟨t,ht,rfl⟩:=rowsOf_get hp
 obtain⟨⟨a,b,c,d,rfl⟩,_⟩:=h.ch p t ht
 refine⟨rfl,λx hx=>?_⟩
 obtain⟨s,hs,rfl⟩:=List.mem_map.mp hx
 exact (kid_in h ht hs).2
theorem map_name_inj {L:List Tr}(h:Ord L):∀{k l:List Tr},(∀s∈k,In L s)->(∀s∈l,In L s)->k.map (name L)=l.map (name L)->k=l
 |[],[],_,_,_=>rfl
 |[],_::_,_,_,e=>by simp at e
 |_::_,[],_,_,e=>by simp at e
 |a::k,b::l,h1,h2,e=>by
  simp only[List.map_cons,List.cons.injEq] at e
  rw[name_inj h (h1 a List.mem_cons_self) (h2 b List.mem_cons_self) e.1,map_name_inj h (λs hs=>h1 s (List.mem_cons_of_mem _ hs)) (λs hs=>h2 s (List.mem_cons_of_mem _ hs)) e.2]
theorem kids_inj {s t:Tr}(hs:∃a b c d,s=.nd a b c d) (ht:∃a b c d,t=.nd a b c d) (e:kids s=kids t):s=t:=by
 obtain⟨a,b,c,d,rfl⟩:=hs
 obtain⟨a',b',c',d',rfl⟩:=ht
 simpa [kids] using e
theorem rowsOf_nodup {L:List Tr}(h:Ord L):(rowsOf L).Nodup:=by
 rw[nd_iff]
 intro i j hij hj e
 rw[rowsOf_len] at hj
 have ei:L[i]?=some L[i]:=List.getElem?_eq_getElem (by lia)
 have ej:L[j]?=some L[j]:=List.getElem?_eq_getElem hj
 rw[rowsOf_at ei,rowsOf_at ej] at e
 have:=kids_inj (h.ch i _ ei).1 (h.ch j _ ej).1 (map_name_inj h (λs hs=>(kid_in h ei hs).1) (λs hs=>(kid_in h ej hs).1) (Option.some.inj e))
 have h2:=nd_iff.mp h.nd i j hij hj
 rw[ei,ej] at h2
 exact h2 (by rw[this])
end Tr
open Tr
def tr (rows:List Row):Nat->Nat->Tr
 |0,x=>if x=1 then .o else .z
 |d+1,x=>if x=0 then .z else if x=1 then .o else .nd (tr rows d ((rows.getD (x-2) []).getD 0 0)) (tr rows d ((rows.getD (x-2) []).getD 1 0)) (tr rows d ((rows.getD (x-2) []).getD 2 0)) (tr rows d ((rows.getD (x-2) []).getD 3 0))
theorem tr_zero (rows:List Row) (d:Nat):tr rows d 0=.z:=by cases d<;>rfl
theorem tr_one (rows:List Row) (d:Nat):tr rows d 1=.o:=by cases d<;>rfl
theorem four_of {r:Row}(h:r.length=4):∃a b c d,r=[a,b,c,d]:=by
 match r,h with
 |[a,b,c,d],_=>exact⟨a,b,c,d,rfl⟩
theorem tr_row {rows:List Row}{d p a b c e:Nat}(hp:rows[p]?=some [a,b,c,e]):tr rows (d+1) (p+2)=.nd (tr rows d a) (tr rows d b) (tr rows d c) (tr rows d e):=by
 have:rows.getD p []=[a,b,c,e]:=by rw[List.getD_eq_getElem?_getD,hp];rfl
 show (if p+2=0 then _ else if p+2=1 then _ else _)=_
 rw[if_neg (by lia),if_neg (by lia),show p+2-2=p by lia,this]
 rfl
theorem row_at {rows:List Row}(ok:RowsOk rows){x:Nat}(hx:x<rows.length+2) (h:¬x<2):∃p a b c d,x=p+2/\rows[p]?=some [a,b,c,d]:=by
 have hp:x-2<rows.length:=by lia
 have hg:rows[x-2]?=some rows[x-2]:=List.getElem?_eq_getElem hp
 obtain⟨a,b,c,d,e⟩:=four_of (ok _ _ hg).1
 exact⟨x-2,a,b,c,d,by lia,by rw[hg,e]⟩
theorem tr_stable {rows:List Row}(ok:RowsOk rows):∀(d d' x:Nat),dp rows x<=d->dp rows x<=d'->x<rows.length+2->tr rows d x=tr rows d' x:=by
 intro d
 induction d with
 |zero=>
  intro d' x h1 h2 hx
  have x2:=dp_pos ok hx h1
  match x,x2 with
  |0,_=>rw[tr_zero,tr_zero]
  |1,_=>rw[tr_one,tr_one]
 |succ d ih=>
  intro d' x h1 h2 hx
  by_cases x2:x<2
  ·match x,x2 with
   |0,_=>rw[tr_zero,tr_zero]
   |1,_=>rw[tr_one,tr_one]
  ·obtain⟨p,a,b,c,e,rfl,hp⟩:=row_at ok hx x2
   match d',h2 with
   |0,h2=>exact absurd (dp_pos ok hx h2) x2
   |d'+1,h2=>
    have q:=λy (hy:y∈[a,b,c,e])=>dp_quarter ok hp h1 hy
    have q':=λy (hy:y∈[a,b,c,e])=>dp_quarter ok hp h2 hy
    rw[tr_row hp,tr_row hp,ih d' a (q a (by simp)).2 (q' a (by simp)).2 (q a (by simp)).1,ih d' b (q b (by simp)).2 (q' b (by simp)).2 (q b (by simp)).1,ih d' c (q c (by simp)).2 (q' c (by simp)).2 (q c (by simp)).1,ih d' e (q e (by simp)).2 (q' e (by simp)).2 (q e (by simp)).1]
def T (rows:List Row) (x:Nat):Tr:=tr rows (dp rows x) x
theorem T_zero (rows:List Row):T rows 0=.z:=tr_zero _ _
theorem T_one (rows:List Row):T rows 1=.o:=tr_one _ _
theorem T_row {rows:List Row}(ok:RowsOk rows){p a b c e:Nat}(hp:rows[p]?=some [a,b,c,e]):T rows (p+2)=.nd (T rows a) (T rows b) (T rows c) (T rows e):=by
 have hpl:=(gS_ hp).1
 obtain⟨d,hd⟩:∃d,dp rows (p+2)=d+1:=⟨_,by rw[dp_at ok hp];exact Nat.add_comm _ _⟩
 have q:=λy (hy:y∈[a,b,c,e])=>dp_quarter ok hp (Nat.le_of_eq hd) hy
 unfold T
 rw[hd,tr_row hp,tr_stable ok d _ a (q a (by simp)).2 (Nat.le_refl _) (q a (by simp)).1,tr_stable ok d _ b (q b (by simp)).2 (Nat.le_refl _) (q b (by simp)).1,tr_stable ok d _ c (q c (by simp)).2 (Nat.le_refl _) (q c (by simp)).1,tr_stable ok d _ e (q e (by simp)).2 (Nat.le_refl _) (q e (by simp)).1]
theorem T_inj {rows:List Row}(ok:RowsOk rows) (nd:rows.Nodup):∀(d x y:Nat),dp rows x<=d->x<rows.length+2->y<rows.length+2->T rows x=T rows y->x=y:=by
 intro d
 have low:∀x y,x<2->y<rows.length+2->T rows x=T rows y->x=y:=λx y x2 hy e=>by
  by_cases y2:y<2
  ·match x,y,x2,y2 with
   |0,0,_,_=>rfl
   |1,1,_,_=>rfl
   |0,1,_,_=>rw[T_zero,T_one] at e;cases e
   |1,0,_,_=>rw[T_zero,T_one] at e;cases e
  ·obtain⟨p,a,b,c,f,rfl,hp⟩:=row_at ok hy y2
   rw[T_row ok hp] at e
   match x,x2 with
   |0,_=>rw[T_zero] at e;cases e
   |1,_=>rw[T_one] at e;cases e
 induction d with
 |zero=>exact λx y h hx hy e=>low x y (dp_pos ok hx h) hy e
 |succ d ih=>
  intro x y h hx hy e
  by_cases x2:x<2
  ·exact low x y x2 hy e
  ·by_cases y2:y<2
   ·exact (low y x y2 hx e.symm).symm
   ·obtain⟨p,a,b,c,f,rfl,hp⟩:=row_at ok hx x2
    obtain⟨p',a',b',c',f',rfl,hp'⟩:=row_at ok hy y2
    rw[T_row ok hp,T_row ok hp'] at e
    have q:=λy (hy:y∈[a,b,c,f])=>dp_quarter ok hp h hy
    have q':∀y∈[a',b',c',f'],y<rows.length+2:=λy hy=>by
     have:=(ok _ _ hp').2 y hy
     have:=(gS_ hp').1
     lia
    injection e with e1 e2 e3 e4
    have h1:=ih a a' (q a (by simp)).2 (q a (by simp)).1 (q' a' (by simp)) e1
    have h2:=ih b b' (q b (by simp)).2 (q b (by simp)).1 (q' b' (by simp)) e2
    have h3:=ih c c' (q c (by simp)).2 (q c (by simp)).1 (q' c' (by simp)) e3
    have h4:=ih f f' (q f (by simp)).2 (q f (by simp)).1 (q' f' (by simp)) e4
    subst h1 h2 h3 h4
    have:p=p':=by
     rcases Nat.lt_trichotomy p p' with z|z|z
     ·exact absurd (hp.trans hp'.symm) (nd_iff.mp nd p p' z (gS_ hp').1)
     ·exact z
     ·exact absurd (hp'.trans hp.symm) (nd_iff.mp nd p' p z (gS_ hp).1)
    rw[this]
def tau (rows:List Row) (p:Nat):Tr:=T rows (p+2)
theorem tau_mem {rows:List Row}(ok:RowsOk rows) (nd:rows.Nodup){e:List Nat}(pe:Post rows e){p:Nat}(hp:p<rows.length):tau rows p∈e.map (tau rows)<->p∈e:=by
 constructor
 ·intro h
  obtain⟨q,hq,e2⟩:=List.mem_map.mp h
  have:=T_inj ok nd _ (q+2) (p+2) (Nat.le_refl _) (by have:=pe.lt q hq;lia) (by lia) e2
  have:q=p:=by lia
  rw[<- this];exact hq
 ·exact λh=>List.mem_map.mpr ⟨p,h,rfl⟩
theorem dfs_tree {rows:List Row}(ok:RowsOk rows) (nd:rows.Nodup):∀(d:Nat) (e:List Nat) (x:Nat),Post rows e->x<rows.length+2->dp rows x<=d->(dfs rows d e x).map (tau rows)=post (T rows x) (e.map (tau rows)):=by
 intro d
 induction d with
 |zero=>
  intro e x pe hx hd
  have x2:=dp_pos ok hx hd
  match x,x2 with
  |0,_=>rw[T_zero];rfl
  |1,_=>rw[T_one];rfl
 |succ d ih=>
  intro e x pe hx hd
  by_cases x2:x<2
  ·have:dfs rows (d+1) e x=e:=by
    show (if x<2\/x-2∈e then e else _)=e
    rw[if_pos (.inl x2)]
   rw[this]
   match x,x2 with
   |0,_=>rw[T_zero];rfl
   |1,_=>rw[T_one];rfl
  ·obtain⟨p,a,b,c,f,rfl,hp⟩:=row_at ok hx x2
   have hpl:=(gS_ hp).1
   have hm:=tau_mem ok nd pe hpl
   have hg:rows.getD p []=[a,b,c,f]:=by rw[List.getD_eq_getElem?_getD,hp];rfl
   have et:tau rows p=.nd (T rows a) (T rows b) (T rows c) (T rows f):=T_row ok hp
   rw[T_row ok hp]
   show (if p+2<2\/p+2-2∈e then e else (rows.getD (p+2-2) []).foldl (dfs rows d) e++[p+2-2]).map (tau rows)=(if _∈e.map (tau rows) then _ else _)
   rw[show p+2-2=p by lia,<- et,hg]
   by_cases hpe:p∈e
   ·rw[if_pos (.inr hpe),if_pos (hm.mpr hpe)]
   ·rw[if_neg (by rintro (z|z);lia;exact hpe z),if_neg (λz=>hpe (hm.mp z))]
    have q:=λy (hy:y∈[a,b,c,f])=>dp_quarter ok hp hd hy
    obtain⟨qa,qa'⟩:=q a (by simp)
    obtain⟨qb,qb'⟩:=q b (by simp)
    obtain⟨qc,qc'⟩:=q c (by simp)
    obtain⟨qf,qf'⟩:=q f (by simp)
    have p1:=(dfs_post ok d e a pe qa qa').1
    have p2:=(dfs_post ok d _ b p1 qb qb').1
    have p3:=(dfs_post ok d _ c p2 qc qc').1
    show (dfs rows d (dfs rows d (dfs rows d (dfs rows d e a) b) c) f++[p]).map (tau rows)=_
    rw[List.map_append,ih _ f p3 qf qf',ih _ c p2 qc qc',ih _ b p1 qb qb',ih _ a pe qa qa',et]
    show _++[tau rows p]=_
    rw[et]
theorem canon_rows {n top:Nat}{rows:List Row}(c:Canon n top rows):rows=rowsOf (post (T rows top) [])/\top=name (post (T rows top) []) (T rows top):=by
 have h:=dfs_tree c.rok c.unlike n [] top (post_nil rows) c.inn c.deep
 rw[c.ends] at h
 have hord:Ord (post (T rows top) [])/\In (post (T rows top) []) (T rows top):=post_ord _ _ ord_nil
 have hpost:post (T rows top) []=(List.range rows.length).map (tau rows):=h.symm
 obtain⟨ho,hi⟩:=hord
 generalize post (T rows top) []=L at ho hi hpost
 have lat:∀p,p<rows.length->L[p]?=some (tau rows p):=λp hp=>by
  rw[hpost,List.getElem?_map,List.getElem?_range hp];rfl
 have hL:L.length=rows.length:=by rw[hpost];simp
 have nmq:∀q,q<rows.length+2->name L (T rows q)=q:=λq hq=>by
  by_cases q2:q<2
  ·match q,q2 with
   |0,_=>rw[T_zero];rfl
   |1,_=>rw[T_one];rfl
  ·have:=name_at ho (lat (q-2) (by lia))
   unfold tau at this
   rw[show q-2+2=q by lia] at this
   exact this
 refine⟨?_,(nmq top c.inn).symm⟩
 refine List.ext_getElem? λp=>?_
 by_cases hp:p<rows.length
 ·have hg:rows[p]?=some rows[p]:=List.getElem?_eq_getElem hp
  obtain⟨a,b,e,f,er⟩:=four_of (c.rok p _ hg).1
  rw[er] at hg
  rw[hg,rowsOf_at (lat p hp)]
  have et:tau rows p=.nd (T rows a) (T rows b) (T rows e) (T rows f):=T_row c.rok hg
  have lt:∀y∈[a,b,e,f],y<rows.length+2:=λy hy=>by
   have:=(c.rok _ _ hg).2 y hy
   lia
  rw[et]
  show some [a,b,e,f]=some [name L (T rows a),name L (T rows b),name L (T rows e),name L (T rows f)]
  rw[nmq a (lt a (by simp)),nmq b (lt b (by simp)),nmq e (lt e (by simp)),nmq f (lt f (by simp))]
 ·rw[List.getElem?_eq_none (by lia),List.getElem?_eq_none (by rw[rowsOf_len];lia)]
theorem dp_name {L:List Tr}(h:Ord L):∀t:Tr,In L t->dp (rowsOf L) (name L t)=dep t
 |.z,_=>dp_low (by decide:(0:Nat)<2)
 |.o,_=>dp_low (by decide:(1:Nat)<2)
 |.nd a b c d,hi=>by
  rcases name_in h hi with ⟨e,_⟩|⟨e,_⟩|⟨i,e,e2⟩
  ·cases e
  ·cases e
  ·have hk:=λs (hs:s∈kids (.nd a b c d))=>(kid_in h e hs).1
   rw[e2,dp_at (rowsOf_ok h) (rowsOf_at e)]
   show 1+mx [_,_,_,_]=1+mx [dep a,dep b,dep c,dep d]
   rw[dp_name h a (hk a (by simp[kids])),dp_name h b (hk b (by simp[kids])),dp_name h c (hk c (by simp[kids])),dp_name h d (hk d (by simp[kids]))]
theorem T_name {L:List Tr}(h:Ord L):∀t:Tr,In L t->T (rowsOf L) (name L t)=t
 |.z,_=>T_zero _
 |.o,_=>T_one _
 |.nd a b c d,hi=>by
  rcases name_in h hi with ⟨e,_⟩|⟨e,_⟩|⟨i,e,e2⟩
  ·cases e
  ·cases e
  ·have hk:=λs (hs:s∈kids (.nd a b c d))=>(kid_in h e hs).1
   rw[e2,T_row (rowsOf_ok h) (rowsOf_at e),T_name h a (hk a (by simp[kids])),T_name h b (hk b (by simp[kids])),T_name h c (hk c (by simp[kids])),T_name h d (hk d (by simp[kids]))]
def AllRed (L:List Tr):Prop:=∀t∈L,Red t
theorem name_zero {L:List Tr}{t:Tr}(h:name L t=0):t=.z:=by
 cases t with
 |z=>rfl
 |o=>cases h
 |nd a b c d=>rw[name_nd] at h;lia
theorem name_one {L:List Tr}{t:Tr}(h:name L t=1):t=.o:=by
 cases t with
 |z=>cases h
 |o=>rfl
 |nd a b c d=>rw[name_nd] at h;lia
theorem rowsOf_unplain {L:List Tr}(h:Ord L) (hr:AllRed L):∀r∈rowsOf L,¬Plain r:=λr hm=>by
 obtain⟨i,hi,e⟩:=List.mem_iff_getElem.mp hm
 obtain⟨t,ht,rfl⟩:=rowsOf_get (i:=i) (r:=r) (by rw[List.getElem?_eq_getElem hi,e])
 obtain⟨⟨a,b,c,d,rfl⟩,_⟩:=h.ch i t ht
 have rd:=hr _ (List.mem_of_getElem? ht)
 rintro (z|z)
 ·have z':[name L a,name L b,name L c,name L d]=[0,0,0,0]:=z
  simp only[List.cons.injEq,and_true] at z'
  exact rd.1 ⟨name_zero z'.1,name_zero z'.2.1,name_zero z'.2.2.1,name_zero z'.2.2.2⟩
 ·have z':[name L a,name L b,name L c,name L d]=[1,1,1,1]:=z
  simp only[List.cons.injEq,and_true] at z'
  exact rd.2.1 ⟨name_one z'.1,name_one z'.2.1,name_one z'.2.2.1,name_one z'.2.2.2⟩
end Qf
namespace Pr
open PySem L2 Qf
def TellAt (H:Hp) (t:Addr) (n top:Nat) (rows:List Row):Prop:=∃p:Addr,H t=some (.tup [.int (n:Nat),.int (top:Nat),.ref p])/\RowsAt H p rows
theorem all_yes {ys:List V}(h:∀(i:Nat) y,ys[i]?=some y->y=.bl true):ys=(List.replicate ys.length true).map V.bl:=by
 refine list_ext (by simp) λi x hx=>?_
 have hi:=(gS_ hx).1
 rw[h i x hx]
 simp[hi]
theorem rep_all (k:Nat):(List.replicate k true).all id=true:=by
 rw[List.all_eq_true]
 intro x hx
 exact (List.mem_replicate.mp hx).2
section
variable {P:Program}{w:World}{K:PySem.W.Frag}{mg:Str->Option Value}{base:Heap}
theorem scRow:FnScope ["thing", "before"] ["thing", "before"] (defScope sRow):=⟨rfl,rfl,rfl,by decide +kernel,rfl,by decide +kernel,by decide +kernel⟩
def spRow:Sp:=λvs H Q _=>∃(b:Addr) (i:Nat) (r:Row),vs=[.ref b,.int (i:Nat)]/\H b=some (.tup (vN r))/\RowOk i r/\∀H',Same H H'->Q (.bl true) H'
theorem ok_row {f fN:Addr}{fd fdN:FuncData}(F:Fun K "is_row" "is_row" sRow f fd) (B:Blt mg) (hN:mg "is_number" = some (.ref fN)) (FN:Fun K "is_number" "is_number" sNumber fN fdN) (bN:Binds K fdN ["thing", "many"] []) (GN:FnOk P w K mg base CX0 2 fN fdN ["thing", "many"] spNumber):FnOk P w K mg base CX0 3 f fd ["thing", "before"] spRow:=by
 refine F.ok scRow (λvs H Q E h=>?_) (λcdv A outer s H vs Q E hr h=>?_)
 ·obtain⟨b,i,r,rfl,_⟩:=h
  rfl
 ·obtain⟨b,i,r,rfl,hb,rk,q⟩:=h
  refine⟨_,pss_cons (ps_if (pw_or (pt_not (pt_val (pe_callB call_isi (by rfl) B.isi PyProof.Rows.boot_isinstance (qa0 (pv 0) (qa0 (pe_bltn (v:=.ty "tuple") (by rfl) B.tuple PyProof.Rows.boot_tuple rfl) qa3)))))
    (pw_or1 (pt_cmpR op_ne (pe_callB call_len_seq (by rfl) B.len PySem.boot_len (qa0 (pv 0) qa3)) qa4 (nomark _)))).pt (pss_one (ps_ret pe_bl)) pss_nil)
   (pss_one (ps_ret (pe_callB (call_allL rfl) (by rfl) B.all PyProof.Rows.boot_all (qa0 (pe_compB ["thing", "before"] (defScope sRow) rfl rfl rfl scRow.nd (piT K rfl (pv 0)) (λcl C fp s₀ H₀=>pe_call GN hr (by rfl) hN FN.kp bN .nil pass0 (qa0 (pv 0) (qa0 (pv 2) qa3)))) qa3)))),?_⟩
  refine⟨_,rfl,_,_,_,_,true,rfl,rfl,.inl (.tup hb),rfl,_,rfl,iteF ⟨_,rfl,b,_,rfl,.inr (SqT.of hb),rfl,_,rfl,iteNS (by rw[vN_len,rk.1];rfl) ?_⟩⟩
  refine⟨_,rfl,b,rfl,⟨_,SqT.of hb⟩,λD hD=>comp_walk hD (λ_ z _=>z=.bl true) (goes_tup (K:=K) hb) (by rw[vN_len,rk.1];decide) (λ_ _ _ _ _ _ h=>h) ?_ ?_⟩
  ·intro j x H3 hj hx s3 Q' hq
   obtain⟨m,hm,rfl⟩:=vN_get hx
   exact⟨_,rfl,_,rfl,m,i,rfl,rk.2 m (List.mem_of_getElem? hm),hq _ _ (Same.refl _) rfl⟩
  ·intro ys H3 s3 hd3 hly hys
   have e:=all_yes hys
   refine⟨D,List.replicate ys.length true,rfl,by rw[<- e];exact hd3,?_⟩
   rw[rep_all]
   exact q H3 s3
theorem scRows:FnScope ["thing"] ["thing"] (defScope sRows):=⟨rfl,rfl,rfl,by decide +kernel,rfl,by decide +kernel,by decide +kernel⟩
def spRows:Sp:=λvs H Q _=>∃(p:Addr) (rows:List Row),vs=[.ref p]/\RowsAt H p rows/\RowsOk rows/\rows.length<=900/\∀H',Same H H'->Q (.bl true) H'
theorem ok_rows {f fR:Addr}{fd fdR:FuncData}(F:Fun K "are_rows" "are_rows" sRows f fd) (B:Blt mg) (hR:mg "is_row" = some (.ref fR)) (FR:Fun K "is_row" "is_row" sRow fR fdR) (bR:Binds K fdR ["thing", "before"] []) (GR:FnOk P w K mg base CX0 3 fR fdR ["thing", "before"] spRow):FnOk P w K mg base CX0 4 f fd ["thing"] spRows:=by
 refine F.ok scRows (λvs H Q E h=>?_) (λcdv A outer s H vs Q E hr h=>?_)
 ·obtain⟨p,rows,rfl,_⟩:=h
  rfl
 ·obtain⟨p,rows,rfl,hRows,ok,hn,q⟩:=h
  obtain⟨bs,hp,hlen,hrow⟩:=id hRows
  refine⟨_,pss_one (ps_ret (pe_and (pe_callB call_isi (by rfl) B.isi PyProof.Rows.boot_isinstance (qa0 (pv 0) (qa0 (pe_bltn (v:=.ty "tuple") (by rfl) B.tuple PyProof.Rows.boot_tuple rfl) qa3)))
   (pe_one (pe_callB (call_allL rfl) (by rfl) B.all PyProof.Rows.boot_all (qa0 (pe_comp2 ["thing"] (defScope sRows) rfl rfl rfl scRows.nd (pi_enumT (by rfl) B.enum (qa0 (pv 0) qa3)) (λcl C fp s₀ H₀=>pe_call GR hr (by rfl) hR FR.kp bR .nil pass0 (qa0 (pv 1) (qa0 (pv 0) qa3)))) qa3))))),?_⟩
  refine⟨_,rfl,_,_,_,_,true,rfl,rfl,.inl (.tup hp),rfl,_,rfl,iteT ?_⟩
  have hlb:(bs.map V.ref).length=rows.length:=by rw[List.length_map];exact hlen
  refine⟨_,rfl,p,rfl,⟨_,SqT.of hp⟩,λD hD=>compG_walk hD (λ_=>true) (λ_=>.bl true) (goes_enum (K:=K) hp) (by rw[hlb];exact small1000 (by lia)) ?_ ?_⟩
  ·rintro i x H2 hi ⟨t,y,rfl,hy,ht⟩ s2 os ho Q1 Q2 q1 q2
   match os,ho with
   |[o1,o2],_=>
    have hi2:i<rows.length:=by rw[<- hlb];exact hi
    rw[List.getElem?_map] at hy
    obtain⟨b,hb,rfl⟩:=Option.map_eq_some_iff.mp hy
    have hr1:rows[i]?=some rows[i]:=by simp[hi2]
    refine⟨t,_,rfl,SqT.of ht,rfl,_,_,rfl,_,_,rfl,rfl,?_⟩
    refine iteT (B:=Q1 H2) ?_
    exact⟨_,rfl,_,rfl,b,i,rows[i],rfl,s2 _ _ (hrow i b _ hb hr1),ok i _ hr1,λH3 s3=>q2 rfl H3 s3⟩
  ·intro H2 s2 hd2
   refine⟨D,List.replicate (bs.map V.ref).length true,rfl,?_,?_⟩
   ·rw[hd2]
    congr 2
    rw[List.map_replicate,List.filter_eq_self.mpr (λ_ _=>rfl)]
    refine list_ext (by simp) λi x hx=>?_
    have hi:=(gS_ hx).1
    rw[List.getElem?_map] at hx
    obtain⟨_,_,rfl⟩:=Option.map_eq_some_iff.mp hx
    simp at hi
    rw[List.length_map,List.getElem?_replicate,if_pos hi]
   ·rw[rep_all]
    exact q H2 s2
theorem scTelling:FnScope ["thing", "n", "top", "rows"] ["thing"] (defScope sTelling):=⟨rfl,rfl,rfl,by decide +kernel,rfl,by decide +kernel,by decide +kernel⟩
def spTelling:Sp:=λvs H Q _=>∃(t:Addr) (n tp:Nat) (rows:List Row),vs=[.ref t]/\TellAt H t n tp rows/\n<=12/\RowsOk rows/\rows.length<=900/\tp<rows.length+2/\dp rows tp<=n/\∀H',Same H H'->Q (.bl true) H'
theorem ok_telling {f fS fR fN fD:Addr}{fd fdS fdR fdN fdD:FuncData}(F:Fun K "is_telling" "is_telling" sTelling f fd) (B:Blt mg)
  (hS:mg "is_size" = some (.ref fS)) (FS:Fun K "is_size" "is_size" sSize fS fdS) (bS:Binds K fdS ["thing"] []) (GS:FnOk P w K mg base CX0 2 fS fdS ["thing"] spSize)
  (hR:mg "are_rows" = some (.ref fR)) (FR:Fun K "are_rows" "are_rows" sRows fR fdR) (bR:Binds K fdR ["thing"] []) (GR:FnOk P w K mg base CX0 4 fR fdR ["thing"] spRows)
  (hN:mg "is_number" = some (.ref fN)) (FN:Fun K "is_number" "is_number" sNumber fN fdN) (bN:Binds K fdN ["thing", "many"] []) (GN:FnOk P w K mg base CX0 2 fN fdN ["thing", "many"] spNumber)
  (hD:mg "depths_of" = some (.ref fD)) (FD:Fun K "depths_of" "depths_of" sDeps fD fdD) (bD:Binds K fdD ["rows"] []):FnOk P w K mg base CX0 5 f fd ["thing"] spTelling:=by
 have GD:FnOk P w K mg base CX0 1 fD fdD ["rows"] spDeps:=ok_deps FD B
 refine F.ok scTelling (λvs H Q E h=>?_) (λcdv A outer s H vs Q E hr h=>?_)
 ·obtain⟨t,n,tp,rows,rfl,_⟩:=h
  rfl
 ·obtain⟨t,n,tp,rows,rfl,⟨p,ht,hRows⟩,hn,ok,hl,htp,hd,q⟩:=h
  have hr1:Room 1 _:=hr.mono (by decide)
  have hr2:Room 2 _:=hr.mono (by decide)
  refine⟨_,pss_cons (ps_if (pw_or (pt_not (pt_val (pe_callB call_isi (by rfl) B.isi PyProof.Rows.boot_isinstance (qa0 (pv 0) (qa0 (pe_bltn (v:=.ty "tuple") (by rfl) B.tuple PyProof.Rows.boot_tuple rfl) qa3)))))
    (pw_or1 (pt_cmpR op_ne (pe_callB call_len_seq (by rfl) B.len PySem.boot_len (qa0 (pv 0) qa3)) qa4 (nomark _)))).pt (pss_one (ps_ret pe_bl)) pss_nil)
   (pss_cons (ps_asg (pv 0) (pg_tup rfl (pgs_cons (pg_name (i:=1) scTelling.nd rfl (Or.inl rfl)) (pgs_cons (pg_name (i:=2) scTelling.nd rfl (Or.inl rfl)) (pgs_cons (pg_name (i:=3) scTelling.nd rfl (Or.inl rfl)) pgs_nil)))))
   (pss_cons (ps_if (pw_or (pt_not (pt_val (pe_call GS hr2 (by rfl) hS FS.kp bS .nil pass0 (qa0 (pv 1) qa3))))
    (pw_or (pt_not (pt_val (pe_call GR hr (by rfl) hR FR.kp bR .nil pass0 (qa0 (pv 3) qa3))))
    (pw_or1 (pt_not (pt_val (pe_call GN hr2 (by rfl) hN FN.kp bN .nil pass0 (qa0 (pv 2) (qa0 (pe_callB call_len_seq (by rfl) B.len PySem.boot_len (qa0 (pv 3) qa3)) qa3)))))))).pt (pss_one (ps_ret pe_bl)) pss_nil)
   (pss_one (ps_ret (pe_cmpR op_le (pe_ix ix_list (pe_call GD hr1 (by rfl) hD FD.kp bD .nil pass0 (qa0 (pv 3) qa3)) (pv 2) (λ_ _=>rfl)) (pv 1) (nomark _)))))),?_⟩
  refine⟨_,rfl,_,_,_,_,true,rfl,rfl,.inl (.tup ht),rfl,_,rfl,iteF ⟨_,rfl,t,_,rfl,.inr (SqT.of ht),rfl,_,rfl,iteF ?_⟩⟩
  refine⟨_,rfl,t,_,rfl,SqT.of ht,rfl,_,_,rfl,_,_,rfl,_,_,rfl,rfl,?_⟩
  refine⟨_,rfl,n,rfl,hn,_,rfl,iteF ⟨_,rfl,p,rows,rfl,hRows,ok,hl,λH2 s2=>⟨_,rfl,iteF ?_⟩⟩⟩
  obtain⟨bs,hp,hlen,hrow⟩:=id hRows
  refine⟨_,rfl,_,rfl,p,_,rfl,.inr (SqT.of (s2 _ _ hp)),tp,rows.length,by rw[List.length_map,hlen];rfl,htp,_,rfl,iteF ?_⟩
  refine⟨_,rfl,p,rows,rfl,hRows.same s2,ok,hl,λH3 D s3 hd3=>?_⟩
  refine⟨_,rfl,D,_,(tp:Int),.int (dp rows tp:Nat),rfl,rfl,SqL.of hd3,vN_atI (dp_get htp),_,rfl,_,_,rfl,rfl,?_⟩
  show Q (V.bl (decide ((dp rows tp:Int)<=(n:Int)))) H3
  rw[decide_eq_true (by lia)]
  exact q H3 (s2.trans s3)
end
def ShapeAt (H:Hp) (t:Addr) (n top:Nat) (rows:List Row):Prop:=TellAt H t n top rows/\Canon n top rows/\rows.length<=900
def ShapeB (H:Hp) (t:Addr) (n top:Nat) (rows:List Row):Prop:=TellAt H t n top rows/\Canon n top rows/\rows.length<=1190900
def keyN (r:List Nat):List Key:=r.map λn:Nat=>Sum.inl (n:Int)
theorem keyN_V (r:List Nat):(keyN r).map kV=vN r:=by unfold keyN vN;rw[List.map_map];rfl
theorem keyN_inj {l m:List Nat}(h:keyN l=keyN m):l=m:=by
 have:vN l=vN m:=by rw[<- keyN_V,<- keyN_V,h]
 rw[vN_int,vN_int] at this
 exact int_inj ((List.map_inj_right (λ_ _ z=>V.int.inj z)).mp this)
theorem keys_nodup {rows:List Row}(h:rows.Nodup):(rows.map keyN).Nodup:=by
 rw[nd_iff] at h ⊢
 intro i j hij hj z
 rw[List.length_map] at hj
 refine h i j hij hj ?_
 rw[List.getElem?_map,List.getElem?_map,List.getElem?_eq_getElem (by lia),List.getElem?_eq_getElem hj] at z
 rw[List.getElem?_eq_getElem (by lia),List.getElem?_eq_getElem hj]
 congr 1
 exact keyN_inj (Option.some.inj z)
theorem depth_ints (ns:List Int):PyData.depthAll (ns.map PyData.int)<=1:=by
 induction ns with
 |nil=>simp[PyData.depthAll]
 |cons a ns ih=>
  rw[List.map_cons]
  simp only[PyData.depthAll,PyData.depth]
  lia
theorem dL_depth (ns:List Int):(dL ns).depth<=2:=by
 have:=depth_ints ns
 unfold dL
 simp only[PyData.depth]
 lia
section
variable {P:Program}{w:World}{K:PySem.W.Frag}{mg:Str->Option Value}{base:Heap}
theorem scShape:FnScope ["thing", "top", "rows"] ["thing"] (defScope sShape):=⟨rfl,rfl,rfl,by decide +kernel,rfl,by decide +kernel,by decide +kernel⟩
def spShape:Sp:=λvs H Q _=>∃(t:Addr) (n tp:Nat) (rows:List Row),vs=[.ref t]/\ShapeAt H t n tp rows/\∀H',Same H H'->Q (.bl true) H'
theorem ok_shape {f fT fP fA:Addr}{fd fdT fdP fdA:FuncData}(F:Fun K "is_shape" "is_shape" sShape f fd) (B:Blt mg) (T:Cst mg)
  (hT:mg "is_telling" = some (.ref fT)) (FT:Fun K "is_telling" "is_telling" sTelling fT fdT) (bT:Binds K fdT ["thing"] []) (GT:FnOk P w K mg base CX0 5 fT fdT ["thing"] spTelling)
  (hP:mg "is_plain" = some (.ref fP)) (FP:Fun K "is_plain" "is_plain" sPlain fP fdP) (bP:Binds K fdP ["row"] [])
  (hA:mg "places_as_ended" = some (.ref fA)) (FA:Fun K "places_as_ended" "places_as_ended" sPlaces fA fdA) (bA:Binds K fdA ["rows", "top"] []) (GA:∀d,FnOk P w K mg base CX0 (d+2) fA fdA ["rows", "top"] (spPlaces d)):FnOk P w K mg base CX0 15 f fd ["thing"] spShape:=by
 have GP:FnOk P w K mg base CX0 2 fP fdP ["row"] spPlain:=ok_plain FP T
 refine F.ok scShape (λvs H Q E h=>?_) (λcdv A outer s H vs Q E hr h=>?_)
 ·obtain⟨t,n,tp,rows,rfl,_⟩:=h
  rfl
 ·obtain⟨t,n,tp,rows,rfl,⟨hTell,cn,hl⟩,q⟩:=h
  obtain⟨p,ht,hRows⟩:=id hTell
  obtain⟨bs,hp,hlen,hrow⟩:=id hRows
  have hr2:Room 2 _:=hr.mono (by decide)
  have hr5:Room 5 _:=hr.mono (by decide)
  have hrA:Room (n+2) _:=hr.mono (by have:=cn.size;lia)
  refine⟨_,pss_cons (ps_if (pt_not (pt_val (pe_call GT hr5 (by rfl) hT FT.kp bT .nil pass0 (qa0 (pv 0) qa3)))) (pss_one (ps_ret pe_bl)) pss_nil)
   (pss_cons (ps_asg (pe_slice sl_tup (pv 0) (po_some qa4) po_none) (pg_tup rfl (pgs_cons (pg_name (i:=1) scShape.nd rfl (Or.inl rfl)) (pgs_cons (pg_name (i:=2) scShape.nd rfl (Or.inl rfl)) pgs_nil))))
   (pss_cons (ps_if (PW.pt (pw_or (pt_val (pe_callB (call_anyL rfl) (by rfl) B.any PyProof.Rows.boot_any (qa0 (pe_compB ["thing", "top", "rows"] (defScope sShape) rfl rfl rfl scShape.nd (piT K rfl (pv 2)) (λcl C fp s₀ H₀=>pe_call GP hr2 (by rfl) hP FP.kp bP .nil pass0 (qa0 (pv 0) qa3))) qa3)))
    (pw_or1 (pt_cmpR op_lt (pe_callB call_lenSet (by rfl) B.len PySem.boot_len (qa0 (pe_callTy (call_setT rfl hr) (by rfl) B.set PyProof.Rows.boot_set (qa0 (pv 2) qa3)) qa3)) (pe_callB call_len_seq (by rfl) B.len PySem.boot_len (qa0 (pv 2) qa3)) (nomark _))))) (pss_one (ps_ret pe_bl)) pss_nil)
   (pss_one (ps_ret (pe_cmpR (op_eqD hr) (pe_call (GA n) hrA (by rfl) hA FA.kp bA .nil pass0 (qa0 (pv 2) (qa0 (pv 1) qa3)))
    (pe_callTy (call_listR rfl) (by rfl) B.list PyProof.Rows.boot_list (qa0 (pe_callTy call_range1V (by rfl) B.range PyProof.Rows.boot_range (qa0 (pe_callB call_len_seq (by rfl) B.len PySem.boot_len (qa0 (pv 2) qa3)) qa3)) qa3)) (nomark _)))))),?_⟩
  refine⟨_,rfl,t,n,tp,rows,rfl,hTell,cn.size,cn.rok,hl,cn.inn,cn.deep,λH1 s1=>⟨_,rfl,iteF ?_⟩⟩
  have ht1:=s1 _ _ ht
  refine⟨_,rfl,_,rfl,t,_,rfl,SqT.of ht1,(λz=>absurd (show HT.sIx 3 0 (some 1)=0 from z.1) (by decide)),λu hu=>?_⟩
  refine⟨u,_,rfl,SqT.of qa1,rfl,_,_,rfl,_,_,rfl,rfl,?_⟩
  have sA:Same H (upd H1 u (.tup [.int (tp:Nat),.ref p])):=s1.trans (sameU hu)
  refine (λ(go:∀H2,Same H H2->_)=>go _ sA) ?_
  intro H2 s2
  have hp2:=s2 _ _ hp
  have hlb:(bs.map V.ref).length=rows.length:=by rw[List.length_map];exact hlen
  refine⟨_,rfl,p,rfl,⟨_,SqT.of hp2⟩,λD hD=>comp_walk hD (λ_ z _=>z=.bl false) (goes_tup (K:=K) hp2) (by rw[hlb];exact small1000 (by lia)) (λ_ _ _ _ _ _ h=>h) ?_ ?_⟩
  ·intro j x H3 hj hx s3 Q' hq
   have hj2:j<rows.length:=by rw[<- hlb];exact hj
   rw[List.getElem?_map] at hx
   obtain⟨b,hb,rfl⟩:=Option.map_eq_some_iff.mp hx
   have hr1:rows[j]?=some rows[j]:=by simp[hj2]
   refine⟨_,rfl,b,rows[j],rfl,s3 _ _ (s2 _ _ (hrow j b _ hb hr1)),(cn.rok j _ hr1).1,λH4 s4=>hq _ _ s4 ?_⟩
   rw[decide_eq_false (cn.unplain _ (List.getElem_mem hj2))]
  ·intro ys H3 s3 hd3 hly hys
   have e:ys=(List.replicate ys.length false).map V.bl:=by
    refine list_ext (by simp) λi x hx=>?_
    have hi:=(gS_ hx).1
    rw[hys i x hx]
    simp[hi]
   have s23:Same H H3:=s2.trans s3
   refine⟨D,List.replicate ys.length false,rfl,by rw[<- e];exact hd3,_,rfl,?_⟩
   have na:(List.replicate ys.length false).any id=false:=by
    rw[List.any_eq_false]
    intro x hx
    rw[(List.mem_replicate.mp hx).2]
    decide
   rw[na]
   refine iteF ?_
   have hp3:=s23 _ _ hp
   refine⟨_,rfl,p,bs,rows.map keyN,rfl,hp3,by rw[List.length_map];exact hlen,λi b ks e1 e2=>?_,keys_nodup cn.unlike,by rw[List.length_map];lia,λr hr'=>?_⟩
   ·rw[List.getElem?_map] at e2
    obtain⟨r0,hr0,rfl⟩:=Option.map_eq_some_iff.mp e2
    rw[keyN_V]
    exact s23 _ _ (hrow i b r0 e1 hr0)
   ·have s4:Same H (upd H3 r (.ext (SetN r (rows.map keyN).length))):=s23.trans (sameU hr')
    have hp4:=s4 _ _ hp
    refine⟨r,_,rfl,qa1,by rw[List.length_map];lia,_,rfl,p,_,rfl,.inr (SqT.of hp4),_,_,rfl,rfl,_,rfl,?_⟩
    have nl:decide (((rows.map keyN).length:Int)<((bs.map V.ref).length:Int))=false:=decide_eq_false (by rw[hlb,List.length_map];lia)
    rw[nl]
    refine iteF ?_
    refine (λ(go:∀H5,Same H H5->_)=>go _ s4) ?_
    intro H5 s5
    refine⟨_,rfl,_,rfl,p,tp,rows,rfl,(hRows.same s5).s,cn.rok,(Nat.le_trans hl (by decide)),cn.inn,cn.deep,λH6 D6 s6 hd6=>?_⟩
    have hp6:=s6 _ _ (s5 _ _ hp)
    refine⟨_,rfl,p,_,rfl,.inr (SqT.of hp6),_,rfl,λg hg=>⟨g,rows.length,rfl,by rw[qa1,hlb],by lia,λl hl'=>?_⟩⟩
    have hd7:=keepU (u:=.lst ((List.range rows.length).map λ(i:Nat)=>V.int (i:Int))) (keepU (u:=.rng 0 ((bs.map V.ref).length:Int)) hd6 hg) hl'
    rw[cn.ends,vN_int] at hd7
    have e9:((List.range rows.length).map λ(i:Nat)=>V.int (i:Int))=((List.range rows.length).map λn:Nat=>(n:Int)).map V.int:=vN_int _
    refine⟨dL ((List.range rows.length).map λn:Nat=>(n:Int)),dL ((List.range rows.length).map λn:Nat=>(n:Int)),.lst hd7 (DatasAt.ints _),.lst qa1 (e9▸DatasAt.ints _),dL_lay _,dL_lay _,?_,?_⟩
    ·exact Nat.le_trans (dL_depth _) (by decide)
    ·rw[dL_eqv,decide_eq_true rfl]
     exact q _ (s5.trans (s6.trans ((sameU hg).trans (sameU hl'))))
theorem scWantS:FnScope ["shape"] ["shape"] (defScope sWantS):=⟨rfl,rfl,rfl,by decide +kernel,rfl,by decide +kernel,by decide +kernel⟩
def spWantS:Sp:=λvs H Q _=>∃(t:Addr) (n tp:Nat) (rows:List Row),vs=[.ref t]/\ShapeAt H t n tp rows/\∀H',Same H H'->Q .non H'
theorem ok_wantS {f fS:Addr}{fd fdS:FuncData}(F:Fun K "want_shape" "want_shape" sWantS f fd)
  (hS:mg "is_shape" = some (.ref fS)) (FS:Fun K "is_shape" "is_shape" sShape fS fdS) (bS:Binds K fdS ["thing"] []) (GS:FnOk P w K mg base CX0 15 fS fdS ["thing"] spShape):FnOk P w K mg base CX0 16 f fd ["shape"] spWantS:=by
 refine F.ok scWantS (λvs H Q E h=>?_) (λcdv A outer s H vs Q E hr h=>?_)
 ·obtain⟨t,n,tp,rows,rfl,_⟩:=h
  rfl
 ·obtain⟨t,n,tp,rows,rfl,hSh,q⟩:=h
  refine⟨_,pss_one (ps_if (pt_not (pt_val (pe_call GS hr (by rfl) hS FS.kp bS .nil pass0 (qa0 (pv 0) qa3)))) pss_never pss_nil),?_⟩
  exact⟨_,rfl,t,n,tp,rows,rfl,hSh,λH1 s1=>⟨_,rfl,iteF (q H1 s1)⟩⟩
end
end Pr
namespace L2
open PySem PySem.Spec PyProof.Rows
section
variable {prog:Program}{w:World}{κ:Type}[DecidableEq κ]{hk:HeapKind prog w κ}{A:Around}{E:Value->Shared->Prop}{s:Shared}{d a:Addr}{k:κ}{xs:List (κ×Addr×Value)}
theorem setDefaultH {y:Value}{Q:Value->Shared->Prop}(room:hk.room A) (isK:hk.is s.heap k a) (dict:s.heap.DictOfH hk d xs) (small:xs.length<=sizeLine)
  (old:∀v,(atKey xs k).map (·.2)=some v->Q v { s with toks:=s.toks+hk.draws k })
  (new:(atKey xs k).map (·.2)=none->∀h',h'.DictOfH hk d (storedH xs k a y)->Heap.SameBut d s.heap h'->Q y { s with heap:=h',toks:=s.toks+hk.draws k }) :
  wpAny (model prog w) A (dictSetDefault d (.ref a) y) Q E s:=by
 obtain⟨ob,tab,epo,at_,exa,dat,ent,are,uni⟩:=dict
 show wpAny _ _ (holding [.ref a,y] _) _ _ _
 refine wpAny_holding (wpAny_bind (hk.pyHash room isK (wpAny_bind (wpAny_dictFind_heap (s:={ s with toks:=s.toks+hk.draws k }) room isK at_ dat ent are uni (λnone_=>?_) (λj q found=>?_)))))
 ·have abs:=atKey_none_of_get none_
  refine wpAny_bind (wpAny_rule (wpAny_bind (wpAny_updateDictKeys (hz:=by have:=size_of_entries ent;lia) (s:={ s with toks:=s.toks+hk.draws k }) at_ dat (wpAny_pure (new (by rw[abs];rfl) _ ⟨_,_,epo+1,
   Heap.get?_update_self _ at_ (Obj.isFreed_of_dict (Obj.data_mapDictKeys dat _)),exa.mapDictKeys _,Obj.data_mapDictKeys dat _,?_,?_,?_⟩ (Heap.SameBut.update ..))))))
  ·rw[storedH_new abs];simp[ent,entryOfKey]
  ·rw[storedH_new abs]
   intro z hz
   rcases List.mem_append.mp hz with hz|hz
   ·exact hk.keeps (are z hz) at_ dat (Heap.SameBut.update ..)
   ·have:z=(k,a,y):=by simpa using hz
    subst this
    exact hk.keeps isK at_ dat (Heap.SameBut.update ..)
  ·rw[storedH_new abs,List.map_append,List.nodup_append]
   exact⟨uni,by simp,λp hp q hq e=>not_mem_keys_of_get none_ (by
    have:q=k:=by simpa using hq
    rw[<- this,<- e];exact hp)⟩
 ·have pre:=atKey_of_get uni found
  refine wpAny_bind (wpAny_dictEntries (s:={ s with toks:=s.toks+hk.draws k }) at_ dat ?_)
  rw[entry_at ent j,found]
  exact wpAny_bind (wpAny_rule (wpAny_pure (old q.2 (by rw[pre];rfl))))
end
section
variable {X:Cx}
def rSetDef:V->List V->Hp->VK->Prop:=λx xs H Q=>∃(d b:Addr) (kvs:List (List Key×V)) (k:List Key) (y:V),x=.ref d/\xs=[.ref b,y]/\H d=some (.dT kvs)/\H b=some (.tup (k.map kV))/\kvs.length<sizeLine /\
 (∀v,valV kvs k=some v->Q v H)/\(valV kvs k=none->Q y (upd H d (.dT (putK kvs k y))))
theorem mt_setdefault (hu:X.A.units+1<cLine):MtR X "dict.setdefault" rSetDef:=by
 intro pins s σ H x xs v us Q I rx rs h
 obtain⟨d,b,kvs,k,y,rfl,rfl,hd,hb,hl,q1,q2⟩:=h
 cases (show v=Value.ref d from rx)
 obtain⟨u1,u2,rfl,r1,r2⟩:∃u1 u2,us=[u1,u2]/\RelV (.ref b) u1/\RelV y u2:=by
  cases rs with
  |cons a1 a2=>cases a2 with
   |cons a3 a4=>cases a4;exact⟨_,_,rfl,a1,a3⟩
 cases (show u1=Value.ref b from r1)
 obtain⟨z,lo,xs,rel,dd⟩:=dt_of I.hok hd
 have hz:xs.length<=sizeLine:=by rw[<- Paired.length rel];exact z
 have M:MeetsIn X.prog X.w (Builtin.«dict.setdefault» ⟨[.ref d,.ref b,u2],[]⟩) (λA R s=>(tupleKind (mixKind X.prog X.w)).room A.in1/\(tupleKind (mixKind X.prog X.w)).is s.heap k b/\s.heap.DictOfH (tupleKind (mixKind X.prog X.w)) d xs /\
   (∀v,(atKey xs k).map (·.2)=some v->R (.ok (.ret v)) { s with toks:=s.toks+(tupleKind (mixKind X.prog X.w)).draws k }) /\
   ((atKey xs k).map (·.2)=none->∀h',h'.DictOfH (tupleKind (mixKind X.prog X.w)) d (storedH xs k b u2)->Heap.SameBut d s.heap h'->R (.ok (.ret u2)) { s with heap:=h',toks:=s.toks+(tupleKind (mixKind X.prog X.w)).draws k })):=
  .of_wp λA R s ⟨g1,g2,g3,g4,g5⟩=>by
   unfold Builtin.«dict.setdefault» Builtin.Dict.keyAndDefault
   refine wpAny_bind (wpAny_bind (wpAny_notOrdered_dict g3.typeIs (wpAny_pure ?_)))
   show wpAny _ _ (if (d==sysModules)=true then _ else (dictSetDefault d (.ref b) u2 >>= _)) _ _ s
   rw[if_neg (by rw[lo];decide)]
   exact wpAny_bind (setDefaultH g1 g2 g3 hz (λv hv=>wpAny_pure ⟨v,rfl,g4 v hv⟩) λhn h' a1 a2=>wpAny_pure ⟨u2,rfl,g5 hn h' a1 a2⟩)
 have val:=rel.val k
 refine call_meetsIn PySem.F.slot_dict_setdefault dd.typeIs PySem.F.entry_dict_setdefault (PySem.F.args_dict_setdefault_3 _ _ _) M ⟨tupleKind_room_in1 hu,key_of I.hok hb,dd,λv hv=>?_,λhn h' d' sb=>?_⟩
 ·rw[hv] at val
  cases e:valV kvs k with
  |none=>rw[e] at val;exact val.elim
  |some y'=>rw[e] at val;exact⟨y',H,I.tok _,val,q1 y' e⟩
 ·rw[hn] at val
  cases e:valV kvs k with
  |some y'=>rw[e] at val;exact val.elim
  |none=>
   have hl2:(putK kvs k y).length<=sizeLine:=by have:=length_putK kvs k y;lia
   obtain⟨q,es,ep,hq,h2,h3,h4,_,h5⟩:=d'
   refine⟨y,_,?_,r2,q2 e⟩
   refine d_write I (by rw[hd];exact True.intro) sb ⟨q,hq⟩ ⟨hl2,lo,_,(rel.put k hb r2).keeps λc ys ec=>?_,q,es,ep,hq,h2,h3,h4,h5⟩
   rw[upd_ne (ne_of ec hd (λz=>nomatch z))]
   exact ec
end
def mergeT (acc:List (List Key×V)) (more:List (List Key×Addr×V)):List (List Key×V):=more.foldl (λacc x=>putK acc x.1 x.2.2) acc
section
variable {X:Cx}
theorem store_all {pins:List (Addr×Obj)}{σ:St}{d:Addr}(hu:X.A.units<cLine){E:Value->Shared->Prop}:∀(more:List (List Key×Addr×V)) (ws:List (Value×Value)) (acc:List (List Key×V)) (H:Hp) (s:Shared) (Q:PUnit->Shared->Prop),
  Inv X pins σ H s->H d=some (.dT acc)->VV (more.map λx=>(V.ref x.2.1,x.2.2)) ws->(∀x∈more,H x.2.1=some (.tup (x.1.map kV)))->acc.length+more.length<=1000 ->
  (∀s',Inv X pins σ (upd H d (.dT (mergeT acc more))) s'->Q PUnit.unit s')->wpAny (model X.prog X.w) X.A (storeAll d ws) Q E s
 |[],_,acc,H,s,Q,I,hd,rv,_,_,q=>by
  rw[List.map_nil] at rv
  cases rv
  have e:upd H d (.dT (mergeT acc []))=H:=by
   funext b;unfold upd;split
   ·rename_i z;rw[z,hd];rfl
   ·rfl
  rw[e] at q
  exact wpAny_pure (q s I)
 |x::more,_,acc,H,s,Q,I,hd,rv,hk,hl,q=>by
  rw[List.map_cons] at rv
  cases rv with
  |@cons a b as bs h t=>
   obtain⟨b1,b2⟩:=b
   cases (show b1=Value.ref x.2.1 from h.1)
   obtain⟨z,lo,xs,rel,dd⟩:=dt_of I.hok hd
   have hxs:xs.length<=sizeLine:=by rw[<- Paired.length rel];exact z
   have hx:=hk x List.mem_cons_self
   rw[List.length_cons] at hl
   have hlp:=length_putK acc x.1 x.2.2
   have hl2:(putK acc x.1 x.2.2).length<=sizeLine:=Nat.le_of_lt (small1000 (by lia))
   show wpAny _ _ (forIn ((Value.ref x.2.1,b2)::bs) _ _) _ _ _
   rw[List.forIn_cons]
   refine wpAny_bind (wpAny_bind (wpAny_dictSet_heap (hsz:=hxs) (knd:=tupleKind (mixKind X.prog X.w)) hu (key_of I.hok hx) dd λh' d' sb=>wpAny_pure ?_))
   obtain⟨q0,es,ep,hq,h2,h3,h4,_,h5⟩:=d'
   have I2:Inv X pins σ (upd H d (.dT (putK acc x.1 x.2.2))) { s with heap:=h',toks:=s.toks+(tupleKind (mixKind X.prog X.w)).draws x.1 }:=by
    refine d_write I (by rw[hd];exact True.intro) sb ⟨q0,hq⟩ ⟨hl2,lo,_,(rel.put x.1 hx h.2).keeps λc ys ec=>?_,q0,es,ep,hq,h2,h3,h4,h5⟩
    rw[upd_ne (ne_of ec hd (λz=>nomatch z))]
    exact ec
   refine store_all hu more bs _ _ _ Q I2 qa1 t (λy hy=>?_) (by lia) λs' I3=>q s' ?_
   ·have:=hk y (List.mem_cons_of_mem _ hy)
    rw[upd_ne (ne_of this hd (λz=>nomatch z))]
    exact this
   ·rw[upd_upd] at I3
    exact I3
def tDispT (trs:List (TE×TE)):TE:=λσ H Q=>∀p,H p=none->tPairs trs σ (upd H p (.dT [])) λps H2=>H2 p=some (.dT [])/\∃more:List (List Key×Addr×V),ps=more.map (λx=>(V.ref x.2.1,x.2.2)) /\
 (∀x∈more,H2 x.2.1=some (.tup (x.1.map kV)))/\more.length<=15/\Q (.ref p) (upd H2 p (.dT (mergeT [] more)))
theorem pe_dispT {pos:Pos}{keys:List (Option Expr)}{values:List Expr}{trs:List (TE×TE)}(hu:X.A.units<cLine) (h:PPs X pos keys values trs) (hall:keys.all (·.isSome)=true) (hl:keys.length=values.length) (h0:keys≠[])
  (h15:keys.length<=15):PE X (.Dict keys values pos) (tDispT trs):=by
 intro pins s σ H Q I q
 have hn:=I.hok.fresh (Nat.le_refl s.heap.objs.size)
 have I1:Inv X pins σ (upd H s.heap.objs.size (.dT [])) { s with heap:=s.heap.push { cls:=.type "dict",data:=.dict #[] },toks:=s.toks }:=I.laid (λ_ _ q=>Heap.get?_push_of_some _ q) (Nat.le_refl _) (dt_empty s.heap I.big)
 refine wpAny_Dict_any hall hl h0 h15 (thn (h pins _ σ _ _ I1 (q _ hn)) λws s2 ⟨ps,H2,I2,rel,e,more,ep,hk,lk,q2⟩=>?_)
 subst ep
 exact store_all hu more ws [] H2 s2 _ I2 e rel hk (by rw[List.length_nil];lia) λs' I3=>⟨.ref s.heap.objs.size,_,I3,rfl,q2⟩
def rUpdate:V->List V->Hp->VK->Prop:=λx xs H Q=>∃(d e:Addr) (kvs more:List (Key×V)),x=.ref d/\xs=[.ref e]/\d≠e/\H d=some (.dK kvs)/\H e=some (.dK more)/\kvs.length+more.length<=1191000/\Q .non (upd H d (.dK (mergeK kvs more)))
theorem mt_update:MtR X "dict.update" rUpdate:=by
 intro pins s σ H x xs v us Q I rx rs h
 obtain⟨d,e,kvs,more,rfl,rfl,hne,hd,he,hl,q⟩:=h
 cases (show v=Value.ref d from rx)
 obtain⟨u,rfl,ru⟩:=vals1 rs
 cases (show u=Value.ref e from ru)
 obtain⟨z,lo,vs,rel,dd⟩:=dk_of I.hok hd
 obtain⟨z2,lo2,vs2,rel2,dd2⟩:=dk_of I.hok he
 have l1:=rel.length
 have l2:=rel2.length
 refine call_meetsIn PySem.F.slot_dict_update dd.typeIs PySem.F.entry_dict_update (PySem.F.args_dict_update_2 _ _) (meets_dict_update (mixKind X.prog X.w) d e hne lo2) ⟨vs,vs2,dd,dd2,by rw[<- l1,<- l2];exact Nat.le_of_lt (Nat.lt_of_le_of_lt hl (by decide:1191000<sizeLine)),λh' d1 d2 sb=>?_⟩
 have hz:(mergeK kvs more).length<=sizeLine:=by
  have:=length_mergeK more kvs
  exact Nat.le_of_lt (Nat.lt_of_le_of_lt (m:=1191000) (by lia) (by decide))
 have ho:∃q,h'.get? d=some q:=let ⟨q,_,_,hq,_⟩:=d1;⟨q,hq⟩
 exact⟨.non,_,d_write (t':=s.toks) I (by rw[hd];exact True.intro) sb ho (dk_new hz lo (rel2.merge rel) d1),rfl,q⟩
def Itk (d:Addr) (kvs:List (Key×V)) (o:Obj):It:=
 ⟨λi H=>H d=some (.frz o (.dK kvs))/\i<kvs.length,λi H x H'=>H'=H/\∃kv,kvs[i]?=some kv/\x=kV kv.1,λi H=>H d=some (.frz o (.dK kvs))/\kvs.length<=i⟩
theorem frz_at {P:Program}{w:World}{H:Hp}{h:Heap}{d:Addr}{kvs:List (Key×V)}{o:Obj}{es:Array DictEntry}{ep:Nat}(ok:HOk P w H h) (e:H d=some (.frz o (.dK kvs))) (hdat:o.data=.dict es ep) :
  kvs.length<=sizeLine/\(d==sysModules)=false/\∃vs,KV kvs vs/\h.DictAt (mixKind P w) d vs ep:=by
 obtain⟨ho,z,lo,vs,rel,o2,es2,ep2,ho2,hc,hd2,r⟩:=ok d _ e
 rw[ho] at ho2
 cases ho2
 rw[hdat] at hd2
 cases hd2
 exact⟨z,lo,vs,rel,o,es,ho,hc,hdat,r⟩
theorem turn_keys {P:Program}{w:World}{K:PySem.W.Frag}{tg:Expr}{d it:Addr}{kvs:List (Key×V)}{o:Obj}{es:Array DictEntry}{ep:Nat}(hdat:o.data=.dict es ep) :
  Turn P w K tg (Itk d kvs o) [it] it (λi h=>h.IsKeyIter it d i kvs.length ep) where
 mem:=by simp
 obj:=λi h st b hb=>by
  have e:b=it:=by simpa using hb
  subst e
  obtain⟨q,e,c,f⟩:=st
  exact⟨q,e,λv z=>by rw[f] at z;cases z⟩
 keep:=λi h h' st k=>st.at λo e=>k it (by simp) o e
 item:=by
  intro X hP hw hK hc i pins s σ H E I hf st hg
  subst hP hw hK
  obtain⟨hd,hi⟩:=hg
  obtain⟨z,lo,vs,rel,dd⟩:=frz_at I.hok hd hdat
  have hl:=rel.length
  obtain⟨f0,f1,f2,f3,f4,f5⟩:=hf it (by simp)
  have hx:vs[i]?=some (vs[i]'(by lia)):=by simp[show i<vs.length by lia]
  rw[hl] at st
  refine wpAny_pyNext_dict_item (k:=(vs[i]'(by lia)).1) (v:=(vs[i]'(by lia)).2) st dd hx λkey h' hk st' sb=>?_
  have I1:Inv X pins σ H { s with heap:=h' }:=I.turned (t':=s.toks) (λb q hb e=>(sb.2 b hb).trans e) f0 f1 f3 f4 f5
  obtain⟨q,e,c,f⟩:=id st'
  have ek:(kvs[i]'hi).1=(vs[i]'(by lia)).1:=by
   have z1:(kvs.map (·.1))[i]?=some (kvs[i]'hi).1:=by simp[hi]
   rw[rel.keys] at z1
   have z2:(vs.map (·.1))[i]?=some (vs[i]'(by lia)).1:=by simp[show i<vs.length by lia]
   rw[z1] at z2
   exact Option.some.inj z2
  refine⟨key,rfl,go_of (s:={ s with heap:=h' }) e c f (by decide) ⟨kV (kvs[i]'hi).1,H,I1,?_,⟨rfl,kvs[i]'hi,by simp[hi],rfl⟩,hl▸st',λb hb=>(hf b hb).1⟩⟩
  rw[ek]
  exact kV_of hk
 done:=by
  intro X hP hw hK hc i pins s σ H E I hf st hg
  subst hP hw hK
  obtain⟨hd,hi⟩:=hg
  obtain⟨z,lo,vs,rel,dd⟩:=frz_at I.hok hd hdat
  have hl:=rel.length
  obtain⟨f0,f1,f2,f3,f4,f5⟩:=hf it (by simp)
  rw[hl] at st
  exact wpAny_pyNext_dict_end (I.ok.hd hc) st dd (by simp;lia) λh' eb=>⟨rfl,I.turned (t':=s.toks) (λb q hb e=>eb b q hb e) f0 f1 f3 f4 f5⟩
 self:=λ_ _ _ _ _ st h=>wpAny_pyIter_keyiter st h
def iKeys (tl:TE):TI:=λσ H R=>tl σ H λx H1=>∃(d:Addr) (kvs:List (Key×V)),x=.ref d/\H1 d=some (.dK kvs)/\∀o,R (Itk d kvs o) (upd H1 d (.frz o (.dK kvs)))
theorem pi_keys {tg l:Expr}{tl:TE}(hl:PE X l tl):PI X tg l (iKeys tl):=by
 intro pins s σ H R I h
 refine thn (hl pins s σ H _ I h) λv s1 ⟨x,H1,I1,r1,d,kvs,ex,hd,q⟩=>?_
 subst ex
 cases r1
 obtain⟨z,lo,vs,rel,o,es,ep,ho,r⟩:=dk_of I1.hok hd
 have I2:Inv X pins σ (upd H1 d (.frz o (.dK kvs))) { s1 with heap:=s1.heap,toks:=s1.toks }:=
  I1.write (x:=d) (e:=d) (by rw[hd];exact True.intro) (.inl rfl) (λb u hb e=>e) ⟨o,ho⟩ ⟨ho,z,lo,vs,rel,o,es,ep,ho,r⟩
 refine wpAny_pyIter_dict (knd:=mixKind X.prog X.w) lo (show s1.heap.DictAt (mixKind X.prog X.w) d vs ep from ⟨o,es,ho,r⟩) ?_
 have dl:d<s1.heap.objs.size:=Heap.lt_size ho
 refine⟨s1.heap.objs.size,[s1.heap.objs.size],_,_,_,rfl,I2.kept (t':=s1.toks) λb q e=>Heap.get?_push_of_some _ e,turn_keys (o:=o) (ep:=ep) r.2.1,⟨_,Heap.get?_push_size _ rfl,rfl,by rw[rel.length];rfl⟩,λb hb=>?_,q o⟩
 have e:b=s1.heap.objs.size:=by simpa using hb
 subst e
 exact I2.fpOk (Nat.le_refl _) (I2.hok.fresh (Nat.le_refl _))
theorem goes_keys {H:Hp}{d:Addr}{kvs:List (Key×V)}{o:Obj}(hd:H d=some (.frz o (.dK kvs))):Goes (Itk d kvs o) H kvs.length (λi y _=>∃kv,kvs[i]?=some kv/\y=kV kv.1) where
 go:=λi H2 hi s=>⟨s _ _ hd,hi⟩
 yl:=λi H2 y H3 hi s h=>by
  obtain⟨e,h⟩:=h
  subst e
  exact⟨Same.refl _,h⟩
 st:=λH2 s=>⟨s _ _ hd,Nat.le_refl _⟩
end
end L2
namespace L2
open PySem PySem.Spec PyProof.Rows PySem.W
def Bare (h:Heap) (d:Addr) (tab:Array DictEntry) (ep:Nat):Prop:=∃o,h.get? d=some o/\o.ExactDict/\o.data=.dict tab ep
theorem Bare.stay {h h':Heap}{d:Addr}{tab:Array DictEntry}{ep:Nat}(x:Bare h d tab ep) (k:∀o,h.get? d=some o->h'.get? d=some o):Bare h' d tab ep:=let ⟨o,ho,r⟩:=x;⟨o,k o ho,r⟩
theorem Bare.ty {s:Shared}{d:Addr}{tab:Array DictEntry}{ep:Nat}(x:Bare s.heap d tab ep):s.TypeIs (.ref d) "dict":=let ⟨o,ho,hc,_⟩:=x;⟨o,ho,hc.1⟩
theorem Bare.lt {h:Heap}{d:Addr}{tab:Array DictEntry}{ep:Nat}(x:Bare h d tab ep):d<h.objs.size:=let ⟨_,ho,_⟩:=x;Heap.lt_size ho
section
variable {prog:Program}{w:World}{A:Around}{E:Value->Shared->Prop}{s:Shared}{d it:Addr}{tab:Array DictEntry}{ep i:Nat}
theorem bare_iter {Q:Value->Shared->Prop}(lo:(d==sysModules)=false) (x:Bare s.heap d tab ep)
  (q:Q (.ref s.heap.objs.size) { s with heap:=s.heap.push { cls:=.type "dict_keyiterator",data:=.fields #[.ref d,.int 0 0,.int tab.size 0,.int ep 0] } }):wpAny (model prog w) A (pyIter (.ref d)) Q E s:=by
 obtain⟨o,ho,hc,hdat⟩:=id x
 refine wpAny_pyIter_slot x.ty F.slot_dict_iter (wpAny_call_entry F.slot_dict_iter x.ty F.entry_dict_iter ?_ (F.args_dict_iter_1 _))
 show wpAny _ _ (Builtin.Dict.dictSlotNone _ _ >>= _) _ _ _
 unfold Builtin.Dict.dictSlotNone;refine wpAny_bind (wpAny_bind (wpAny_notOrdered_dict x.ty (wpAny_pure ?_)))
 show wpAny _ _ (Builtin.Dict.showsAll d >>= _) _ _ s;unfold Builtin.Dict.showsAll
 rw[if_neg (by rw[lo];decide)];refine wpAny_bind (wpAny_pure (wpAny_bind (wpAny_dictEntries ho hdat (wpAny_bind (wpAny_dictEpoch ho hdat ?_)))))
 refine wpAny_bind (wpAny_newObj_type (wpAny_pure ⟨_,rfl, "dict_keyiterator",_,⟨_,Heap.get?_push_size _ rfl,rfl⟩,F.slot_dict_keyiterator_next.lookup,?_⟩));simpa [rawInt] using q
theorem bare_next {Q:Option Value->Shared->Prop}(st:s.heap.IsKeyIter it d i tab.size ep) (x:Bare s.heap d tab ep) (hi:i<tab.size)
  (q:∀h',h'.IsKeyIter it d (i+1) tab.size ep->Heap.SameBut it s.heap h'->Q (some tab[i].key) { s with heap:=h' }):wpAny (model prog w) A (pyNext (.ref it)) Q E s:=by
 obtain⟨o,ho,hc,hd⟩:=id st;obtain⟨od,hod,hcd,hdd⟩:=id x
 unfold pyNext;refine wpAny_bind (wpAny_attempt (wpAny_callSpecial?_slot (name:=Str.ofString "__next__") st.typeIs F.slot_dict_keyiterator_next (wpAny_call_entry F.slot_dict_keyiterator_next st.typeIs F.entry_dict_keyiterator_next ?_ (F.args_dict_keyiterator_next_1 _))))
 refine wpAny_bind (wpAny_pure (wpAny_bind (wpAny_bind ?_)))
 first|(refine wpAny_bind (wpAny_typeNameOfWhole_keyiter st.typeIs (wpAny_pure (wpAny_bind (wpAny_fieldsOf ho hd ?_)))))|(refine wpAny_bind (wpAny_typeNameOf_keyiter st.typeIs (wpAny_pure (wpAny_bind (wpAny_fieldsOf ho hd ?_)))))
 simp only[show Builtin.Dict_items.ownsTuple "dict_keyiterator" = false by decide,Bool.false_eq_true,if_false]
 show wpAny _ _ (if (Value.ref d==Value.none)=true then _ else _) _ _ s;rw[if_neg (show ¬((Value.ref d==Value.none)=true) by exact Bool.false_ne_true)]
 refine wpAny_bind (wpAny_pure (wpAny_bind (wpAny_dictEntries hod hdd ?_)));rw[if_neg (by simp)]
 refine wpAny_bind (wpAny_pure (wpAny_bind (wpAny_dictEpoch hod hdd ?_)));rw[if_neg (by simp)];refine wpAny_pure ?_
 simp only[show ¬((i:Int)<0) by lia,if_false,Int.toNat_natCast,Array.getElem?_eq_getElem hi];refine wpAny_bind ?_
 first|(refine wpAny_bind (wpAny_typeNameOfWhole_keyiter st.typeIs (wpAny_pure (wpAny_bind (wpAny_isOneOf_keyiter st.typeIs ?_)))))|(refine wpAny_bind (wpAny_typeNameOf_keyiter st.typeIs (wpAny_pure (wpAny_bind (wpAny_isOneOf_keyiter st.typeIs ?_)))))
 show wpAny _ _ (setField (.ref it) 1 (rawInt ((i:Int)+1)) >>= _) _ _ s;refine wpAny_bind (wpAny_setField ho hd (by simp) ?_)
 have st':(s.heap.update it (Obj.mapFields (·.setIfInBounds 1 (rawInt ((i:Int)+1))))).IsKeyIter it d (i+1) tab.size ep:=⟨_,Heap.get?_update_self _ ho (Obj.isFreed_of_fields (Obj.data_mapFields hd _)),(Obj.cls_mapFields ..).trans hc,by rw[Obj.data_mapFields hd];simp[rawInt]⟩
 refine wpAny_bind (wpAny_holding (wpAny_bind (wpAny_isOneOf_keyiter (s:={ s with heap:=s.heap.update it (Obj.mapFields (·.setIfInBounds 1 (rawInt ((i:Int)+1)))) }) st'.typeIs ?_)))
 show wpAny _ _ (pure tab[i].key) _ _ _
 exact wpAny_pure (wpAny_pure ⟨_,rfl,wpAny_pure (q _ st' (Heap.SameBut.update ..))⟩)
theorem bare_end {Q:Option Value->Shared->Prop}(hh:A.handled=none) (st:s.heap.IsKeyIter it d tab.size tab.size ep) (x:Bare s.heap d tab ep)
  (q:∀h',Heap.ExtBut it s.heap h'->Q none { s with heap:=h' }):wpAny (model prog w) A (pyNext (.ref it)) Q E s:=by
 obtain⟨o,ho,hc,hd⟩:=id st;obtain⟨od,hod,hcd,hdd⟩:=id x
 unfold pyNext;refine wpAny_bind (wpAny_attempt (wpAny_callSpecial?_slot (name:=Str.ofString "__next__") st.typeIs F.slot_dict_keyiterator_next (wpAny_call_entry F.slot_dict_keyiterator_next st.typeIs F.entry_dict_keyiterator_next ?_ (F.args_dict_keyiterator_next_1 _))))
 refine wpAny_bind (wpAny_pure (wpAny_bind (wpAny_bind ?_)))
 first|(refine wpAny_bind (wpAny_typeNameOfWhole_keyiter st.typeIs (wpAny_pure (wpAny_bind (wpAny_fieldsOf ho hd ?_)))))|(refine wpAny_bind (wpAny_typeNameOf_keyiter st.typeIs (wpAny_pure (wpAny_bind (wpAny_fieldsOf ho hd ?_)))))
 simp only[show Builtin.Dict_items.ownsTuple "dict_keyiterator" = false by decide,Bool.false_eq_true,if_false]
 show wpAny _ _ (if (Value.ref d==Value.none)=true then _ else _) _ _ s;rw[if_neg (show ¬((Value.ref d==Value.none)=true) by exact Bool.false_ne_true)]
 refine wpAny_bind (wpAny_pure (wpAny_bind (wpAny_dictEntries hod hdd ?_)));rw[if_neg (by simp)]
 refine wpAny_bind (wpAny_pure (wpAny_bind (wpAny_dictEpoch hod hdd ?_)));rw[if_neg (by simp)];refine wpAny_pure ?_
 simp only[show ¬((tab.size:Int)<0) by lia,if_false,Int.toNat_natCast,Array.getElem?_eq_none (Nat.le_refl tab.size)];refine wpAny_bind ?_
 first|(refine wpAny_bind (wpAny_typeNameOfWhole_keyiter st.typeIs (wpAny_pure ?_)))|(refine wpAny_bind (wpAny_typeNameOf_keyiter st.typeIs (wpAny_pure ?_)))
 show wpAny _ _ (setField (.ref it) 0 .none >>= _) _ _ s;refine wpAny_bind (wpAny_setField ho hd (by simp) ?_)
 show wpAny _ _ (newExc (.type "StopIteration") [] >>= _) _ _ _;refine wpAny_bind ?_
 simp only[newExc,newTuple];refine wpAny_bind (wpAny_newObj_type ?_ (by size_fits))
 refine wpAny_bind (m:=firstArgMember _ _) (wpAny_of_eq (a:=Value.none) (by first|rfl|(simp only[firstArgMember];rfl)) (wpAny_newObj_type ?_ (by size_fits)))
 simp only[raiseNew];refine wpAny_bind (wpAny_handled ?_);rw[show A.in1.handled=none by exact hh]
 refine wpAny_bind (wpAny_pure (wpAny_throw ?_));refine wpAny_bind (wpAny_isInstance (T:= "StopIteration") (b:=true) ⟨_,Heap.get?_push_size _ rfl,rfl⟩ isSubtype_stop ?_)
 exact wpAny_pure (q _ (((Heap.SameBut.update ..).extBut.push _).push _))
theorem bare_walks (hh:A.handled=none) (hne:d≠it):Walks prog w A it [it,d] [it] tab.size (λi v=>∃e,tab[i]?=some e/\v=e.key) (λi h=>h.IsKeyIter it d i tab.size ep/\Bare h d tab ep) where
 sub:=λb hb=>by simp at hb;simp[hb]
 frame:=λ_ _ _ st k=>⟨st.1.at λo e=>k it (by simp) o e,st.2.stay λo e=>k d (by simp) o e⟩
 item:=λi s Q E hi st q=>bare_next st.1 st.2 hi λh' st' sb=>q _ h' s.toks ⟨tab[i],by simp[hi],rfl⟩ ⟨st',st.2.stay λo e=>sb.extBut d o hne e⟩ λb o hb e=>sb.extBut b o (λh=>hb (by simp[h])) e
 done:=λs Q E st q=>bare_end hh st.1 st.2 λh' eb=>q h' s.toks λb o hb e=>eb b o (λh=>hb (by simp[h])) e
 self:=λ_ _ _ _ st q=>wpAny_pyIter_keyiter st.1 q
theorem bare_src (lo:(d==sysModules)=false):KdlSrc prog w "dict" d d tab.size (λi v=>∃e,tab[i]?=some e/\v=e.key) (λh=>Bare h d tab ep) where
 type:=λ_ x=>x.ty
 there:=λ_ x=>⟨x.lt,x.lt⟩
 keep:=λ_ _ x k=>x.stay λo e=>k d (.inl rfl) o e
 notList:=by decide
 notTuple:=by decide
 hint:=λ_ _ _ _ x q=>kdl_hint_dict x.ty q
 iter:=λ_ _ hh x=>⟨_,_,(λ_ _ q=>bare_iter lo x q),bare_walks hh (Nat.ne_of_lt x.lt),⟨⟨_,Heap.get?_push_size _ rfl,rfl,rfl⟩,x.stay λo e=>Heap.get?_push_of_some _ e⟩⟩
theorem bare_size (lo:(d==sysModules)=false):MeetsIn prog w (Builtin.«dict.__len__» ⟨[.ref d],[]⟩) (λ_ R s=>∃tab ep,Bare s.heap d tab ep/\R (.ok (.ret (.int tab.size s.toks))) { s with toks:=s.toks+1 }):=
 .of_wp λA R s ⟨tab,ep,⟨o,ho,hx,hdat⟩,q⟩=>by
  show wpAny _ _ (dictSize d >>= _) _ _ s;unfold dictSize
  refine wpAny_bind (wpAny_bind (wpAny_dictEntries ho hdat (wpAny_pure ?_)));show wpAny _ _ (Builtin.Dict.pendingCount d >>= _) _ _ s
  exact wpAny_bind (wpAny_pendingCount_other lo (wpAny_ret_mkInt (by rw[Nat.add_zero];exact q)))
theorem bare_len {Q:Value->Shared->Prop}(lo:(d==sysModules)=false) (x:Bare s.heap d tab ep) (fit:(tab.size:Int)<2^63) (q:Q (.int tab.size (s.toks+1)) { s with toks:=s.toks+1+1 }) :
  wpAny (model prog w) A (call (.builtin "len") [.ref d]) Q E s:=by
 refine Calls.call_function_entry kind_len plain_len entry_len (args_len1 _) ?_
 unfold Builtin.«len»;refine wpAny_bind (m:=oneArg "len" _) (wpAny_pure ?_)
 refine wpAny_bind (m:=callSpecial? (.ref d) (Str.ofString "__len__")) (wpAny_callSpecial?_slot (name:=Str.ofString "__len__") x.ty F.slot_dict_len (call_meetsIn F.slot_dict_len x.ty F.entry_dict_len (F.args_dict_len_1 _) (bare_size lo) ⟨tab,ep,x,?_⟩))
 show wpAny _ _ _ _ _ { s with toks:=s.toks+1 };refine wpAny_bind (wpAny_holding (wpAny_pure (wpAny_bind (wpAny_letGo ?_))))
 show wpAny _ _ (if ((tab.size:Nat):Int)<0 then _ else _) _ _ _;rw[if_neg (by lia)]
 show wpAny _ _ (if ((tab.size:Nat):Int)>=2^63 then _ else _) _ _ _;rw[if_neg (by lia)];exact wpAny_bind (wpAny_mkInt (wpAny_pure ⟨_,rfl,q⟩))
end
section
variable {X:Cx}
theorem call_listT (hc:X.calm=true):CallR X (.type "list") (λxs H Q=>∃(d:Addr) (kvs:List (List Key×V)),xs=[.ref d]/\H d=some (.dT kvs) /\
  ∀(l:Addr) (bs:List Addr),H l=none->bs.length=kvs.length->(∀(i:Nat) b kv,bs[i]?=some b->kvs[i]?=some kv->H b=some (.tup (kv.1.map kV)))->Q (.ref l) (upd H l (.lst (bs.map V.ref)))):=by
 intro pins s σ H xs us Q I r h
 obtain⟨d,kvs,rfl,hd,q⟩:=h
 obtain⟨u,rfl,ru⟩:=vals1 r
 cases ru
 obtain⟨z,lo,ys,rel,o,tab,ep,ho,hx,hdat,ent,uni⟩:=(show ObjOk X.prog X.w H s.heap d (.dT kvs) from I.hok d _ hd)
 have hl:kvs.length=ys.length:=Paired.length rel
 have ht:tab.size=ys.length:=size_of_entries ent
 refine kdl_call (bare_src (tab:=tab) (ep:=ep) lo) (I.ok.hd hc) ⟨o,ho,hx,hdat⟩ (by lia) λh' tk acc c kp hob hacc=>?_
 have at_:∀(i:Nat) p y,kvs[i]?=some p->ys[i]?=some y->H y.2.1=some (.tup (p.1.map kV)):=by
  have gen:∀{l:List (List Key×V)}{m:List (List Key×Addr×Value)},Paired (λ(p:List Key×V) (q:List Key×Addr×Value)=>p.1=q.1/\H q.2.1=some (.tup (p.1.map kV))/\RelV p.2 q.2.2) l m->∀(i:Nat) p y,l[i]?=some p->m[i]?=some y->H y.2.1=some (.tup (p.1.map kV)):=by
   intro l m pr
   induction pr with
   |nil=>intro i p y h1;simp at h1
   |cons a1 a2 ih=>
    intro i p y h1 h2
    cases i with
    |zero=>simp at h1 h2;subst h1;subst h2;exact a1.2.1
    |succ i=>exact ih i p y (by simpa using h1) (by simpa using h2)
  exact gen rel
 have hlb:(ys.map (·.2.1)).length=kvs.length:=by rw[List.length_map,hl]
 refine⟨.ref s.heap.objs.size,_,I.laid (a:=s.heap.objs.size) (o:=.lst ((ys.map (·.2.1)).map V.ref)) (t':=tk) kp (Nat.le_refl _) ⟨by rw[List.length_map,hlb];exact z,acc.toList,c,?_,by simpa using hob⟩,rfl,q _ _ I.fresh hlb λi b kv e1 e2=>?_⟩
 ·refine vals_of (by simp[hacc.1,ht]) λi x v h1 h2=>?_
  rw[List.getElem?_map,List.getElem?_map] at h1
  obtain⟨b,hb,rfl⟩:=Option.map_eq_some_iff.mp h1
  obtain⟨y,hy,rfl⟩:=Option.map_eq_some_iff.mp hb
  obtain⟨e,he,rfl⟩:=hacc.2 i v (by simpa using h2)
  rw[entry_at ent i,hy] at he
  have:=Option.some.inj he
  subst this
  rfl
 ·rw[List.getElem?_map] at e1
  obtain⟨y,hy,rfl⟩:=Option.map_eq_some_iff.mp e1
  exact at_ i kv y e2 hy
theorem call_lenT:CallR X (.builtin "len") (λxs H Q=>∃d kvs,xs=[V.ref d]/\H d=some (.dT kvs)/\Q (.int kvs.length) H):=by
 intro pins s σ H xs us Q I r h
 obtain⟨d,kvs,rfl,hd,q⟩:=h
 obtain⟨u,rfl,ru⟩:=vals1 r
 cases ru
 obtain⟨z,lo,ys,rel,o,tab,ep,ho,hx,hdat,ent,uni⟩:=(show ObjOk X.prog X.w H s.heap d (.dT kvs) from I.hok d _ hd)
 have hl:tab.size=kvs.length:=(size_of_entries ent).trans (Paired.length rel).symm
 have fit:(tab.size:Int)<2^63:=by rw[hl];rw[sizeLine_eq] at z;lia
 refine bare_len lo ⟨o,ho,hx,hdat⟩ fit ⟨.int kvs.length,H,I.tok _,?_,q⟩
 rw[hl]
 exact⟨_,rfl⟩
end
section
variable {prog:Program}{w:World}{A:Around}{E:Value->Shared->Prop}{s:Shared}{T:String}{r d:Addr}{n:Nat}{P:Nat->Value->Prop}{OK:Heap->Prop}
end
section
variable {X:Cx}
end
end L2
namespace L2
open PySem PySem.Spec PyProof.Rows
section
variable {X:Cx}
theorem ps_compG {i0:Nat}{x0:Str}{px0 spos:Pos}{nn:List Str}{tg:Expr}{ifs:List Expr}{pos:Pos}{elt iter:Expr}{scope:Scope}{wi:TI}{g:TG}{tt:TT}{te:TE}(T:Env->Sem Bool) (hc:X.calm=true) (hi:PI X tg iter wi)
  (hturn:∀it acc env,compTurn (.ListComp elt [⟨tg,iter,ifs,0⟩] scope pos) 0 it acc env=(standAt iter.pos >>= λ_=>pyNext it >>= λr=>match r with
   |none=>pure (.done .next)
   |some v=>letOwnedTupleGo tg it v >>= λ_=>assign tg env v >>= λ_=>T env >>= λok=>(if ok=true then (eval elt env >>= λx=>call (.builtin "list.append") [acc,x] >>= λ_=>pure ()) else pure ()) >>= λ_=>
     again (.compLoop (.ListComp elt [⟨tg,iter,ifs,0⟩] scope pos) 0 it acc env)))
  (hgt:∀cl C fp s₀ H₀,PG (compCxG X scope cl C nn fp s₀ H₀) tg g)
  (hloc2:∀y (os σ:St) H R,os.length=nn.length->g y (os++σ) H R->g y (os++σ) H λσ' H'=>(∃os':St,os'.length=nn.length/\σ'=os'++σ)/\R σ' H')
  (htt:∀cl C fp s₀ H₀ (pins:List (Addr×Obj)) (s:Shared) (σ:St) (H:Hp) (Q:Bool->Hp->Prop),Inv (compCxG X scope cl C nn fp s₀ H₀) pins σ H s->tt σ H Q->wpAny (model X.prog X.w) X.A (T (compEnvC scope cl C X.env)) (TP (compCxG X scope cl C nn fp s₀ H₀) pins σ Q) (λ_ _=>False) s)
  (he:∀cl C fp s₀ H₀,PE (compCxG X scope cl C nn fp s₀ H₀) elt te)
  (hkind:scope.kind=.function) (hcell:∀y∈scope.names,y.2≠.cell) (hnames:∀y∈scope.names,y.2=.local->scope.names.lookup y.1=some .local)
  (hloc:∀y∈X.N,scope.names.lookup y≠some .local) (hfr:∀p∈scope.names,p.2=.free->Vis X.env.scope p.1/\X.env.scope.names.lookup p.1≠some .local)
  (hs:∀x,foldedSetIterable iter X.env x=pure x) (hN0:X.N.Nodup) (hi0:X.N[i0]?=some x0) (hx0:X.env.scope.names.lookup x0=some .local) (hsw:swapsWith (.ListComp elt [⟨tg,iter,ifs,0⟩] scope pos) (some (.Name x0 px0)) spos.line X.env=pure true) :
  PS X (.Assign [.Name x0 px0] (.ListComp elt [⟨tg,iter,ifs,0⟩] scope pos) spos) (tAsg (tCompG nn.length wi g tt te) (gName i0)):=by
 intro pins s σ H EE I h
 rw[exec_Assign_Name_used _ _ _ _ hsw]
 refine wpAny_bind (wpAny_standAt (wpAny_bind ?_))
 show wpAny _ X.A (do let _ <- comprehension (.ListComp elt [⟨tg,iter,ifs,0⟩] scope pos) scope X.env _ (newList []) false (eval iter X.env) (some (assign (.Name x0 px0) X.env))) _ _ s
 obtain⟨cl,hclos,hcl1,hcl2⟩:=closureFor_some (scope:=scope) (env:=X.env) (λp hp hk=>by
  obtain⟨hv,hn⟩:=hfr p hp hk
  refine I.ok.has p.1 ?_
  rcases hv with z|z
  ·exact absurd z hn
  ·exact z)
 refine wpAny_bind (wpAny_mono (wpAny_comprehension_free (use:=some (assign (.Name x0 px0) X.env)) (Q:=λ_ s'=>SP X pins EE .next s') rfl hs hclos hkind hnames (thn (hi pins s σ H _ I h) λv s1 h1=>thn h1 λitv s2 h2=>?_)) (λ_ s' hq=>wpAny_pure (wpAny_pure hq)) λ_ _ e=>e)
 obtain⟨it,fp,tn,J,H2,rfl,I2,T',st2,f2,q⟩:=h2
 have hD:H2 s2.heap.objs.size=none:=I2.hok.fresh (Nat.le_refl _)
 obtain⟨W,⟨m0,w0⟩,turn⟩:=q _ hD
 refine wpAny_newObj_type (wpAny_newFunctionEnv hcell (by intro y hy;simp at hy) (λh₁ hns₁ hsb₁=>?_) hkind)
 dsimp only at hns₁ hsb₁ ⊢
 have I3:Inv X pins σ (upd H2 s2.heap.objs.size (.lst [])) { s2 with heap:=s2.heap.push { cls:=.type "list",dict:=none,data:=.seq ([]:List Value).toArray } }:=
  I2.laid (t':=s2.toks) (λb u e=>Heap.get?_push_of_some _ e) (Nat.le_refl _) ⟨Nat.zero_le _,[],0,.nil,Heap.get?_push_size _ rfl⟩
 have fpn:∀b∈fp,b≠s2.heap.objs.size:=λb hb=>by
  obtain⟨o,e,_⟩:=T'.obj 0 s2.heap st2 b hb
  exact Nat.ne_of_lt (Heap.lt_size e)
 have fplt:∀b∈fp,b<(s2.heap.push { cls:=.type "list",dict:=none,data:=.seq ([]:List Value).toArray }).objs.size:=λb hb=>by
  obtain⟨o,e,_⟩:=T'.obj 0 s2.heap st2 b hb
  rw[Heap.size_push];exact Nat.lt_succ_of_lt (Heap.lt_size e)
 have f3:∀b∈fp,FpOk X pins (upd H2 s2.heap.objs.size (.lst [])) b:=λb hb=>⟨by rw[upd_ne (fpn b hb)];exact (f2 b hb).1,(f2 b hb).2⟩
 generalize hg2:s2.heap.push { cls:=.type "list",dict:=none,data:=.seq ([]:List Value).toArray }=g2 at hns₁ hsb₁ I3 fplt ⊢
 have keep:∀b o,g2.get? b=some o->h₁.get? b=some o:=λb o e=>(hsb₁.2 b (Nat.ne_of_lt (Heap.lt_size e))).trans (Heap.get?_push_of_some _ e)
 have J0:=compG_start (nn:=nn) (tk:=s2.toks+([]:List (Str×Value)).length) I3 (C:=g2.objs.size) rfl keep hns₁ f3 fplt hkind hcell hloc hcl1 hcl2 hfr
 generalize hY:compCxG X scope cl g2.objs.size nn fp { s2 with heap:=g2 } (upd H2 s2.heap.objs.size (.lst []))=Y at J0
 have eY:PE Y elt te:=by rw[<- hY];exact he _ _ _ _ _
 have eG:PG Y tg g:=by rw[<- hY];exact hgt _ _ _ _ _
 have eT:∀(pins:List (Addr×Obj)) (s:Shared) (σ:St) (H:Hp) (Q:Bool->Hp->Prop),Inv Y pins σ H s->tt σ H Q->wpAny (model Y.prog Y.w) Y.A (T Y.env) (TP Y pins σ Q) Y.xe s:=by rw[<- hY];exact htt _ _ _ _ _
 have eP:Y.prog=X.prog:=by rw[<- hY];rfl
 have eW:Y.w=X.w:=by rw[<- hY];rfl
 have eK:Y.K=X.K:=by rw[<- hY];rfl
 have eA:Y.A=X.A:=by rw[<- hY];rfl
 have eC:Y.calm=true:=by rw[<- hY];exact hc
 have eE:Y.env=compEnvC scope cl g2.objs.size X.env:=by rw[<- hY];rfl
 have eX:Y.xe=λ_ _=>False:=by rw[<- hY];rfl
 have eN:Y.N=nn++X.N:=by rw[<- hY];rfl
 have eEx:Y.ex=fp:=by rw[<- hY];rfl
 have eFs:Y.fs=frs X.stack:=by rw[<- hY];rfl
 have ePn:Y.pn=[]:=by rw[<- hY];rfl
 have fpY:∀{H':Hp},(∀b∈fp,H' b=none)->∀b∈fp,FpOk Y [] H' b:=λhn b hb=>by
  have g:=f3 b hb
  refine⟨hn b hb,?_,?_,.inl (by rw[eEx];exact hb),?_,λp hp=>absurd hp (by rw[ePn];simp)⟩
  ·rw[eE];exact Nat.ne_of_lt (fplt b hb)
  ·rw[eFs]
   intro z
   rcases List.mem_cons.mp (I3.stkSub b z) with z|z
   ·exact g.2.1 z
   ·exact g.2.2.1 z
  ·rw[eE]
   exact λy c e=>g.2.2.2.2.1 y c (hcl1 y c e)
 have loop:∀s₃:Shared,s₃={ s2 with heap:=h₁,toks:=s2.toks+([]:List (Str×Value)).length } ->
   codeAny (model X.prog X.w) X.A (.compLoop (.ListComp elt [⟨tg,iter,ifs,0⟩] scope pos) 0 (.ref it) (.ref s2.heap.objs.size) (compEnvC scope cl g2.objs.size X.env))
    (compPost (model X.prog X.w) X.A X.xe (some (assign (.Name x0 px0) X.env)) (λ_ s'=>SP X pins EE .next s') (.ref s2.heap.objs.size) g2.objs.size) s₃:=by
  rintro s₃ rfl
  refine compLoopG (T (compEnvC scope cl g2.objs.size X.env)) (hturn _ _ _) (λn s'=>∃i xs H' os,os.length=nn.length/\Inv Y [] (os++σ) H' s'/\tn i s'.heap/\(∀b∈fp,H' b=none)/\W i n xs H') ?_ m0
   ⟨0,[],_,nn.map λ_=>none,by simp,J0,T'.keep 0 _ _ st2 (λb hb o e=>keep b o (by rw[<- hg2];exact Heap.get?_push_of_some _ e)),λb hb=>(f3 b hb).1,w0⟩
  rintro n s3 ⟨i,xs,H3,os,hos,I4,st3,fr3,w3⟩
  obtain⟨hDx,hlx,alt⟩:=turn i n xs H3 w3
  rcases alt with ⟨stop,qn⟩|⟨go,step⟩
  ·have D1:=T'.done Y eP eW eK eC i [] s3 _ H3 (λ_ _=>False) I4 (fpY fr3) st3 stop
   rw[eA] at D1
   refine thn D1 λr s4 ⟨hr,I5⟩=>?_
   subst hr
   obtain⟨m4,hns4,_⟩:=id I5.loc
   rw[eE] at hns4
   have hC0:H3 g2.objs.size=none:=by
    have:=I5.free
    rw[eE] at this
    exact this
   have fC:FpOk X pins H3 g2.objs.size:=I3.fpOk (Nat.le_refl _) hC0
   rw[<- hY] at I5
   have IX:Inv X pins σ H3 s4:=compG_end I3 rfl f3 I5 (Heap.SameBut.refl _ _)
   have hns4:s4.heap.Ns g2.objs.size m4:=hns4
   obtain⟨oC,esC,epC,hoC,rC⟩:=id hns4
   have IP:=IX.pinned (fp:=[g2.objs.size]) (λb hb=>by
    have:b=g2.objs.size:=by simpa using hb
    subst this
    exact fC) (λb hb=>by
    have:b=g2.objs.size:=by simpa using hb
    subst this
    exact⟨oC,hoC,λv z=>by rw[rC.1] at z;cases z⟩)
   show wpAny _ X.A (assign (.Name x0 px0) X.env (.ref s2.heap.objs.size)) _ _ s4
   refine wpAny_assign_Name (store_ok (v:=.ref s2.heap.objs.size) IP hN0 hi0 (.inl hx0) rfl (λs5 I6=>?_) (.inr hx0))
   have pC:=I6.pin (g2.objs.size,oC) (List.mem_append_right _ (List.mem_append_right _ (mem_pinsAt (by simp) hoC)))
   refine⟨m4,hns4.at' (λo e=>by rw[hoC] at e;cases e;exact pC.1),λh' sb=>⟨_,H3,?_,qn⟩⟩
   exact I6.unpinned.turned (t':=s5.toks) (λb o hb e=>(sb.2 b hb).trans e) fC.1 fC.2.1 fC.2.2.2.1 fC.2.2.2.2.1 fC.2.2.2.2.2
  ·have G1:=T'.item Y eP eW eK eC i [] s3 _ H3 (λ_ _=>False) I4 (fpY fr3) st3 go
   rw[eA] at G1
   refine thn G1 λr s4 ⟨u,hr,h4⟩=>?_
   subst hr
   refine thn h4 λ_ s5 ⟨y,H5,I5,r5,y5,st5,fr5⟩=>?_
   have I5':=I5.pinned (fpY fr5) (T'.obj _ _ st5)
   have S1:=eG _ s5 _ H5 y u _ I5' r5 (hloc2 y os σ H5 _ hos (step y _ y5 os hos))
   rw[eP,eW,eA,eE,eX] at S1
   refine thn S1 λ_ s6 ⟨σ6,H6,I6,⟨os6,hos6,e6⟩,q6⟩=>?_
   subst e6
   have S2:=eT _ s6 _ _ _ I6 q6
   rw[eP,eW,eA,eE,eX] at S2
   refine thn S2 λok s7 ⟨H7,I7,q7⟩=>?_
   have back:∀{s9:Shared}{H9:Hp}{m':Nat}{zs:List V},Inv Y ([]++pinsAt fp s5.heap) (os6++σ) H9 s9->m'<n->W (i+1) m' zs H9->∃m,m<n/\∃i xs H' os,os.length=nn.length/\Inv Y [] (os++σ) H' s9/\tn i s9.heap/\(∀b∈fp,H' b=none)/\W i m xs H':=λ{s9 H9 m' zs} I9 hm' w9=>by
    have pin:∀b∈fp,∀ob,s5.heap.get? b=some ob->s9.heap.get? b=some ob/\H9 b=none:=λb hb ob e=>by
     have z:=I9.pin (b,ob) (List.mem_append_right _ (List.mem_append_right _ (mem_pinsAt hb e)))
     exact⟨z.1,z.2.1⟩
    refine⟨m',hm',i+1,zs,H9,os6,hos6,I9.unpinned,T'.keep _ _ _ st5 (λb hb ob e=>(pin b hb ob e).1),λb hb=>?_,w9⟩
    obtain⟨ob,e,_⟩:=T'.obj _ _ st5 b hb
    exact (pin b hb ob e).2
   cases ok with
   |true=>
    rw[if_pos rfl] at q7
    rw[if_pos rfl]
    have S3:=eY _ s7 _ _ _ I7 q7
    rw[eP,eW,eA,eE,eX] at S3
    refine thn S3 λxv s8 ⟨v8,H8,I8,r8,hD8,m',hm',w8⟩=>?_
    have S4:=mt_append (X:=Y) _ s8 _ H8 (.ref s2.heap.objs.size) [v8] (.ref s2.heap.objs.size) [xv] (λ_ H9=>H9=upd H8 s2.heap.objs.size (.lst (xs++[v8]))) I8 rfl (.cons r8 .nil) ⟨_,xs,v8,rfl,rfl,hD8,hlx,rfl⟩
    rw[eP,eW,eA,eX] at S4
    refine thn S4 λ_ s9 ⟨v9,H9,I9,_,e9⟩=>?_
    subst e9
    exact back I9 hm' w8
   |false=>
    rw[if_neg Bool.false_ne_true] at q7
    rw[if_neg Bool.false_ne_true]
    obtain⟨m',hm',w8⟩:=q7
    exact back I7 hm' w8
 exact codeAny_compStart_list (loop _ rfl) (T'.self _ 0 _ _ _ (T'.keep 0 _ _ st2 (λb hb o e=>keep b o (by rw[<- hg2];exact Heap.get?_push_of_some _ e))) (loop _ rfl))
theorem ps_setC {i0:Nat}{x0:Str}{px0 spos:Pos}{x:Str}{px pos:Pos}{elt iter:Expr}{scope:Scope}{wi:TI}{te:TE}(N:List Str) (sc:Scope) (hNe:X.N=N) (hsc:X.env.scope=sc) (hc:X.calm=true) (hN:X.N.Nodup) (hi0:X.N[i0]?=some x0) (hx0:X.env.scope.names.lookup x0=some .local) (hi:PI X (.Name x px) iter wi)
  (he:∀cl C fp s₀ H₀,PE (compCxG X scope cl C [x] fp s₀ H₀) elt te)
  (hkind:scope.kind=.function:=by rfl) (hcell:scope.names.all (λy=>y.2 != .cell)=true:=by decide +kernel) (hnames:scope.names.all (λy=>y.2 != .local||scope.names.lookup y.1==some .local)=true:=by decide +kernel)
  (hx:scope.names.lookup x=some .local:=by rfl) (hloc:N.all (λy=>scope.names.lookup y != some .local)=true:=by decide +kernel)
  (hfr:scope.names.all (λp=>p.2 != .free||(sc.names.lookup p.1==some .cell||sc.names.lookup p.1==some .free))=true:=by decide +kernel)
  (hs:∀x,foldedSetIterable iter X.env x=pure x:=by intro _;rfl) (hsw:swapsWith (.ListComp elt [⟨.Name x px,iter,[],0⟩] scope pos) (some (.Name x0 px0)) spos.line X.env=pure true:=by rfl) :
  PS X (.Assign [.Name x0 px0] (.ListComp elt [⟨.Name x px,iter,[],0⟩] scope pos) spos) (tAsg (tCompG 1 wi (gName 0) ttYes te) (gName i0)):=by
 obtain⟨s1,s2,s3,s4⟩:=scopes_ok hNe hsc hcell hnames hloc hfr
 refine ps_compG (nn:=[x]) (λ_=>pure true) hc hi (λit acc env=>turn_no elt _ iter scope pos it acc env) (λcl C fp s₀ H₀=>?_) (λy os σ H R ho h=>loc1 ho h) (λcl C fp s₀ H₀ pins s σ H Q I h=>wpAny_pure ⟨H,I,h⟩) he hkind s1 s2 s3 s4 hs hN hi0 hx0 hsw
 have l:(compCxG X scope cl C [x] fp s₀ H₀).env.scope.names.lookup x=some .local:=lookup_relabel_local hx
 exact pg_name (i:=0) (List.nodup_cons.mpr ⟨λz=>s3 x z hx,hN⟩) rfl (.inl l) (.inr l)
end
end L2
namespace L2
open PySem
theorem beq_inst {α:Type}{i1 i2:BEq α}(h1:@LawfulBEq α i1) (h2:@LawfulBEq α i2):i1=i2:=by
 have:∀a b,@BEq.beq α i1 a b=@BEq.beq α i2 a b:=λa b=>by
  rw[Bool.eq_iff_iff,@beq_iff_eq α i1 h1,@beq_iff_eq α i2 h2]
 cases i1;cases i2
 congr 1
 funext a b
 exact this a b
theorem compC_walk {J:It}{H:Hp}{n:Nat}{item:Nat->V->Hp->Prop}{te:TE}{σ:St}{Fin:Hp->Prop}{D:Addr}(hD:H D=none) (Rel:Nat->V->Hp->Prop) (G:Goes J H n item) (hsz:n<sizeLine)
  (mono:∀i y H1 H2,i<n->Tups H1 H2->Rel i y H1->Rel i y H2)
  (step:∀i x H2,i<n->item i x H2->Same H H2->∀Q':VK,(∀y H3,Same H2 H3->Rel i y H3->Q' y H3)->te (some x::σ) H2 Q')
  (fin:∀ys H2,Same H H2->H2 D=some (.lst ys)->ys.length=n->(∀i y,ys[i]?=some y->Rel i y H2)->Fin H2) :
  ∃W:Nat->Nat->List V->Hp->Prop,(∃m,W 0 m [] (upd H D (.lst []))) /\
   ∀i m xs H2,W i m xs H2->H2 D=some (.lst xs)/\xs.length<sizeLine/\((J.stop i H2/\Fin H2)\/(J.go i H2/\∀y H3,J.yld i H2 y H3->∀os:St,os.length=1 ->
    gName 0 y (os++σ) H3 λσ4 H4=>ttYes σ4 H4 λb H5=>if b=true then te σ4 H5 λv H6=>H6 D=some (.lst xs)/\∃m',m'<m/\W (i+1) m' (xs++[v]) (upd H6 D (.lst (xs++[v]))) else ∃m',m'<m/\W (i+1) m' xs H5)):=by
 obtain⟨W,w0,w⟩:=comp_walk (te:=te) (σ:=σ) hD Rel G hsz mono step fin
 refine⟨W,w0,λi m xs H2 h=>?_⟩
 obtain⟨h1,h2,h3⟩:=w i m xs H2 h
 refine⟨h1,h2,h3.imp id λ⟨g,y⟩=>⟨g,λx H3 hx os ho=>?_⟩⟩
 match os,ho with
 |[o],_=>
  show (if (true:Bool)=true then te (some x::σ) H3 (λv H6=>H6 D=some (.lst xs)/\∃m',m'<m/\W (i+1) m' (xs++[v]) (upd H6 D (.lst (xs++[v])))) else ∃m',m'<m/\W (i+1) m' xs H3)
  rw[if_pos rfl]
  exact y x H3 hx
inductive Ars (X:Cx):List Expr->TA->Prop
 |nil:Ars X [] tNil
 |cons {e:Expr}{es:List Expr}{te:TE}{t:TA}(h:PE X e te) (r:Ars X es t) (hs:starEach (e::es) X.env=(false,eval e X.env)::starEach es X.env):Ars X (e::es) (tCons te t)
theorem Ars.go {X:Cx}:∀{es:List Expr}{t:TA},Ars X es t->PA X es t
 |_,_,.nil=>qa3
 |_,_,.cons h r hs=>qa0 h r.go hs
structure PEb (X:Cx) (e:Expr) (t:TE):Prop where
 go:PE X e t
structure PSb (X:Cx) (st:Stmt) (t:TS):Prop where
 go:PS X st t
inductive StB (X:Cx):List Stmt->TS->Prop
 |one {st:Stmt}{t:TS}(h:PSb X st t):StB X [st] t
 |cons {st:Stmt}{rest:List Stmt}{t u:TS}(h:PSb X st t) (r:StB X rest u):StB X (st::rest) (tSeq t u)
theorem StB.go {X:Cx}:∀{l:List Stmt}{t:TS},StB X l t->PSs X l t
 |_,_,.one h=>pss_one h.go
 |_,_,.cons h r=>pss_cons h.go r.go
theorem seqE {X:Cx}{st:Stmt}{rest:List Stmt}{R:TS->Prop}(h:∃t,PSb X st t/\∃u,PSs X rest u/\R (tSeq t u)):∃t,PSs X (st::rest) t/\R t:=by
 obtain⟨t,h1,u,h2,h3⟩:=h
 exact⟨_,pss_cons h1.go h2,h3⟩
theorem lastE {X:Cx}{st:Stmt}{R:TS->Prop}(h:∃t,PSb X st t/\R t):∃t,PSs X [st] t/\R t:=by
 obtain⟨t,h1,h3⟩:=h
 exact⟨_,pss_one h1.go,h3⟩
inductive Ars2 (X:Cx):List Expr->TA->Prop
 |nil:Ars2 X [] tNil
 |cons {e:Expr}{es:List Expr}{te:TE}{t:TA}(h:PEb X e te) (r:Ars2 X es t) (hs:starEach (e::es) X.env=(false,eval e X.env)::starEach es X.env):Ars2 X (e::es) (tCons te t)
theorem Ars2.go {X:Cx}:∀{es:List Expr}{t:TA},Ars2 X es t->PA X es t
 |_,_,.nil=>qa3
 |_,_,.cons h r hs=>qa0 h.go r.go hs
theorem pe_bmb {X:Cx}{T id:String}{name:Str}{r:V->List V->Hp->VK->Prop}{o e:Expr}{es:List Expr}{to:TE}{t:TA}{apos cpos:Pos}(pa:PlainAttrs T) (slot:Slot T name id) (hty:typeOf (.builtin id)=pure (.type "method_descriptor")) (hm:MtR X id r) (ho:PEb X o to) (ha:Ars2 X (e::es) t)
  (hbase:attributeBase o name X.env (eval o X.env)=eval o X.env:=by rfl)
  (hfew:((backTo cpos (starEach (e::es) X.env)).all (λx=>!x.1)&&(backToKw cpos (keywordEach [] X.env)).all (λx=>x.1.isSome)
   && decide ((e::es).length+([]:List Keyword).length+(if ([]:List Keyword).isEmpty then 0 else 1)<30))=true:=by rfl)
  (hline:(apos.endLine==cpos.line)=true:=by rfl) (hs:starEach (e::es) X.env=(false,eval e X.env)::starEach es X.env:=by rfl) (hplain:(backTo cpos (starEach es X.env)).any (·.1)=false:=by rfl) :
  PEb X (.Call (.Attribute o name apos) (e::es) [] cpos) (tBM X.K T r to t):=⟨pe_bm pa slot hty hm ho.go ha.go hbase hfew hline hs hplain⟩
inductive Prs (X:Cx) (pos:Pos):List (Option Expr)->List Expr->List (TE×TE)->Prop
 |nil:Prs X pos [] [] []
 |cons {k v:Expr}{ks:List (Option Expr)}{vs:List Expr}{tk tv:TE}{trs:List (TE×TE)}(hk:PEb X k tk) (hv:PEb X v tv) (r:Prs X pos ks vs trs):Prs X pos (some k::ks) (v::vs) ((tk,tv)::trs)
theorem Prs.go {X:Cx}{pos:Pos}:∀{ks:List (Option Expr)}{vs:List Expr}{trs:List (TE×TE)},Prs X pos ks vs trs->PPs X pos ks vs trs
 |_,_,_,.nil=>pps_nil
 |_,_,_,.cons hk hv r=>pps_cons hk.go hv.go r.go
theorem pe_dispTs {X:Cx}{pos:Pos}{keys:List (Option Expr)}{values:List Expr}{trs:List (TE×TE)}(hu:X.A.units<cLine) (h:Prs X pos keys values trs) (hall:keys.all (·.isSome)=true) (hl:keys.length=values.length) (h0:keys≠[])
  (h15:keys.length<=15):PEb X (.Dict keys values pos) (tDispT trs):=⟨pe_dispT hu h.go hall hl h0 h15⟩
theorem pe_disps {X:Cx}{pos:Pos}{keys:List (Option Expr)}{values:List Expr}{trs:List (TE×TE)}(h:Prs X pos keys values trs) (hall:keys.all (·.isSome)=true) (hl:keys.length=values.length) (h0:keys≠[])
  (h15:keys.length<=15):PEb X (.Dict keys values pos) (tDisp trs):=⟨pe_disp h.go hall hl h0 h15⟩
theorem pe_intb {X:Cx}{i:Int}{j:Nat}{pos:Pos}:PEb X (.Constant (.int i) j pos) (tC (.int i)):=⟨qa4⟩
theorem ps_setb {X:Cx}{i:Nat}{x:Str}{e:Expr}{te:TE}{pos pos':Pos}(hN:X.N.Nodup) (hi:X.N[i]?=some x) (hx:Loc X.env.scope x) (he:PEb X e te) (hs:swapsWith e (some (.Name x pos')) pos.line X.env=pure false) (hf:X.fn x=true) :
  PSb X (.Assign [.Name x pos'] e pos) (tAsg te (gName i)):=⟨ps_set hN hi hx he.go hs (.inl hf)⟩
theorem four_ints {X:Cx}{a b c d:Int}{ja jb jc jd:Nat}{pa pb pc pd pos:Pos}{x1:Nat}:PEb X (.Tuple [.Constant (.int a) ja pa,.Constant (.int b) jb pb,.Constant (.int c) jc pc,.Constant (.int d) jd pd] x1 pos) (tTup (tCons (tC (.int a)) (tCons (tC (.int b)) (tCons (tC (.int c)) (tCons (tC (.int d)) tNil))))):=
 ⟨pe_tup (Ars.go (.cons qa4 (.cons qa4 (.cons qa4 (.cons qa4 .nil rfl) rfl) rfl) rfl))⟩
theorem two_fours {X:Cx}{a b c d e f g h x y:Int}{ja jb jc jd je jf jg jh jx jy:Nat}{pa pb pc pd pe' pf pg' ph px py pos pos1 pos2:Pos}{x1 x2:Nat}(hu:X.A.units<cLine) :
  PEb X (.Dict [some (.Tuple [.Constant (.int a) ja pa,.Constant (.int b) jb pb,.Constant (.int c) jc pc,.Constant (.int d) jd pd] x1 pos1),some (.Tuple [.Constant (.int e) je pe',.Constant (.int f) jf pf,.Constant (.int g) jg pg',.Constant (.int h) jh ph] x2 pos2)] [.Constant (.int x) jx px,.Constant (.int y) jy py] pos)
   (tDispT [(tTup (tCons (tC (.int a)) (tCons (tC (.int b)) (tCons (tC (.int c)) (tCons (tC (.int d)) tNil)))),tC (.int x)),(tTup (tCons (tC (.int e)) (tCons (tC (.int f)) (tCons (tC (.int g)) (tCons (tC (.int h)) tNil)))),tC (.int y))]):=
 pe_dispTs hu (.cons four_ints pe_intb (.cons four_ints pe_intb .nil)) rfl rfl (λz=>nomatch z) (by simp)
end L2
namespace Pr
open PySem L2 Qf
def PurseAt (H:Hp) (p:Addr):Prop:=∃a b:Int,H p=some (.lst [.int a,.int b])/\0<=a/\0<=b/\b<2^40
theorem PurseAt.same {H H':Hp}{p:Addr}(h:PurseAt H p) (s:Same H H'):PurseAt H' p:=by
 obtain⟨a,b,e,r⟩:=h
 exact⟨a,b,s _ _ e,r⟩
def RowsL (H:Hp) (p:Addr) (rows:List Row):Prop:=∃bs:List Addr,H p=some (.lst (bs.map V.ref))/\bs.length=rows.length/\∀(i:Nat) b r,bs[i]?=some b->rows[i]?=some r->H b=some (.tup (vN r))
theorem RowsL.same {H H':Hp}{p:Addr}{rows:List Row}(h:RowsL H p rows) (s:Same H H'):RowsL H' p rows:=by
 obtain⟨bs,h1,h2,h3⟩:=h
 exact⟨bs,s _ _ h1,h2,λi b r e1 e2=>s _ _ (h3 i b r e1 e2)⟩
theorem nats_of {C:Nat->Prop}:∀{ys:List V},(∀(i:Nat) y,ys[i]?=some y->∃x:Nat,y=.int (x:Nat)/\C x)->∃r:List Nat,ys=vN r/\∀x∈r,C x
 |[],_=>⟨[],rfl,λx hx=>nomatch hx⟩
 |y::ys,h=>by
  obtain⟨x,rfl,hx⟩:=h 0 y rfl
  obtain⟨r,rfl,hr⟩:=nats_of (C:=C) (ys:=ys) λi z hz=>h (i+1) z (by simpa using hz)
  refine⟨x::r,rfl,λz hz=>?_⟩
  rcases List.mem_cons.mp hz with rfl|hz
  ·exact hx
  ·exact hr z hz
theorem comp_rngB {H:Hp}{n:Nat}{te:TE}{σ:St}{Fin:Hp->Prop}{D p:Addr}(hD:H D=none) (hpD:p≠D) (I:Hp->Prop) (Rel:Nat->V->Prop) (hsz:n<sizeLine) (i0:∀H2 o,I H2->I (upd H2 D o)) (hI:I H)
  (step:∀i H2,i<n->But p H H2->I H2->∀Q':VK,(∀y H3,But p H2 H3->I H3->Rel i y->Q' y H3)->te (some (.int (0+(i:Int)))::σ) H2 Q')
  (fin:∀ys H2,But p H H2->I H2->H2 D=some (.lst ys)->ys.length=n->(∀i y,ys[i]?=some y->Rel i y)->Fin H2) :
  ∃W:Nat->Nat->List V->Hp->Prop,(∃m,W 0 m [] (upd H D (.lst []))) /\
   ∀i m xs H2,W i m xs H2->H2 D=some (.lst xs)/\xs.length<sizeLine/\(((Itr 0 n).stop i H2/\Fin H2)\/((Itr 0 n).go i H2/\∀y H3,(Itr 0 n).yld i H2 y H3 ->
    te (some y::σ) H3 λv H4=>H4 D=some (.lst xs)/\∃m',m'<m/\W (i+1) m' (xs++[v]) (upd H4 D (.lst (xs++[v]))))):=by
 refine⟨λi m ys H2=>i<=n/\m=n-i/\ys.length=i/\H2 D=some (.lst ys)/\But p H H2/\I H2/\∀j y,ys[j]?=some y->Rel j y,⟨n,Nat.zero_le _,rfl,rfl,qa1,But.of (sameU hD),i0 _ _ hI,λj y h=>by simp at h⟩,?_⟩
 rintro i m ys H2 ⟨hi,rfl,hl,hd,b2,i2,rel⟩
 refine⟨hd,by lia,?_⟩
 by_cases he:i=n
 ·subst he
  exact .inl ⟨Nat.le_refl i,fin ys H2 b2 i2 hd hl rel⟩
 ·refine .inr ⟨show i<n by lia,λy H3 hy=>?_⟩
  obtain⟨e1,e2⟩:=hy
  rw[e1,e2]
  refine step i H2 (by lia) b2 i2 _ λv H4 b4 i4 r4=>?_
  refine⟨b4 _ _ hd (Ne.symm hpD),n-(i+1),by lia,by lia,rfl,by rw[List.length_append,hl];rfl,qa1,?_,i0 _ _ i4,λj z hz=>?_⟩
  ·intro b o e nb
   rw[upd_ne (qa2 e hD)]
   exact b4 _ _ (b2 _ _ e nb) nb
  ·by_cases hj:j<i
   ·rw[List.getElem?_append_left (by lia)] at hz
    exact rel j z hz
   ·rw[List.getElem?_append_right (by lia)] at hz
    have:j-ys.length=0:=by
     have:=(gS_ hz).1
     simp at this
     lia
    rw[this] at hz
    have:z=v:=by simpa using hz.symm
    subst this
    have:j=i:=by lia
    subst this
    exact r4
def tabl {α κ:Type}(key:α->κ) (l:List α) (k:Nat):List (κ×V):=(l.zipIdx k).map λp=>(key p.1,V.int (p.2:Nat))
section
variable {α κ:Type}[DecidableEq α] [DecidableEq κ]{key:α->κ}
theorem tabl_len (l:List α) (k:Nat):(tabl key l k).length=l.length:=by simp[tabl]
theorem tabl_cons (a:α) (l:List α) (k:Nat):tabl key (a::l) k=(key a,V.int (k:Nat))::tabl key l (k+1):=by simp[tabl]
theorem tabl_snoc (l:List α) (a:α) (k:Nat):tabl key (l++[a]) k=tabl key l k++[(key a,V.int (k+l.length:Nat))]:=by simp[tabl,List.zipIdx_append]
theorem tabl_val (inj:∀a b,key a=key b->a=b) (a:α):∀(l:List α) (k:Nat),valV (tabl key l k) (key a)=if a∈l then some (.int (k+l.idxOf a:Nat)) else none
 |[],k=>by simp[tabl,valV]
 |b::l,k=>by
  rw[tabl_cons]
  by_cases h:b=a
  ·subst h
   rw[valV_pos rfl,if_pos List.mem_cons_self,List.idxOf_cons_self]
   rfl
  ·rw[valV_neg (λz=>h (inj _ _ z)),tabl_val inj a l (k+1)]
   by_cases hm:a∈l
   ·have e:(b::l).idxOf a=l.idxOf a+1:=by
     rw[List.idxOf_cons,beq_false_of_ne h]
     rfl
    rw[if_pos hm,if_pos (List.mem_cons_of_mem _ hm),e]
    congr 3
    lia
   ·rw[if_neg hm,if_neg (λz=>by rcases List.mem_cons.mp z with z|z;exact h z.symm;exact hm z)]
theorem tabl_put (inj:∀a b,key a=key b->a=b){l:List α}{a:α}{k:Nat}(h:a∉l):putK (tabl key l k) (key a) (.int (k+l.length:Nat))=tabl key (l++[a]) k:=by
 unfold putK
 rw[valV_any,tabl_val inj,if_neg h,if_neg (by decide),tabl_snoc]
end
def fKey (p:Nat):Key:=Sum.inl ((p+2:Nat):Int)
theorem fKey_inj (a b:Nat) (h:fKey a=fKey b):a=b:=by
 have:((a+2:Nat):Int)=((b+2:Nat):Int):=Sum.inl.inj h
 lia
def fK (es:List Nat):List (Key×V):=tabl fKey es 2
theorem RowsL.but {H H':Hp}{p e:Addr}{rows:List Row}{o:HO}(h:RowsL H p rows) (b:But e H H') (hpe:p≠e) (he:H e=some o) (no:∀u,o≠.tup u):RowsL H' p rows:=by
 obtain⟨bs,h1,h2,h3⟩:=h
 exact⟨bs,b _ _ h1 hpe,h2,λi c r e1 e2=>b.tups he no _ _ (h3 i c r e1 e2)⟩
theorem sameW {H H':Hp}{a:Addr}{o:HO}(s:Same H H') (h:H a=none):Same H (upd H' a o):=λb u e=>by
 rw[upd_ne (qa2 e h)];exact s b u e
theorem refs_of:∀{ys:List V},(∀(i:Nat) y,ys[i]?=some y->∃b:Addr,y=.ref b)->∃cs:List Addr,ys=cs.map V.ref
 |[],_=>⟨[],rfl⟩
 |y::ys,h=>by
  obtain⟨b,rfl⟩:=h 0 y rfl
  obtain⟨cs,rfl⟩:=refs_of (ys:=ys) λi z hz=>h (i+1) z (by simpa using hz)
  exact⟨b::cs,rfl⟩
def kT (ks:List Row):List (List Key×V):=tabl keyN ks 0
theorem kT_get {ks:List Row}{i:Nat}{kv:List Key×V}(h:(kT ks)[i]?=some kv):∃r,ks[i]?=some r/\kv.1=keyN r:=by
 unfold kT tabl at h
 rw[List.getElem?_map] at h
 obtain⟨p,hp,rfl⟩:=Option.map_eq_some_iff.mp h
 rw[List.getElem?_zipIdx] at hp
 obtain⟨r,hr,rfl⟩:=Option.map_eq_some_iff.mp hp
 exact⟨r,hr,rfl⟩
theorem fK_get {es:List Nat}{i:Nat}{kv:Key×V}(h:(fK es)[i]?=some kv):∃p,es[i]?=some p/\kv.1=fKey p:=by
 unfold fK tabl at h
 rw[List.getElem?_map] at h
 obtain⟨p,hp,rfl⟩:=Option.map_eq_some_iff.mp h
 rw[List.getElem?_zipIdx] at hp
 obtain⟨r,hr,rfl⟩:=Option.map_eq_some_iff.mp hp
 exact⟨r,hr,rfl⟩
def nBase:List (Key×V):=[(Sum.inl 0,.int 0),(Sum.inl 1,.int 1)]
theorem nBase_no (p:Nat):valV nBase (fKey p)=none:=by
 unfold nBase fKey
 rw[valV_neg (λz=>by have:=Sum.inl.inj z;lia),valV_neg (λz=>by have:=Sum.inl.inj z;lia)]
 rfl
theorem valV_append {κ:Type}[DecidableEq κ] (a b:List (κ×V)) (k:κ):valV (a++b) k=(valV a k).or (valV b k):=by
 unfold valV
 rw[List.find?_append]
 cases List.find? (λkv=>decide (kv.1=k)) a<;>rfl
theorem nK_merge:∀(es:List Nat) (ds:List Nat),(ds++es).Nodup->mergeK (nBase++tabl fKey ds 2) (tabl fKey es (2+ds.length))=nBase++tabl fKey (ds++es) 2
 |[],ds,_=>by
  rw[List.append_nil]
  rfl
 |p::es,ds,nd=>by
  rw[tabl_cons]
  show mergeK (putK (nBase++tabl fKey ds 2) (fKey p) (.int (2+ds.length:Nat))) (tabl fKey es (2+ds.length+1))=_
  have hp:p∉ds:=λz=>(List.nodup_append.mp nd).2.2 p z p List.mem_cons_self rfl
  have e:putK (nBase++tabl fKey ds 2) (fKey p) (.int (2+ds.length:Nat))=nBase++tabl fKey (ds++[p]) 2:=by
   unfold putK
   rw[valV_any,valV_append,nBase_no,tabl_val fKey_inj,if_neg hp,if_neg (by decide),tabl_snoc,List.append_assoc]
  have nd2:(ds++[p]++es).Nodup:=by rw[List.append_assoc];exact nd
  have:=nK_merge es (ds++[p]) nd2
  rw[List.length_append,show 2+(ds.length+[p].length)=2+ds.length+1 from rfl,List.append_assoc] at this
  rw[e]
  exact this
theorem nK_val {es:List Nat}{q:Nat}(h:InE es q):valV (nBase++fK es) (Sum.inl (q:Int))=some (.int (nm es q:Nat)):=by
 by_cases z:q<2
 ·rw[nm_low z]
  match q,z with
  |0,_=>rfl
  |1,_=>rfl
 ·have hm:=h.resolve_left z
  have ek:(Sum.inl (q:Int):Key)=fKey (q-2):=by
   show (Sum.inl (q:Int):Key)=Sum.inl ((q-2+2:Nat):Int)
   rw[show q-2+2=q by lia]
  rw[ek,valV_append,nBase_no,nm_high z]
  show valV (tabl fKey es 2) _=_
  rw[tabl_val fKey_inj,if_pos hm]
  congr 3
  lia
theorem datas_rows {H:Hp}:∀{bs:List Addr}{rows:List Row},bs.length=rows.length->(∀(i:Nat) b r,bs[i]?=some b->rows[i]?=some r->H b=some (.tup (vN r))) ->
  DatasAt H (bs.map V.ref) (rows.map λr=>dT (r.map λx:Nat=>(x:Int)))
 |[],[],_,_=>.nil
 |b::bs,r::rows,hl,h=>by
  refine .cons ?_ (datas_rows (by simpa using hl) λi c q e1 e2=>h (i+1) c q (by simpa using e1) (by simpa using e2))
  have h0:=h 0 b r rfl rfl
  rw[vN_int] at h0
  exact .tup h0 (DatasAt.ints _)
theorem rows_lay:∀rows:List Row,PyData.canLayAll0 (rows.map λr=>dT (r.map λx:Nat=>(x:Int)))=true
 |[]=>rfl
 |r::rows=>by
  rw[List.map_cons,PyData.canLayAll0,dT_lay,rows_lay rows];rfl
theorem ints_depth:∀ns:List Int,PyData.depthAll (ns.map PyData.int)=0
 |[]=>rfl
 |n::ns=>by rw[List.map_cons,PyData.depthAll,ints_depth ns];rfl
theorem rows_depth:∀rows:List Row,PyData.depthAll (rows.map λr=>dT (r.map λx:Nat=>(x:Int)))<=1
 |[]=>by decide
 |r::rows=>by
  have:=rows_depth rows
  have e:(dT (r.map λx:Nat=>(x:Int))).depth=1:=by
   show PyData.depthAll _+1=1
   rw[ints_depth]
  rw[List.map_cons,PyData.depthAll,e]
  lia
theorem ref_snoc (cs:List Addr) (t:Addr):cs.map V.ref++[.ref t]=(cs++[t]).map V.ref:=by rw[List.map_append];rfl
def dRows (rows:List Row):List PyData:=rows.map λr=>dT (r.map λx:Nat=>(x:Int))
def tK (rows:List Row):List (List Key×V):=tabl keyN rows 2
theorem idx_inst {α:Type}{i1 i2:BEq α}(h1:@LawfulBEq α i1) (h2:@LawfulBEq α i2) (l:List α) (a:α):@List.idxOf α i1 a l=@List.idxOf α i2 a l:=by
 cases beq_inst h1 h2
 rfl
theorem tK_val (rows:List Row) (r:Row):valV (tK rows) (keyN r)=if r∈rows then some (.int (rows.idxOf r+2:Nat)) else none:=by
 unfold tK
 rw[tabl_val (λa b=>keyN_inj)]
 split
 ·rw[Nat.add_comm]
  exact congrArg (λn:Nat=>some (V.int ((n+2:Nat):Int))) (idx_inst (by infer_instance) (by infer_instance) _ _)
 ·rfl
theorem same_shB {H1 H2:Hp}{t n tp:Nat}{rows:List Row}(h:ShapeB H1 t n tp rows) (s:Same H1 H2):ShapeB H2 t n tp rows:=let ⟨⟨p,a,b⟩,c,d⟩:=h;⟨⟨p,s _ _ a,b.same s⟩,c,d⟩
theorem same_sh {H1 H2:Hp}{t n tp:Nat}{rows:List Row}(h:ShapeAt H1 t n tp rows) (s:Same H1 H2):ShapeAt H2 t n tp rows:=let ⟨⟨p,a,b⟩,c,d⟩:=h;⟨⟨p,s _ _ a,b.same s⟩,c,d⟩
end Pr
namespace Qf
open Tr
theorem told_T {rows:List Row}(ok:RowsOk rows){E:List Nat}(pe:Post rows E):∀q,InE E q->T (told rows E) (nm E q)=T rows q:=by
 intro q
 induction q using Nat.strongRecOn with
 |ind q ih=>
  intro hq
  by_cases z:q<2
  ·rw[nm_low z]
   match q,z with
   |0,_=>rw[T_zero,T_zero]
   |1,_=>rw[T_one,T_one]
  ·have hm:=hq.resolve_left z
   have hp:=pe.lt _ hm
   have ea:=at_idx hm
   obtain⟨a,b,c,d,e⟩:=four_of (ok _ _ (getD_at hp)).1
   have hg:=getD_at hp
   have hta:=told_at (rows:=rows) ea
   have rin:=λx (hx:x∈rows.getD (q-2) [])=>(row_in pe ea hx).1
   have hlt:=(ok _ _ hg).2
   rw[e] at hg hta rin hlt
   rw[nm_high z,T_row (told_ok ok pe) hta]
   have e2:T rows q=.nd (T rows a) (T rows b) (T rows c) (T rows d):=by
    have:=T_row ok hg
    rwa [show q-2+2=q by lia] at this
   rw[e2,ih a (by have:=hlt a (by simp);lia) (rin a (by simp)),ih b (by have:=hlt b (by simp);lia) (rin b (by simp)),ih c (by have:=hlt c (by simp);lia) (rin c (by simp)),ih d (by have:=hlt d (by simp);lia) (rin d (by simp))]
theorem told_shape {n x:Nat}{rows:List Row}(hn:n<=12) (ok:RowsOk rows) (hx:x<rows.length+2) (hd:dp rows x<=n) (np:∀r∈rows,¬Plain r) (nd:rows.Nodup) :
  Canon n (nm (dfs rows n [] x) x) (told rows (dfs rows n [] x))/\T (told rows (dfs rows n [] x)) (nm (dfs rows n [] x) x)=T rows x:=by
 obtain⟨pe,hi⟩:=dfs_post ok n [] x (post_nil rows) hx hd
 exact⟨told_canon hn ok hx hd np nd,told_T ok pe x hi⟩
theorem rowsOf_app {L:List Tr}(h:Ord L){t:Tr}(hk:∀s∈kids t,In L s):rowsOf (L++[t])=rowsOf L++[(kids t).map (name L)]:=by
 unfold rowsOf
 rw[List.map_append]
 congr 1
 ·refine List.map_congr_left λu hu=>?_
  obtain⟨i,hi,e⟩:=List.mem_iff_getElem.mp hu
  exact List.map_congr_left λs hs=>name_app (kid_in h (i:=i) (t:=u) (by rw[List.getElem?_eq_getElem hi,e]) hs).1 h
 ·show[(kids t).map (name (L++[t]))]=_
  congr 1
  exact List.map_congr_left λs hs=>name_app (hk s hs) h
theorem row_mem {L:List Tr}(h:Ord L){a b c d:Tr}(hk:∀s∈kids (.nd a b c d),In L s):(kids (.nd a b c d)).map (name L)∈rowsOf L<->Tr.nd a b c d∈L:=by
 constructor
 ·intro hm
  obtain⟨i,hi,e⟩:=List.mem_iff_getElem.mp hm
  obtain⟨t,ht,er⟩:=rowsOf_get (i:=i) (r:=(kids (.nd a b c d)).map (name L)) (by rw[List.getElem?_eq_getElem hi,e])
  have:=kids_inj ⟨a,b,c,d,rfl⟩ (h.ch i t ht).1 (map_name_inj h hk (λs hs=>(kid_in h ht hs).1) er)
  rw[this]
  exact List.mem_of_getElem? ht
 ·intro hm
  obtain⟨i,hi,e⟩:=List.mem_iff_getElem.mp hm
  exact List.mem_of_getElem? (rowsOf_at (i:=i) (t:=.nd a b c d) (by rw[List.getElem?_eq_getElem hi,e]))
theorem row_idx {L:List Tr}(h:Ord L){i:Nat}{t:Tr}(e:L[i]?=some t):(rowsOf L).idxOf ((kids t).map (name L))=i:=by
 have hl:=(gS_ e).1
 have e2:=rowsOf_at e
 have hl2:i<(rowsOf L).length:=by rw[rowsOf_len];exact hl
 have e3:=(gS_ e2).2
 rw[<- e3]
 exact (rowsOf_nodup h).idxOf_getElem i hl2
end Qf
namespace Pr
open PySem L2 Qf
theorem tK_get {H:Hp}{e u:Addr}{L:List Tr}(hO:Tr.Ord L){a b c d:Tr}(hm:Tr.nd a b c d∈L) (he:H e=some (.dT (tK (Tr.rowsOf L)))) (hu:H u=some (.tup (vN [Tr.name L a,Tr.name L b,Tr.name L c,Tr.name L d]))) :
  DGet H e (.ref u) (some (.int (Tr.name L (.nd a b c d):Nat))):=by
 obtain⟨i,hi,ei⟩:=List.mem_iff_getElem.mp hm
 have ei':L[i]?=some (.nd a b c d):=by rw[List.getElem?_eq_getElem hi,ei]
 have hix:=row_idx hO ei'
 have hmr:(Tr.kids (.nd a b c d)).map (Tr.name L)∈Tr.rowsOf L:=List.mem_of_getElem? (Tr.rowsOf_at ei')
 have:=DGet.t (k:=keyN ((Tr.kids (.nd a b c d)).map (Tr.name L))) he (by rw[keyN_V];exact hu)
 rw[tK_val,if_pos hmr,hix] at this
 rw[Tr.name_at hO ei']
 exact this
theorem nK_put {ds:List Nat}{p:Nat}(h:p∉ds):putK (nBase++fK ds) (fKey p) (.int (2+ds.length:Nat))=nBase++fK (ds++[p]):=by
 unfold putK fK
 rw[valV_any,valV_append,nBase_no,tabl_val fKey_inj,if_neg h,if_neg (by decide),tabl_snoc,List.append_assoc]
theorem nm_pre {E:List Nat}{i q:Nat}(h:InE (E.take i) q):nm (E.take i) q=nm E q:=by
 by_cases z:q<2
 ·rw[nm_low z,nm_low z]
 ·rw[nm_high z,nm_high z]
  have hm:=h.resolve_left z
  conv=>rhs;rw[<- List.take_append_drop i E]
  rw[List.idxOf_append,if_pos hm]
section
variable {P:Program}{w:World}{K:PySem.W.Frag}{mg:Str->Option Value}{base:Heap}
theorem scRenum:FnScope ["row", "numbers"] ["row", "numbers"] (defScope sRenum):=⟨rfl,rfl,rfl,by decide +kernel,rfl,by decide +kernel,by decide +kernel⟩
def spRenum:Sp:=λvs H Q _=>∃(b g:Addr) (r:Row) (kvs:List (Key×V)) (f:Nat->Nat),vs=[.ref b,.ref g]/\H b=some (.tup (vN r))/\r.length=4/\H g=some (.dK kvs)/\(∀q∈r,valV kvs (Sum.inl (q:Int))=some (.int (f q:Nat))) /\
 ∀(H':Hp) (t:Addr),Same H H'->H' t=some (.tup (vN (r.map f)))->Q (.ref t) H'
theorem ok_renum {f:Addr}{fd:FuncData}(F:Fun K "renumbered" "renumbered" sRenum f fd) (B:Blt mg):FnOk P w K mg base CX0 1 f fd ["row", "numbers"] spRenum:=by
 refine F.ok scRenum (λvs H Q E h=>?_) (λcdv A outer s H vs Q E hr h=>?_)
 ·obtain⟨b,g,r,kvs,f,rfl,_⟩:=h
  rfl
 ·obtain⟨b,g,r,kvs,ff,rfl,hb,h4,hg,hv,q⟩:=h
  have hu:A.units+3+1<cLine:=by
   have h2:A.units+3+16*0+200<cLine:=hr.un
   lia
  refine lastE ⟨_,⟨ps_ret (pe_callTy (tupO K rfl) (by rfl) B.tuple PyProof.Rows.boot_tuple (qa0 (pe_compB ["row", "numbers"] (defScope sRenum) rfl rfl rfl scRenum.nd (pi_tup (pv 0)) (λcl C fp s₀ H₀=>pe_dget hu (pv 2) (pv 0) (λ_ _=>rfl))) qa3))⟩,?_⟩
  refine⟨_,rfl,b,rfl,⟨_,SqT.of hb⟩,λD hD=>comp_walk hD (λi z _=>∃m:Nat,r[i]?=some m/\z=.int (ff m:Nat)) (goes_tup (K:=K) hb) (by rw[vN_len,h4];decide) (λ_ _ _ _ _ _ h=>h) ?_ ?_⟩
  ·intro i x H2 hi hx s2 Q' hq
   obtain⟨m,hm,rfl⟩:=vN_get hx
   have dg:DGet H2 g (.int (m:Int)) (some (.int (ff m:Nat))):=by
    have:=DGet.k (k:=Sum.inl (m:Int)) (s2 _ _ hg)
    rw[hv m (List.mem_of_getElem? hm)] at this
    exact this
   exact⟨_,rfl,_,rfl,g,_,rfl,dg,hq _ _ (Same.refl _) ⟨m,hm,rfl⟩⟩
  ·intro ys H2 s2 hd2 hly hys
   have ey:ys=vN (r.map ff):=by
    refine list_ext (by rw[hly,vN_len,vN_len,List.length_map]) λi x hx=>?_
    obtain⟨m,hm,rfl⟩:=hys i x hx
    exact vN_at (by rw[List.getElem?_map,hm];rfl)
   subst ey
   exact⟨D,_,rfl,.inl ⟨SqL.of hd2,λl hl=>q _ l (s2.trans (sameU hl)) qa1⟩⟩
abbrev nSO:List Str:=["n", "top", "rows", "numbers", "told", "place"]
theorem scSO:FnScope nSO ["n", "top", "rows"] (defScope sShapeOf):=⟨rfl,rfl,rfl,by decide +kernel,rfl,by decide +kernel,by decide +kernel⟩
def spSO:Sp:=λvs H Q _=>∃(rp:Addr) (n tp:Nat) (rows:List Row),vs=[.int (n:Nat),.int (tp:Nat),.ref rp]/\RowsS H rp rows/\RowsOk rows/\rows.length<=1190900/\tp<rows.length+2/\n<=12/\dp rows tp<=n /\
 ∀(H':Hp) (t:Addr),Same H H'->TellAt H' t n (nm (dfs rows n [] tp) tp) (told rows (dfs rows n [] tp))->Q (.ref t) H'
theorem ok_SO {f fP fE fR:Addr}{fd fdP fdE fdR:FuncData}(F:Fun K "shape_of" "shape_of" sShapeOf f fd) (B:Blt mg) (T:Cst mg) (hem0:∃t,mg "EMPTY" = some (.int 0 t))
  (hP:mg "places_as_ended" = some (.ref fP)) (FP:Fun K "places_as_ended" "places_as_ended" sPlaces fP fdP) (bP:Binds K fdP ["rows", "top"] [])
  (hE:mg "end_rows" = some (.ref fE)) (FE:Fun K "end_rows" "end_rows" sEnd fE fdE) (bE:Binds K fdE ["rows", "number", "ended"] [])
  (hR:mg "renumbered" = some (.ref fR)) (FR:Fun K "renumbered" "renumbered" sRenum fR fdR) (bR:Binds K fdR ["row", "numbers"] []):FnOk P w K mg base CX0 15 f fd ["n", "top", "rows"] spSO:=by
 have GP:∀d,FnOk P w K mg base CX0 (d+2) fP fdP ["rows", "top"] (spPlaces d):=λd=>ok_places FP B T hE FE bE d
 have GR:FnOk P w K mg base CX0 1 fR fdR ["row", "numbers"] spRenum:=ok_renum FR B
 obtain⟨te,hem⟩:=hem0
 obtain⟨tu,hfu⟩:=T.full
 obtain⟨tf,hfi⟩:=T.first
 refine F.ok scSO (λvs H Q E h=>?_) (λcdv A outer s H vs Q E hr h=>?_)
 ·obtain⟨rp,n,tp,rows,rfl,_⟩:=h
  rfl
 ·obtain⟨rp,n,tp,rows,rfl,hRw,ok,hl,htp,hn,hd,q⟩:=h
  have hu:A.units+3+1<cLine:=by
   have h2:A.units+3+16*14+200<cLine:=hr.un
   lia
  have hrP:Room (n+2) _:=hr.mono (by lia)
  have hr1:Room 1 _:=hr.mono (by decide)
  refine seqE ⟨_,ps_setb (i:=3) scSO.nd rfl (by first|left;rfl|right;rfl) (pe_disps (.cons ⟨pe_glob (v:=.int 0) (by rfl) hem ⟨_,rfl⟩⟩ ⟨pe_glob (v:=.int 0) (by rfl) hem ⟨_,rfl⟩⟩ (.cons ⟨pe_glob (v:=.int 1) (by rfl) hfu ⟨_,rfl⟩⟩ ⟨pe_glob (v:=.int 1) (by rfl) hfu ⟨_,rfl⟩⟩ .nil)) rfl rfl (λz=>nomatch z) (by decide)) rfl rfl,?_⟩
  refine seqE ⟨_,⟨ps_set (i:=4) scSO.nd rfl (by first|left;rfl|right;rfl) (pe_lst qa3)⟩,?_⟩
  refine seqE ⟨_,⟨ps_for PassesOwn.never rfl (pi_list (pe_call (GP n) hrP (by rfl) hP FP.kp bP .nil pass0 (qa0 (pv 2) (qa0 (pv 1) qa3)))) (pg_name (i:=5) scSO.nd rfl (by first|left;rfl|right;rfl))
   (StB.go (.cons ⟨ps_expr (PEb.go (pe_bmb PySem.F.plainAttrs_list PySem.F.slot_list_append PySem.F.type_list_append mt_append ⟨pv 4⟩ (.cons ⟨pe_call GR hr1 (by rfl) hR FR.kp bR .nil pass0 (qa0 (pe_ix (ixS K rfl) (pv 2) (pv 5) (λ_ _=>rfl)) (qa0 (pv 3) qa3))⟩ .nil rfl)))⟩
    (.one ⟨ps_dput hu (pv 3) (pe_op op_add (pv 5) (pe_glob (v:=.int 2) (by rfl) hfi ⟨_,rfl⟩)) (pe_op op_add (pe_op op_sub (pe_callB call_len_seq (by rfl) B.len PySem.boot_len (qa0 (pv 4) qa3)) qa4) (pe_glob (v:=.int 2) (by rfl) hfi ⟨_,rfl⟩)) (by rfl)⟩)))⟩,?_⟩
  refine lastE ⟨_,⟨ps_ret (pe_tup (Ars2.go (.cons ⟨pv 0⟩ (.cons ⟨pe_dget hu (pv 3) (pv 1) (λ_ _=>rfl)⟩ (.cons ⟨pe_callTy (tupO K rfl) (by rfl) B.tuple PyProof.Rows.boot_tuple (qa0 (pv 4) qa3)⟩ .nil rfl) rfl) rfl)))⟩,?_⟩
  refine λg hg=>⟨qa1,nBase,rfl,(by show 2<=15;decide),?_⟩
  have eg:mergeK [] nBase=nBase:=by rfl
  rw[eg]
  have S1:Same H (upd (upd H g (.dK [])) g (.dK nBase)):=λb u z=>by rw[upd_ne (qa2 z hg)];exact keepU z hg
  have hg1:upd (upd H g (.dK [])) g (.dK nBase) g=some (.dK nBase):=qa1
  generalize upd (upd H g (.dK [])) g (.dK nBase)=H1 at S1 hg1 ⊢
  refine⟨(by show 0<=sizeLine;decide),λD hD=>?_⟩
  have hDH:H D=none:=by
   cases z:H D with
   |none=>rfl
   |some o=>rw[S1 _ _ z] at hD;cases hD
  have ngD:g≠D:=qa2 hg1 hD
  have S2:Same H (upd H1 D (.lst [])):=S1.trans (sameU hD)
  refine⟨_,rfl,_,rfl,rp,tp,rows,rfl,hRw.same S2,ok,hl,htp,hd,λH3 LE s3 hLE=>?_⟩
  have hg3:=s3 _ _ (keepU (u:=.lst []) hg1 hD)
  have hD3:=s3 _ _ (qa1 (H:=H1) (a:=D) (o:=.lst []))
  have S3:=S2.trans s3
  have nLg:LE≠g:=λz=>by rw[z,hg3] at hLE;cases hLE
  obtain⟨pe,hxE⟩:=dfs_post ok n [] tp (post_nil rows) htp hd
  generalize dfs rows n [] tp=es at hLE pe hxE q
  have hel:=post_len pe
  obtain⟨bs,hrp,hbl,hrow⟩:=id hRw
  refine⟨LE,rfl,⟨_,SqL.of hLE⟩,for_list (K:=K) (a:=LE) (xs:=vN es) (λi σ H2=>Same H H2/\H2 LE=some (.lst (vN es))/\H2 g=some (.dK (nBase++fK (es.take i)))/\RowsL H2 D ((told rows es).take i) /\
    ∃v5,σ=[some (.int (n:Nat)),some (.int (tp:Nat)),some (.ref rp),some (.ref g),some (.ref D),v5])
   ⟨S3,hLE,hg3,⟨[],hD3,rfl,λi b r e=>by simp at e⟩,none,rfl⟩ (λi σ H2 _ h=>SqL.of h.2.1) ?_ ?_⟩
  ·rintro i y σ H2 hy ⟨s2,hL2,hg2,⟨cs,hD2,hcl,hcr⟩,v5,rfl⟩
   obtain⟨m,hm,rfl⟩:=vN_get hy
   have hie:=(gS_ hm).1
   have nLD:LE≠D:=λz=>by
    rw[z,hD3] at hLE
    have:vN es=[]:=by
     injection hLE with h1
     injection h1 with h2
     exact h2.symm
    have h3:(vN es).length=0:=by rw[this];rfl
    rw[vN_len] at h3
    lia
   have hml:=pe.lt m (List.mem_of_getElem? hm)
   have hgm:=getD_at hml
   have hti:=told_at (rows:=rows) hm
   have h4:=(ok m _ hgm).1
   have hin:∀x∈rows.getD m [],InE (es.take i) x:=λx hx=>by
    rcases pe.ch i m hm x hx with z|⟨j,hj,ej⟩
    ·exact .inl z
    ·exact .inr (List.mem_of_getElem? (i:=j) (by rw[List.getElem?_take,if_pos hj];exact ej))
   have hni:m∉es.take i:=λz=>by
    obtain⟨j,hj,ej⟩:=List.mem_iff_getElem.mp z
    rw[List.length_take] at hj
    have e1:es[j]?=some m:=by
     rw[List.getElem_take] at ej
     rw[List.getElem?_eq_getElem (by lia),ej]
    exact nd_iff.mp pe.nd j i (by lia) hie (by rw[e1,hm])
   have htl:(es.take i).length=i:=by rw[List.length_take];lia
   generalize rows.getD m []=r at hgm hti h4 hin
   have hbm:bs[m]?=some (bs[m]'(by lia)):=List.getElem?_eq_getElem (by lia)
   have hbt:=s2 _ _ (hrow m _ r hbm hgm)
   have ixx:∀Q':VK,Q' (.ref (bs[m]'(by lia))) H2->rIxS K (.ref rp) (.int (m:Int)) H2 Q':=λQ' hQ=>by
    rcases hrp with h|h
    ·exact .inr ⟨rp,_,(m:Int),.ref (bs[m]'(by lia)),rfl,rfl,SqT.of (s2 _ _ h),atI_nat (by rw[List.getElem?_map,hbm];rfl),hQ⟩
    ·exact .inl ⟨rp,_,(m:Int),.ref (bs[m]'(by lia)),rfl,rfl,SqL.of (s2 _ _ h),atI_nat (by rw[List.getElem?_map,hbm];rfl),hQ⟩
   refine⟨_,rfl,.inl ⟨rfl,_,SqL.of hD2⟩,_,rfl,_,rfl,ixx _ ⟨_,rfl,bs[m]'(by lia),g,r,_,nm es,rfl,hbt,h4,hg2,λx hx=>by rw[nK_val (hin x hx),nm_pre (hin x hx)],λH4 t s4 ht=>?_⟩⟩
   have hD4:=s4 _ _ hD2
   have ntD:t≠D:=λz=>by rw[z,hD4] at ht;cases ht
   have hci:cs.length=i:=by rw[hcl,List.length_take,told_len];lia
   refine⟨D,_,.ref t,rfl,rfl,hD4,by rw[List.length_map,hci];exact smallM (by lia),?_⟩
   have hlen:((cs.map V.ref++[V.ref t]).length:Int)=(i:Int)+1:=by rw[List.length_append,List.length_map,hci];rfl
   have hg5:upd H4 D (.lst (cs.map V.ref++[.ref t])) g=some (.dK (nBase++fK (es.take i))):=by rw[upd_ne ngD];exact s4 _ _ hg2
   have dq:=DPut.k (k:=Sum.inl ((m:Int)+2)) (v:=.int (((cs.map V.ref++[V.ref t]).length:Int)-1+2)) hg5 (by
    have:(nBase++fK (es.take i)).length=2+i:=by rw[List.length_append];unfold fK;rw[tabl_len,htl];rfl
    rw[this];exact smallM (by lia))
   refine⟨_,rfl,D,_,rfl,.inl (SqL.of qa1),_,_,rfl,rfl,_,_,rfl,rfl,_,rfl,_,rfl,_,_,rfl,rfl,g,_,rfl,dq,?_⟩
   ·have eput:putK (nBase++fK (es.take i)) (Sum.inl ((m:Int)+2)) (.int (((cs.map V.ref++[V.ref t]).length:Int)-1+2))=nBase++fK (es.take (i+1)):=by
     have h1:=nK_put hni
     have h2:es.take (i+1)=es.take i++[m]:=by
      rw[List.take_succ,hm];rfl
     rw[h2,<- h1,htl]
     congr 1
     rw[hlen]
     congr 1
     lia
    have eput':∀v:V,v=.int (((cs.map V.ref++[V.ref t]).length:Int)-1+2)->putK (nBase++fK (es.take i)) (Sum.inl ((m:Int)+2)) v=nBase++fK (es.take (i+1)):=λv hv=>by rw[hv];exact eput
    refine⟨?_,?_,?_,⟨cs++[t],?_,?_,?_⟩,_,rfl⟩
    ·intro b o z
     rw[upd_ne (qa2 z hg),upd_ne (qa2 z hDH)]
     exact s4 _ _ (s2 _ _ z)
    ·rw[upd_ne nLg,upd_ne nLD]
     exact s4 _ _ hL2
    ·rw[qa1,eput' _ rfl]
    ·rw[upd_ne (Ne.symm ngD),qa1,ref_snoc]
    ·rw[List.length_append,hci,List.length_take,told_len]
     show i+1=_
     lia
    ·intro j b r0 e1 e2
     have ntg:∀{c:Addr}{u:List V},H4 c=some (.tup u)->c≠g/\c≠D:=λ{c u} e=>⟨(λz=>by rw[z,s4 _ _ hg2] at e;cases e),(λz=>by rw[z,hD4] at e;cases e)⟩
     have htk:(told rows es).take (i+1)=(told rows es).take i++[r.map (nm es)]:=by rw[List.take_succ,hti];rfl
     rw[htk] at e2
     by_cases hj:j<i
     ·rw[List.getElem?_append_left (by lia)] at e1
      rw[List.getElem?_append_left (by rw[List.length_take,told_len];lia)] at e2
      have hb:=s4 _ _ (hcr j b r0 e1 e2)
      rw[upd_ne (ntg hb).1,upd_ne (ntg hb).2]
      exact hb
     ·rw[List.getElem?_append_right (by lia)] at e1
      rw[List.getElem?_append_right (by rw[List.length_take,told_len];lia)] at e2
      have hj0:j-cs.length=0:=by
       have:=(gS_ e1).1
       simp at this
       lia
      have hj1:j-((told rows es).take i).length=0:=by
       rw[List.length_take,told_len]
       lia
      rw[hj0] at e1
      rw[hj1] at e2
      have eb:b=t:=by simpa using e1.symm
      have er:r0=r.map (nm es):=by simpa using e2.symm
      rw[eb,er,upd_ne (ntg ht).1,upd_ne ntD]
      exact ht
  ·rintro σ H2 ⟨s2,hL2,hg2,hR2,v5,rfl⟩
   rw[vN_len,List.take_length] at hg2
   have htk:(told rows es).take (vN es).length=told rows es:=by rw[vN_len];exact List.take_of_length_le (by rw[told_len];exact Nat.le_refl _)
   rw[htk] at hR2
   obtain⟨cs,hD2,hcl,hcr⟩:=hR2
   have dg:DGet H2 g (.int (tp:Int)) (some (.int (nm es tp:Nat))):=by
    have:=DGet.k (k:=Sum.inl (tp:Int)) hg2
    rw[nK_val hxE] at this
    exact this
   refine⟨_,rfl,_,rfl,_,rfl,g,_,rfl,dg,_,rfl,D,_,rfl,.inl ⟨SqL.of hD2,λl hl=>⟨(by show 3<=sizeLine;decide),λt ht=>?_⟩⟩⟩
   exact q _ t ((s2.trans (sameU hl)).trans (sameU ht)) ⟨l,qa1,cs,keepU qa1 ht,hcl,λi b r e1 e2=>keepU (keepU (hcr i b r e1 e2) hl) ht⟩
end
end Pr
namespace Qf
open Tr
def mkT (a b c d:Tr):Tr:=if a=z/\b=z/\c=z/\d=z then z else if a=o/\b=o/\c=o/\d=o then o else .nd a b c d
def ins (t:Tr) (L:List Tr):List Tr:=if t=z\/t=o\/t∈L then L else L++[t]
theorem ins_ext (t:Tr) (L:List Tr):∃s,ins t L=L++s/\s.length<=1:=by
 unfold ins
 split
 ·exact⟨[],by simp,by decide⟩
 ·exact⟨[t],rfl,Nat.le_refl 1⟩
theorem ins_in (t:Tr) (L:List Tr):In (ins t L) t:=by
 unfold ins
 split
 ·assumption
 ·exact .inr (.inr (by simp))
theorem ins_ord {L:List Tr}(h:Ord L){a b c d:Tr}(ha:In L a) (hb:In L b) (hc:In L c) (hd:In L d):Ord (ins (mkT a b c d) L):=by
 unfold ins
 split
 ·exact h
 ·rename_i hn
  have e:mkT a b c d=.nd a b c d:=by
   unfold mkT at hn ⊢
   split
   ·rename_i h1;rw[if_pos h1] at hn;exact absurd (.inl rfl) hn
   ·rename_i h1
    rw[if_neg h1] at hn
    split
    ·rename_i h2;rw[if_pos h2] at hn;exact absurd (.inr (.inl rfl)) hn
    ·rfl
  rw[e] at hn ⊢
  have nm:Tr.nd a b c d∉L:=λz=>hn (.inr (.inr z))
  refine⟨?_,?_⟩
  ·rw[List.nodup_append]
   exact⟨h.nd,by simp,λx hx y hy e=>nm (by
    have:y=.nd a b c d:=by simpa using hy
    rw[<- this,<- e];exact hx)⟩
  ·intro i t ht
   by_cases hi:i<L.length
   ·rw[List.getElem?_append_left hi] at ht
    obtain⟨h1,h2⟩:=h.ch i t ht
    refine⟨h1,λs hs=>(h2 s hs).imp id λh=>h.imp id λ⟨j,hj,e⟩=>⟨j,hj,?_⟩⟩
    rw[List.getElem?_append_left (by lia)];exact e
   ·have hlen:=(gS_ ht).1
    rw[List.length_append] at hlen
    have hi2:i=L.length:=by simp at hlen;lia
    subst hi2
    have et:t=.nd a b c d:=by simpa using ht.symm
    subst et
    refine⟨⟨a,b,c,d,rfl⟩,λs hs=>?_⟩
    have hin:In L s:=by
     have:s=a\/s=b\/s=c\/s=d:=by simpa [kids] using hs
     rcases this with rfl|rfl|rfl|rfl<;>assumption
    refine hin.imp id λh=>h.imp id λhm=>?_
    obtain⟨j,hj,e⟩:=List.mem_iff_getElem.mp hm
    exact⟨j,hj,by rw[List.getElem?_append_left hj,List.getElem?_eq_getElem hj,e]⟩
theorem mkT_nd {a b c d:Tr}(h1:¬(a=z/\b=z/\c=z/\d=z)) (h2:¬(a=o/\b=o/\c=o/\d=o)):mkT a b c d=.nd a b c d:=by
 unfold mkT
 rw[if_neg h1,if_neg h2]
theorem plain_names {L:List Tr}{a b c d:Tr}:Plain [name L a,name L b,name L c,name L d]<->(a=z/\b=z/\c=z/\d=z)\/(a=o/\b=o/\c=o/\d=o):=by
 constructor
 ·rintro (e|e)
  ·simp only[List.cons.injEq,and_true] at e
   exact .inl ⟨name_zero e.1,name_zero e.2.1,name_zero e.2.2.1,name_zero e.2.2.2⟩
  ·simp only[List.cons.injEq,and_true] at e
   exact .inr ⟨name_one e.1,name_one e.2.1,name_one e.2.2.1,name_one e.2.2.2⟩
 ·rintro (⟨rfl,rfl,rfl,rfl⟩|⟨rfl,rfl,rfl,rfl⟩)
  ·exact .inl rfl
  ·exact .inr rfl
end Qf
namespace Pr
open PySem L2 Qf
theorem kn:¬(("kept" : Str) = "numbers"):=by decide +kernel
def bFlds (k d:Addr):List (Str×V):=putF "numbers" (.ref d) (putF "kept" (.ref k) [])
theorem bFlds_kept (k d:Addr):(bFlds k d).lookup ("kept" : Str)=some (.ref k):=by
 unfold bFlds
 rw[lookup_putF,if_neg kn,lookup_putF,if_pos rfl]
theorem bFlds_num (k d:Addr):(bFlds k d).lookup ("numbers" : Str)=some (.ref d):=by
 unfold bFlds
 rw[lookup_putF,if_pos rfl]
theorem bFlds_no (k d:Addr){m:Str}(h1:¬m = "numbers") (h2:¬m = "kept"):(bFlds k d).lookup m=none:=by
 unfold bFlds
 rw[lookup_putF,if_neg h1,lookup_putF,if_neg h2]
 all_goals rfl
structure BookAt (C:Addr) (H:Hp) (p k d:Addr) (L:List Tr):Prop where
 ob:∃dx,H p=some (.ins C dx (bFlds k d))
 kp:RowsL H k (Tr.rowsOf L)
 dc:H d=some (.dT (tK (Tr.rowsOf L)))
 od:Tr.Ord L
structure BookIn (K:PySem.W.Frag) (mg:Str->Option Value) (C:Addr):Prop where
 cl:Cls K C
 nK:NoAttr K C "kept"
 nN:NoAttr K C "numbers"
 mgC:mg "Book" = some (.ref C)
def But2 (k d:Addr) (H H':Hp):Prop:=∀b o,H b=some o->b≠k->b≠d->H' b=some o
theorem But2.trans {k d:Addr}{H H1 H2:Hp}(a:But2 k d H H1) (b:But2 k d H1 H2):But2 k d H H2:=λc o h n1 n2=>b c o (a c o h n1 n2) n1 n2
theorem But2.of {k d:Addr}{H H':Hp}(s:Same H H'):But2 k d H H':=λb o h _ _=>s b o h
section
variable {P:Program}{w:World}{K:PySem.W.Frag}{mg:Str->Option Value}{base:Heap}
theorem scBkI:FnScope ["self"] ["self"] (defScope sBkInit):=⟨rfl,rfl,rfl,by decide +kernel,rfl,by decide +kernel,by decide +kernel⟩
def spBkI (C:Addr):Sp:=λvs H Q _=>∃(p dx:Addr),vs=[.ref p]/\H p=some (.ins C dx [])/\∀(k d:Addr) (H':Hp),H k=none->H d=none->BookAt C H' p k d []->But p H H'->Q .non H'
theorem ok_bkI {f C:Addr}{fd:FuncData}(F:Fun K "__init__" "Book.__init__" sBkInit f fd) (T:BookIn K mg C):FnOk P w K mg base CX0 1 f fd ["self"] (spBkI C):=by
 refine F.ok scBkI (λvs H Q E h=>?_) (λcdv A outer s H vs Q E hr h=>?_)
 ·obtain⟨p,dx,rfl,_⟩:=h
  rfl
 ·obtain⟨p,dx,rfl,hp,q⟩:=h
  refine seqE ⟨_,⟨ps_fld (pv 0) (pe_lst qa3) rfl⟩,?_⟩
  refine lastE ⟨_,⟨ps_fld (pv 0) pe_dnewT rfl⟩,?_⟩
  refine⟨(by show 0<=sizeLine;decide),λk hk=>?_⟩
  have npk:p≠k:=qa2 hp hk
  refine⟨_,rfl,p,C,dx,[],rfl,(by rw[upd_ne npk];exact hp),T.cl,T.nK,(by show 0<1000;decide),λd hd=>?_⟩
  have hkd:upd (upd H k (.lst [])) p (.ins C dx (putF "kept" (.ref k) [])) k=some (.lst []):=by rw[upd_ne (Ne.symm npk),qa1]
  have nkd:k≠d:=qa2 hkd hd
  have npd:p≠d:=qa2 qa1 hd
  have hdH:H d=none:=by
   rw[upd_ne (Ne.symm npd),upd_ne (Ne.symm nkd)] at hd
   exact hd
  refine⟨_,rfl,p,C,dx,_,rfl,(by rw[upd_ne npd];exact qa1),T.cl,T.nN,(by show 1<1000;decide),?_⟩
  refine q k d _ hk hdH ⟨⟨dx,qa1⟩,⟨[],?_,rfl,λi b r e=>by simp at e⟩,?_,Tr.ord_nil⟩ λb o e nb=>?_
  ·rw[upd_ne (Ne.symm npk),upd_ne nkd];exact hkd
  ·rw[upd_ne (Ne.symm npd),qa1];rfl
  ·rw[upd_ne nb,upd_ne (qa2 e hdH),upd_ne nb,upd_ne (qa2 e hk)]
   exact e
theorem scBkN:FnScope ["self", "row"] ["self", "row"] (defScope sBkNum):=⟨rfl,rfl,rfl,by decide +kernel,rfl,by decide +kernel,by decide +kernel⟩
def spBkN (C:Addr):Sp:=λvs H Q _=>∃(p k d b:Addr) (L:List Tr) (t0 t1 t2 t3:Tr),vs=[.ref p,.ref b]/\BookAt C H p k d L/\H b=some (.tup (vN [Tr.name L t0,Tr.name L t1,Tr.name L t2,Tr.name L t3]))/\Tr.In L t0/\Tr.In L t1/\Tr.In L t2/\Tr.In L t3/\L.length<=1190990 /\
 ∀H',But2 k d H H'->BookAt C H' p k d (ins (mkT t0 t1 t2 t3) L)->Q (.int (Tr.name (ins (mkT t0 t1 t2 t3) L) (mkT t0 t1 t2 t3):Nat)) H'
theorem ok_bkN {f fP C:Addr}{fd fdP:FuncData}(F:Fun K "number_for" "Book.number_for" sBkNum f fd) (B:Blt mg) (Tc:Cst mg) (T:BookIn K mg C)
  (hP:mg "is_plain" = some (.ref fP)) (FP:Fun K "is_plain" "is_plain" sPlain fP fdP) (bP:Binds K fdP ["row"] []):FnOk P w K mg base CX0 3 f fd ["self", "row"] (spBkN C):=by
 have GP:FnOk P w K mg base CX0 2 fP fdP ["row"] spPlain:=ok_plain FP Tc
 obtain⟨tf,hfi⟩:=Tc.first
 refine F.ok scBkN (λvs H Q E h=>?_) (λcdv A outer s H vs Q E hr h=>?_)
 ·obtain⟨p,k,d,b,L,t0,t1,t2,t3,rfl,_⟩:=h
  rfl
 ·obtain⟨p,k,d,b,L,t0,t1,t2,t3,rfl,hB,hb,i0,i1,i2,i3,hL,q⟩:=h
  have hu:A.units+3+1<cLine:=by
   have h2:A.units+3+16*2+200<cLine:=hr.un
   lia
  refine seqE ⟨_,⟨ps_if (pt_val (pe_call GP hr (by rfl) hP FP.kp bP .nil pass0 (qa0 (pv 1) qa3))) (pss_one (ps_ret (pe_ix ix_tup (pv 1) qa4 (λ_ _=>rfl)))) pss_nil⟩,?_⟩
  refine seqE ⟨_,⟨ps_if (pt_cmp (pc_dnotin hu (pv 1) (pe_fld (pv 0) rfl)))
   (StB.go (.cons ⟨ps_dput hu (pe_fld (pv 0) rfl) (pv 1) (pe_op op_add (pe_callB call_len_seq (by rfl) B.len PySem.boot_len (qa0 (pe_fld (pv 0) rfl) qa3)) (pe_glob (v:=.int 2) (by rfl) hfi ⟨_,rfl⟩)) (by rfl)⟩
    (.one ⟨ps_expr (pe_bm PySem.F.plainAttrs_list PySem.F.slot_list_append PySem.F.type_list_append mt_append (pe_fld (pv 0) rfl) (qa0 (pv 1) qa3))⟩))) pss_nil⟩,?_⟩
  refine lastE ⟨_,⟨ps_ret (pe_dget hu (pe_fld (pv 0) rfl) (pv 1) (λ_ _=>rfl))⟩,?_⟩
  refine⟨_,rfl,b,_,rfl,hb,rfl,λH1 s1=>⟨_,rfl,?_⟩⟩
  obtain⟨⟨dx,hp⟩,⟨bs,hk,hbl,hrow⟩,hd,hO⟩:=id hB
  have B1:BookAt C H1 p k d L:=⟨⟨dx,s1 _ _ hp⟩,⟨bs,s1 _ _ hk,hbl,λi c r e1 e2=>s1 _ _ (hrow i c r e1 e2)⟩,s1 _ _ hd,hO⟩
  have hb1:=s1 _ _ hb
  refine ite2 (λhc=>?_) (λhc=>?_)
  ·rcases plain_names.mp (of_decide_eq_true hc) with ⟨rfl,rfl,rfl,rfl⟩|⟨rfl,rfl,rfl,rfl⟩
   ·exact⟨_,rfl,b,_,0,.int (0:Nat),rfl,rfl,SqT.of hb1,rfl,q H1 (But2.of s1) B1⟩
   ·exact⟨_,rfl,b,_,0,.int (1:Nat),rfl,rfl,SqT.of hb1,rfl,q H1 (But2.of s1) B1⟩
  ·have hn:=λz=>hc (decide_eq_true (plain_names (L:=L).mpr z))
   have em:mkT t0 t1 t2 t3=.nd t0 t1 t2 t3:=mkT_nd (λz=>hn (.inl z)) (λz=>hn (.inr z))
   rw[em] at q
   have hkin:∀s∈Tr.kids (.nd t0 t1 t2 t3),Tr.In L s:=λs hs=>by
    have:s=t0\/s=t1\/s=t2\/s=t3:=by simpa [Tr.kids] using hs
    rcases this with rfl|rfl|rfl|rfl<;>assumption
   have hmem:=row_mem hO hkin
   have hrow4:(Tr.kids (.nd t0 t1 t2 t3)).map (Tr.name L)=[Tr.name L t0,Tr.name L t1,Tr.name L t2,Tr.name L t3]:=rfl
   rw[hrow4] at hmem
   have hbk:H1 b=some (.tup ((keyN [Tr.name L t0,Tr.name L t1,Tr.name L t2,Tr.name L t3]).map kV)):=by rw[keyN_V];exact hb1
   obtain⟨⟨dx1,hp1⟩,⟨bs1,hk1,hbl1,hrow1⟩,hd1,_⟩:=id B1
   refine⟨_,rfl,_,rfl,p,C,dx1,_,_,rfl,hp1,T.cl,T.nN,bFlds_num _ _,d,_,rfl,DGet.t hd1 hbk,_,rfl,?_⟩
   rw[tK_val]
   by_cases hm:[Tr.name L t0,Tr.name L t1,Tr.name L t2,Tr.name L t3]∈Tr.rowsOf L
   ·rw[if_pos hm]
    refine iteF ?_
    have hT:=hmem.mp hm
    have ei:ins (.nd t0 t1 t2 t3) L=L:=by unfold ins;rw[if_pos (.inr (.inr hT))]
    rw[ei] at q
    exact⟨_,rfl,p,C,dx1,_,_,rfl,hp1,T.cl,T.nN,bFlds_num _ _,_,rfl,d,_,rfl,tK_get hO hT hd1 hb1,q H1 (But2.of s1) B1⟩
   ·rw[if_neg hm]
    refine iteT ?_
    have hT:Tr.nd t0 t1 t2 t3∉L:=λz=>hm (hmem.mpr z)
    have ei:ins (.nd t0 t1 t2 t3) L=L++[.nd t0 t1 t2 t3]:=by
     unfold ins
     rw[if_neg]
     rintro (z|z|z)
     ·cases z
     ·cases z
     ·exact hT z
    have O5:=ins_ord hO i0 i1 i2 i3
    rw[em,ei] at O5
    rw[ei] at q
    have er:=rowsOf_app hO hkin
    rw[hrow4] at er
    have hlt:(tK (Tr.rowsOf L)).length=L.length:=by unfold tK;rw[tabl_len,Tr.rowsOf_len]
    have hbsl:(bs1.map V.ref).length=L.length:=by rw[List.length_map,hbl1,Tr.rowsOf_len]
    have npd:p≠d:=λz=>by rw[z,hd1] at hp1;cases hp1
    have nkd:k≠d:=λz=>by rw[z,hd1] at hk1;cases hk1
    have npk:p≠k:=λz=>by rw[z,hk1] at hp1;cases hp1
    have nbd:b≠d:=λz=>by rw[z,hd1] at hb1;cases hb1
    have nbk:b≠k:=λz=>by rw[z,hk1] at hb1;cases hb1
    have dq:=DPut.t (v:=.int (((bs1.map V.ref).length:Int)+2)) hd1 hbk (by rw[hlt];exact smallM (by lia))
    refine⟨_,rfl,p,C,dx1,_,_,rfl,hp1,T.cl,T.nK,bFlds_kept _ _,k,_,rfl,.inl (SqL.of hk1),_,_,rfl,rfl,_,rfl,p,C,dx1,_,_,rfl,hp1,T.cl,T.nN,bFlds_num _ _,_,rfl,d,_,rfl,dq,?_⟩
    have eput:putK (tK (Tr.rowsOf L)) (keyN [Tr.name L t0,Tr.name L t1,Tr.name L t2,Tr.name L t3]) (.int (((bs1.map V.ref).length:Int)+2))=tK (Tr.rowsOf (L++[.nd t0 t1 t2 t3])):=by
     have h1:=tabl_put (key:=keyN) (k:=2) (λa b=>keyN_inj) hm
     rw[er,hbsl]
     unfold tK
     rw[<- h1,Tr.rowsOf_len]
     congr 2
     lia
    rw[eput]
    have hp2:upd H1 d (.dT (tK (Tr.rowsOf (L++[.nd t0 t1 t2 t3])))) p=some (.ins C dx1 (bFlds k d)):=by rw[upd_ne npd];exact hp1
    have hk2:upd H1 d (.dT (tK (Tr.rowsOf (L++[.nd t0 t1 t2 t3])))) k=some (.lst (bs1.map V.ref)):=by rw[upd_ne nkd];exact hk1
    refine⟨_,rfl,p,C,dx1,_,_,rfl,hp2,T.cl,T.nK,bFlds_kept _ _,.inl ⟨rfl,_,SqL.of hk2⟩,_,rfl,k,_,.ref b,rfl,rfl,hk2,by rw[hbsl];exact smallM (by lia),?_⟩
    have tup3:∀{c:Addr}{u:List V},H1 c=some (.tup u)->upd (upd H1 d (.dT (tK (Tr.rowsOf (L++[.nd t0 t1 t2 t3]))))) k (.lst (bs1.map V.ref++[.ref b])) c=some (.tup u):=λ{c u} e=>by
     have n1:c≠k:=λz=>by rw[z,hk1] at e;cases e
     have n2:c≠d:=λz=>by rw[z,hd1] at e;cases e
     rw[upd_ne n1,upd_ne n2];exact e
    have B3:BookAt C (upd (upd H1 d (.dT (tK (Tr.rowsOf (L++[.nd t0 t1 t2 t3]))))) k (.lst (bs1.map V.ref++[.ref b]))) p k d (L++[.nd t0 t1 t2 t3]):=by
     refine⟨⟨dx1,by rw[upd_ne npk];exact hp2⟩,⟨bs1++[b],by rw[qa1,ref_snoc],?_,?_⟩,by rw[upd_ne (Ne.symm nkd),qa1],O5⟩
     ·rw[List.length_append,hbl1,Tr.rowsOf_len,Tr.rowsOf_len,List.length_append];rfl
     ·intro j c r e1 e2
      rw[er] at e2
      have hbl2:bs1.length=L.length:=by rw[hbl1,Tr.rowsOf_len]
      by_cases hj:j<L.length
      ·rw[List.getElem?_append_left (by lia)] at e1
       rw[List.getElem?_append_left (by rw[Tr.rowsOf_len];exact hj)] at e2
       exact tup3 (hrow1 j c r e1 e2)
      ·rw[List.getElem?_append_right (by lia)] at e1
       rw[List.getElem?_append_right (by rw[Tr.rowsOf_len];lia)] at e2
       have hj0:j-bs1.length=0:=by
        have:=(gS_ e1).1
        simp at this
        lia
       have hj1:j-(Tr.rowsOf L).length=0:=by rw[Tr.rowsOf_len];lia
       rw[hj0] at e1
       rw[hj1] at e2
       have ec:c=b:=by simpa using e1.symm
       have erow:r=[Tr.name L t0,Tr.name L t1,Tr.name L t2,Tr.name L t3]:=by simpa using e2.symm
       rw[ec,erow]
       exact tup3 hb1
    have hbt3:=tup3 hb1
    have X3:But2 k d H1 (upd (upd H1 d (.dT (tK (Tr.rowsOf (L++[.nd t0 t1 t2 t3]))))) k (.lst (bs1.map V.ref++[.ref b]))):=λc o e n1 n2=>by rw[upd_ne n1,upd_ne n2];exact e
    generalize upd (upd H1 d (.dT (tK (Tr.rowsOf (L++[.nd t0 t1 t2 t3]))))) k (.lst (bs1.map V.ref++[.ref b]))=H3 at B3 hbt3 X3 ⊢
    obtain⟨⟨dx3,hp3⟩,_,hd3,_⟩:=id B3
    have enm:∀s,Tr.In L s->Tr.name (L++[.nd t0 t1 t2 t3]) s=Tr.name L s:=λs hs=>Tr.name_app hs hO
    exact⟨_,rfl,p,C,dx3,_,_,rfl,hp3,T.cl,T.nN,bFlds_num _ _,_,rfl,d,_,rfl,tK_get (a:=t0) (b:=t1) (c:=t2) (d:=t3) O5 (by simp) hd3 (by rw[hbt3,enm t0 i0,enm t1 i1,enm t2 i2,enm t3 i3]),q H3 ((But2.of s1).trans X3) B3⟩
end
end Pr
namespace L2
open PySem
def iSeq (K:PySem.W.Frag) (tl:TE):TI:=λσ H R=>tl σ H λx H1=>∃a,x=.ref a/\(((∃xs,SqL K H1 a xs)/\R (Itl K a) H1)\/((∃xs,SqT K H1 a xs)/\R (Itt K a) H1))
theorem pi_seq {X:Cx}{tg l:Expr}{tl:TE}(hl:PE X l tl):PI X tg l (iSeq X.K tl):=by
 intro pins s σ H R I h
 refine thn (hl pins s σ H _ I h) λv s1 ⟨x,H1,I1,r1,a,ex,alt⟩=>?_
 subst ex
 cases r1
 have fresh:∀b∈[s1.heap.objs.size],FpOk X pins H1 b:=λb hb=>by
  have e:b=s1.heap.objs.size:=by simpa using hb
  subst e
  exact I1.fpOk (Nat.le_refl _) (I1.hok.fresh (Nat.le_refl _))
 rcases alt with ⟨⟨xs,hq⟩,q⟩|⟨⟨xs,hq⟩,q⟩
 ·obtain⟨its,rv,p,hz⟩:=I1.list hq
  exact wpAny_pyIter_list p.isList ⟨s1.heap.objs.size,[s1.heap.objs.size],_,_,H1,rfl,I1.kept (t':=s1.toks) λb o e=>Heap.get?_push_of_some _ e,turn_list a _,⟨_,Heap.get?_push_size _ rfl,rfl,rfl⟩,fresh,q⟩
 ·obtain⟨its,rv,p,hz⟩:=I1.tuple hq
  exact wpAny_pyIter_tuple (show s1.heap.IsTuple a its.toArray from p) ⟨s1.heap.objs.size,[s1.heap.objs.size],_,_,H1,rfl,I1.kept (t':=s1.toks) λb o e=>Heap.get?_push_of_some _ e,turn_tuple a _,⟨_,Heap.get?_push_size _ rfl,rfl,rfl⟩,fresh,q⟩
theorem for_seq2 {K:PySem.W.Frag}{a:Addr}{xs:List V}{g:TG}{tb:TS}{D:Ends}{σ:St}{H:Hp}(Pv:Nat->St->Hp->Prop) (hk:(∀i σ H2,Pv i σ H2->SqL K H2 a xs)\/(∀i σ H2,Pv i σ H2->SqT K H2 a xs)) (h0:Pv 0 σ H)
  (hs:∀i x σ H,xs[i]?=some x->Pv i σ H->g x σ H λσ2 H2=>tb { D with nx:=Pv (i+1),ct:=Pv (i+1),bk:=D.nx } σ2 H2) (hd:∀σ H,Pv xs.length σ H->D.nx σ H) :
  ((∃xs,SqL K H a xs)/\∃W:Nat->Nat->St->Hp->Prop,(∃m,W 0 m σ H)/\∀i m σ H,W i m σ H ->
   ((Itl K a).stop i H/\D.nx σ H)\/((Itl K a).go i H/\∃N:St->Hp->Prop,(∀σ' H',N σ' H'->∃m',m'<m/\W (i+1) m' σ' H')/\∀x H',(Itl K a).yld i H x H'->g x σ H' λσ2 H2=>tb { D with nx:=N,ct:=N,bk:=D.nx } σ2 H2)) \/
  ((∃xs,SqT K H a xs)/\∃W:Nat->Nat->St->Hp->Prop,(∃m,W 0 m σ H)/\∀i m σ H,W i m σ H ->
   ((Itt K a).stop i H/\D.nx σ H)\/((Itt K a).go i H/\∃N:St->Hp->Prop,(∀σ' H',N σ' H'->∃m',m'<m/\W (i+1) m' σ' H')/\∀x H',(Itt K a).yld i H x H'->g x σ H' λσ2 H2=>tb { D with nx:=N,ct:=N,bk:=D.nx } σ2 H2)):=by
 rcases hk with h|h
 ·exact .inl ⟨⟨xs,h 0 σ H h0⟩,for_list Pv h0 (λi σ H2 hi hp=>h i σ H2 hp) hs hd⟩
 ·exact .inr ⟨⟨xs,h 0 σ H h0⟩,for_tup Pv h0 (λi σ H2 hi hp=>h i σ H2 hp) hs hd⟩
end L2
namespace Qf
open Tr
def insR (rows:List Row) (L:List Tr):Nat->List Tr
 |0=>L
 |i+1=>ins (T rows (i+2)) (insR rows L i)
theorem mkT_T {rows:List Row}(ok:RowsOk rows) (np:∀r∈rows,¬Plain r){p a b c e:Nat}(hp:rows[p]?=some [a,b,c,e]):mkT (T rows a) (T rows b) (T rows c) (T rows e)=T rows (p+2):=by
 have hlt:=(ok p _ hp).2
 have hpl:=(gS_ hp).1
 have hz:∀q,q<rows.length+2->(T rows q=z<->q=0)/\(T rows q=o<->q=1):=λq hq=>by
  by_cases q2:q<2
  ·match q,q2 with
   |0,_=>rw[T_zero];exact⟨⟨λ_=>rfl,λ_=>rfl⟩,⟨λh=>(nomatch h),λh=>(nomatch h)⟩⟩
   |1,_=>rw[T_one];exact⟨⟨λh=>(nomatch h),λh=>(nomatch h)⟩,⟨λ_=>rfl,λ_=>rfl⟩⟩
  ·obtain⟨p',a',b',c',d',rfl,hp'⟩:=row_at ok hq q2
   rw[T_row ok hp']
   exact⟨⟨λh=>(nomatch h),λh=>by lia⟩,⟨λh=>(nomatch h),λh=>by lia⟩⟩
 have la:=hz a (by have:=hlt a (by simp);lia)
 have lb:=hz b (by have:=hlt b (by simp);lia)
 have lc:=hz c (by have:=hlt c (by simp);lia)
 have le:=hz e (by have:=hlt e (by simp);lia)
 have hnp:=np _ (List.mem_of_getElem? hp)
 rw[T_row ok hp]
 refine mkT_nd (λh=>hnp (.inl ?_)) (λh=>hnp (.inr ?_))
 ·rw[la.1.mp h.1,lb.1.mp h.2.1,lc.1.mp h.2.2.1,le.1.mp h.2.2.2]
 ·rw[la.2.mp h.1,lb.2.mp h.2.1,lc.2.mp h.2.2.1,le.2.mp h.2.2.2]
theorem insR_ext (rows:List Row) (L:List Tr):∀i,∃s,insR rows L i=L++s/\s.length<=i
 |0=>⟨[],by simp[insR],Nat.le_refl _⟩
 |i+1=>by
  obtain⟨s,e,hl⟩:=insR_ext rows L i
  obtain⟨s',e',hl'⟩:=ins_ext (T rows (i+2)) (insR rows L i)
  exact⟨s++s',by show ins _ _=_;rw[e',e,List.append_assoc],by rw[List.length_append];lia⟩
theorem insR_step {rows:List Row}{L:List Tr}(i:Nat):∃s,insR rows L (i+1)=insR rows L i++s:=by
 obtain⟨s,e,_⟩:=ins_ext (T rows (i+2)) (insR rows L i)
 exact⟨s,e⟩
theorem insR_in {rows:List Row}{L:List Tr}:∀i x,x<i+2->In (insR rows L i) (T rows x)
 |0,x,hx=>by
  match x,hx with
  |0,_=>exact .inl (T_zero _)
  |1,_=>exact .inr (.inl (T_one _))
 |i+1,x,hx=>by
  by_cases e:x=i+2
  ·rw[e];exact ins_in _ _
  ·obtain⟨s,e'⟩:=insR_step (rows:=rows) (L:=L) i
   rw[e']
   exact (insR_in i x (by lia)).app
theorem insR_ord {rows:List Row}(ok:RowsOk rows) (np:∀r∈rows,¬Plain r){L:List Tr}(h:Ord L):∀i,i<=rows.length->Ord (insR rows L i)
 |0,_=>h
 |i+1,hi=>by
  have ih:=insR_ord ok np h i (by lia)
  obtain⟨a,b,c,d,e⟩:=four_of (ok i _ (List.getElem?_eq_getElem (show i<rows.length by lia))).1
  have hp:rows[i]?=some [a,b,c,d]:=by rw[List.getElem?_eq_getElem (by lia),e]
  have hlt:=(ok i _ hp).2
  show Ord (ins (T rows (i+2)) (insR rows L i))
  rw[<- mkT_T ok np hp]
  exact ins_ord ih (insR_in i a (hlt a (by simp))) (insR_in i b (hlt b (by simp))) (insR_in i c (hlt c (by simp))) (insR_in i d (hlt d (by simp)))
def nmsR (rows:List Row) (L:List Tr) (i:Nat):List Nat:=(List.range (i+2)).map λx=>name (insR rows L i) (T rows x)
theorem nmsR_succ {rows:List Row}(ok:RowsOk rows) (np:∀r∈rows,¬Plain r){L:List Tr}(h:Ord L){i:Nat}(hi:i<rows.length):nmsR rows L (i+1)=nmsR rows L i++[name (insR rows L (i+1)) (T rows (i+2))]:=by
 unfold nmsR
 rw[List.range_succ,List.map_append]
 congr 1
 refine List.map_congr_left λx hx=>?_
 obtain⟨s,e⟩:=insR_step (rows:=rows) (L:=L) i
 rw[e]
 exact name_app (insR_in i x (List.mem_range.mp hx)) (insR_ord ok np h i (by lia))
theorem T_plain {rows:List Row}(ok:RowsOk rows){q:Nat}(hq:q<rows.length+2):(T rows q=z<->q=0)/\(T rows q=o<->q=1):=by
 by_cases q2:q<2
 ·match q,q2 with
  |0,_=>rw[T_zero];exact⟨⟨λ_=>rfl,λ_=>rfl⟩,⟨λh=>(nomatch h),λh=>(nomatch h)⟩⟩
  |1,_=>rw[T_one];exact⟨⟨λh=>(nomatch h),λh=>(nomatch h)⟩,⟨λ_=>rfl,λ_=>rfl⟩⟩
 ·obtain⟨p',a',b',c',d',rfl,hp'⟩:=row_at ok hq q2
  rw[T_row ok hp']
  exact⟨⟨λh=>(nomatch h),λh=>by lia⟩,⟨λh=>(nomatch h),λh=>by lia⟩⟩
theorem row_T {rows:List Row}(ok:RowsOk rows){p a b c d:Nat}(hp:rows[p]?=some [a,b,c,d]):a<rows.length+2/\b<rows.length+2/\c<rows.length+2/\d<rows.length+2:=by
 have hl:=(gS_ hp).1
 have h:=(ok p _ hp).2
 have h1:=h a (by simp)
 have h2:=h b (by simp)
 have h3:=h c (by simp)
 have h4:=h d (by simp)
 lia
theorem T_red {rows:List Row}(ok:RowsOk rows) (np:∀r∈rows,¬Plain r):∀x,x<rows.length+2->Red (T rows x):=by
 intro x
 induction x using Nat.strongRecOn with
 |ind x ih=>
  intro hx
  by_cases z:x<2
  ·match x,z with
   |0,_=>rw[T_zero];trivial
   |1,_=>rw[T_one];trivial
  ·obtain⟨p,a,b,c,d,rfl,hp⟩:=row_at ok hx z
   have hlt:=(ok p _ hp).2
   have hpl:=(gS_ hp).1
   have la:=hlt a (by simp)
   have lb:=hlt b (by simp)
   have lc:=hlt c (by simp)
   have ld:=hlt d (by simp)
   rw[T_row ok hp]
   have hnp:=np _ (List.mem_of_getElem? hp)
   refine⟨λh=>hnp (.inl ?_),λh=>hnp (.inr ?_),ih a (by lia) (by lia),ih b (by lia) (by lia),ih c (by lia) (by lia),ih d (by lia) (by lia)⟩
   ·rw[(T_plain ok (by lia)).1.mp h.1,(T_plain ok (by lia)).1.mp h.2.1,(T_plain ok (by lia)).1.mp h.2.2.1,(T_plain ok (by lia)).1.mp h.2.2.2]
   ·rw[(T_plain ok (by lia)).2.mp h.1,(T_plain ok (by lia)).2.mp h.2.1,(T_plain ok (by lia)).2.mp h.2.2.1,(T_plain ok (by lia)).2.mp h.2.2.2]
theorem canon_red {n top:Nat}{rows:List Row}(c:Canon n top rows):Red (T rows top):=T_red c.rok c.unplain top c.inn
theorem canon_dep {n top:Nat}{rows:List Row}(c:Canon n top rows):dep (T rows top)<=n:=by
 obtain⟨er,et⟩:=canon_rows c
 obtain⟨ho,hi⟩:=post_ord (T rows top) [] ord_nil
 have h:=dp_name ho _ hi
 rw[<- er,<- et] at h
 rw[<- h]
 exact c.deep
theorem kids_dp {rows:List Row}(ok:RowsOk rows){p a b c d s:Nat}(hp:rows[p]?=some [a,b,c,d]) (h:dp rows (p+2)<=s+1):dp rows a<=s/\dp rows b<=s/\dp rows c<=s/\dp rows d<=s:=by
 rw[dp_at ok hp] at h
 have hm:∀x∈[a,b,c,d],dp rows x<=mx ([a,b,c,d].map (dp rows)):=λx hx=>le_mx (List.mem_map_of_mem hx)
 have h1:=hm a (by simp)
 have h2:=hm b (by simp)
 have h3:=hm c (by simp)
 have h4:=hm d (by simp)
 lia
theorem dep_kid {a b c d:Tr}{s:Nat}(h:dep (.nd a b c d)<=s+1):dep a<=s/\dep b<=s/\dep c<=s/\dep d<=s:=by
 have h':1+mx [dep a,dep b,dep c,dep d]<=s+1:=h
 have hm:∀x∈[dep a,dep b,dep c,dep d],x<=mx [dep a,dep b,dep c,dep d]:=λx hx=>le_mx hx
 have h1:=hm (dep a) (by simp)
 have h2:=hm (dep b) (by simp)
 have h3:=hm (dep c) (by simp)
 have h4:=hm (dep d) (by simp)
 lia
theorem dep_nd {a b c d:Tr}{s:Nat}(h1:dep a<=s) (h2:dep b<=s) (h3:dep c<=s) (h4:dep d<=s):dep (.nd a b c d)<=s+1:=by
 show 1+mx [dep a,dep b,dep c,dep d]<=s+1
 have:mx [dep a,dep b,dep c,dep d]<=s:=mx_le λx hx=>by
  have:x=dep a\/x=dep b\/x=dep c\/x=dep d:=by simpa using hx
  rcases this with rfl|rfl|rfl|rfl<;>assumption
 lia
theorem mkT_cases (a b c d:Tr):(a=z/\b=z/\c=z/\d=z)/\mkT a b c d=z\/(a=o/\b=o/\c=o/\d=o)/\mkT a b c d=o\/(¬(a=z/\b=z/\c=z/\d=z)/\¬(a=o/\b=o/\c=o/\d=o))/\mkT a b c d=.nd a b c d:=by
 unfold mkT
 split
 ·exact .inl ⟨by assumption,rfl⟩
 ·split
  ·exact .inr (.inl ⟨by assumption,rfl⟩)
  ·exact .inr (.inr ⟨⟨by assumption,by assumption⟩,rfl⟩)
theorem mkT_red {a b c d:Tr}(ha:Red a) (hb:Red b) (hc:Red c) (hd:Red d):Red (mkT a b c d):=by
 rcases mkT_cases a b c d with ⟨_,e⟩|⟨_,e⟩|⟨⟨h1,h2⟩,e⟩
 ·rw[e];trivial
 ·rw[e];trivial
 ·rw[e];exact⟨h1,h2,ha,hb,hc,hd⟩
theorem mkT_dep {a b c d:Tr}{s:Nat}(ha:dep a<=s) (hb:dep b<=s) (hc:dep c<=s) (hd:dep d<=s):dep (mkT a b c d)<=s+1:=by
 rcases mkT_cases a b c d with ⟨_,e⟩|⟨_,e⟩|⟨_,e⟩
 ·rw[e];exact Nat.zero_le _
 ·rw[e];exact Nat.zero_le _
 ·rw[e];exact dep_nd ha hb hc hd
theorem ins_red {L:List Tr}{t:Tr}(h:AllRed L) (ht:Red t):AllRed (ins t L):=by
 unfold ins
 split
 ·exact h
 ·intro u hu
  rcases List.mem_append.mp hu with z|z
  ·exact h u z
  ·have:u=t:=by simpa using z
   rw[this];exact ht
theorem insR_red {rows:List Row}(ok:RowsOk rows) (np:∀r∈rows,¬Plain r){L:List Tr}(h:AllRed L):∀i,i<=rows.length->AllRed (insR rows L i)
 |0,_=>h
 |i+1,hi=>ins_red (insR_red ok np h i (by lia)) (T_red ok np _ (by lia))
def leafT (x:Nat):Tr:=if x=1 then .o else .z
def neg:Tr->Tr
 |.z=>.o
 |.o=>.z
 |.nd a b c d=>.nd (neg a) (neg b) (neg c) (neg d)
theorem neg_dep:∀t,dep (neg t)=dep t
 |.z=>rfl
 |.o=>rfl
 |.nd a b c d=>by
  show 1+mx [dep (neg a),dep (neg b),dep (neg c),dep (neg d)]=1+mx [dep a,dep b,dep c,dep d]
  rw[neg_dep a,neg_dep b,neg_dep c,neg_dep d]
theorem neg_z {t:Tr}:neg t=z<->t=o:=by cases t<;>simp[neg]
theorem neg_o {t:Tr}:neg t=o<->t=z:=by cases t<;>simp[neg]
theorem neg_red:∀{t:Tr},Red t->Red (neg t)
 |.z,_=>trivial
 |.o,_=>trivial
 |.nd a b c d,h=>by
  obtain⟨h1,h2,ha,hb,hc,hd⟩:=h
  refine⟨λe=>h2 ?_,λe=>h1 ?_,neg_red ha,neg_red hb,neg_red hc,neg_red hd⟩
  ·exact⟨neg_z.mp e.1,neg_z.mp e.2.1,neg_z.mp e.2.2.1,neg_z.mp e.2.2.2⟩
  ·exact⟨neg_o.mp e.1,neg_o.mp e.2.1,neg_o.mp e.2.2.1,neg_o.mp e.2.2.2⟩
theorem exr_len (rows:List Row):(exr rows).length=rows.length:=by simp[exr]
theorem exr_at {rows:List Row}{p:Nat}{r:Row}(h:rows[p]?=some r):(exr rows)[p]?=some (r.map ex):=by
 unfold exr;rw[List.getElem?_map,h];rfl
theorem ex_high {q:Nat}(h:¬q<2):ex q=q:=if_neg h
theorem exr_T {rows:List Row}(ok:RowsOk rows):∀x,x<rows.length+2->T (exr rows) (ex x)=neg (T rows x):=by
 intro x
 induction x using Nat.strongRecOn with
 |ind x ih=>
  intro hx
  by_cases z:x<2
  ·match x,z with
   |0,_=>rw[T_zero];exact T_one _
   |1,_=>rw[T_one];exact T_zero _
  ·obtain⟨p,a,b,c,d,rfl,hp⟩:=row_at ok hx z
   have hlt:=(ok p _ hp).2
   have hpl:=(gS_ hp).1
   have la:=hlt a (by simp)
   have lb:=hlt b (by simp)
   have lc:=hlt c (by simp)
   have ld:=hlt d (by simp)
   rw[ex_high z,T_row ok hp,T_row (exr_ok ok) (exr_at hp),ih a (by lia) (by lia),ih b (by lia) (by lia),ih c (by lia) (by lia),ih d (by lia) (by lia)]
   rfl
theorem exr_np {rows:List Row}(np:∀r∈rows,¬Plain r):∀r∈exr rows,¬Plain r:=λr hr h=>by
 obtain⟨q,hq,rfl⟩:=List.mem_map.mp hr
 have e:(q.map ex).map ex=q:=by
  rw[List.map_map]
  refine (List.map_congr_left λx _=>ex_ex x).trans (List.map_id' q)
 refine np q hq ?_
 rcases h with h|h
 ·rw[h] at e;exact .inr e.symm
 ·rw[h] at e;exact .inl e.symm
def beside (e f:Nat) (t:Tr):Tr:=if e=f then leafT e else if e=0 then t else neg t
def bring (u:Nat->Nat->Nat):Tr->Tr->Tr
 |.z,t=>beside (u 0 0) (u 0 1) t
 |.o,t=>beside (u 1 0) (u 1 1) t
 |.nd a b c d,.z=>beside (u 0 0) (u 1 0) (.nd a b c d)
 |.nd a b c d,.o=>beside (u 0 1) (u 1 1) (.nd a b c d)
 |.nd a b c d,.nd a' b' c' d'=>mkT (bring u a a') (bring u b b') (bring u c c') (bring u d d')
def Oc (u:Nat->Nat->Nat):Prop:=∀i j,u i j<2
theorem leaf_red (x:Nat):Red (leafT x):=by unfold leafT;split<;>trivial
theorem leaf_dep (x s:Nat):dep (leafT x)<=s:=by unfold leafT;split<;>exact Nat.zero_le _
theorem beside_red {e f:Nat}{t:Tr}(h:Red t):Red (beside e f t):=by
 unfold beside
 split
 ·exact leaf_red _
 ·split
  ·exact h
  ·exact neg_red h
theorem beside_dep {e f s:Nat}{t:Tr}(h:dep t<=s):dep (beside e f t)<=s:=by
 unfold beside
 split
 ·exact leaf_dep _ _
 ·split
  ·exact h
  ·rw[neg_dep];exact h
theorem beside_z {e f:Nat}(he:e<2):beside e f z=leafT e:=by
 unfold beside
 split
 ·rfl
 ·split
  ·rename_i h;rw[h];rfl
  ·have:e=1:=by lia
   rw[this];rfl
theorem beside_o {e f:Nat}(he:e<2) (hf:f<2):beside e f o=leafT f:=by
 unfold beside
 split
 ·rename_i h;rw[h]
 ·split
  ·have:f=1:=by lia
   rw[this];rfl
  ·have:f=0:=by lia
   rw[this];rfl
theorem bring_z {u:Nat->Nat->Nat}(hu:Oc u) (s:Tr):bring u s z=beside (u 0 0) (u 1 0) s:=by
 cases s with
 |z=>show beside _ _ _=_;rw[beside_z (hu 0 0),beside_z (hu 0 0)]
 |o=>show beside _ _ _=_;rw[beside_z (hu 1 0),beside_o (hu 0 0) (hu 1 0)]
 |nd a b c d=>rfl
theorem bring_o {u:Nat->Nat->Nat}(hu:Oc u) (s:Tr):bring u s o=beside (u 0 1) (u 1 1) s:=by
 cases s with
 |z=>show beside _ _ _=_;rw[beside_o (hu 0 0) (hu 0 1),beside_z (hu 0 1)]
 |o=>show beside _ _ _=_;rw[beside_o (hu 1 0) (hu 1 1),beside_o (hu 0 1) (hu 1 1)]
 |nd a b c d=>rfl
theorem bring_red (u:Nat->Nat->Nat):∀(s t:Tr),Red s->Red t->Red (bring u s t)
 |.z,t,_,h=>beside_red h
 |.o,t,_,h=>beside_red h
 |.nd a b c d,.z,h,_=>beside_red h
 |.nd a b c d,.o,h,_=>beside_red h
 |.nd a b c d,.nd a' b' c' d',h,h'=>mkT_red (bring_red u a a' h.2.2.1 h'.2.2.1) (bring_red u b b' h.2.2.2.1 h'.2.2.2.1) (bring_red u c c' h.2.2.2.2.1 h'.2.2.2.2.1) (bring_red u d d' h.2.2.2.2.2 h'.2.2.2.2.2)
theorem bring_dep (u:Nat->Nat->Nat):∀(n:Nat) (s t:Tr),dep s<=n->dep t<=n->dep (bring u s t)<=n
 |n,.z,t,_,h=>beside_dep h
 |n,.o,t,_,h=>beside_dep h
 |n,.nd a b c d,.z,h,_=>beside_dep h
 |n,.nd a b c d,.o,h,_=>beside_dep h
 |0,.nd a b c d,.nd a' b' c' d',h,h'=>by
  have:1+mx [dep a,dep b,dep c,dep d]<=0:=h
  lia
 |n+1,.nd a b c d,.nd a' b' c' d',h,h'=>by
  obtain⟨h1,h2,h3,h4⟩:=dep_kid h
  obtain⟨g1,g2,g3,g4⟩:=dep_kid h'
  exact mkT_dep (bring_dep u n a a' h1 g1) (bring_dep u n b b' h2 g2) (bring_dep u n c c' h3 g3) (bring_dep u n d d' h4 g4)
def qr (i:Nat):Tr->Tr
 |.nd a b c d=>[a,b,c,d].getD i .z
 |t=>t
theorem qr_leaf (i x:Nat):qr i (leafT x)=leafT x:=by unfold leafT;split<;>rfl
theorem qr_neg {i:Nat}(hi:i<4) (t:Tr):qr i (neg t)=neg (qr i t):=by
 cases t with
 |z=>rfl
 |o=>rfl
 |nd a b c d=>
  match i,hi with
  |0,_=>rfl
  |1,_=>rfl
  |2,_=>rfl
  |3,_=>rfl
theorem qr_beside {i:Nat}(hi:i<4) (e f:Nat) (t:Tr):qr i (beside e f t)=beside e f (qr i t):=by
 unfold beside
 split
 ·exact qr_leaf _ _
 ·split
  ·rfl
  ·exact qr_neg hi t
theorem qr_mkT {i:Nat}(hi:i<4) (a b c d:Tr):qr i (mkT a b c d)=[a,b,c,d].getD i .z:=by
 rcases mkT_cases a b c d with ⟨⟨rfl,rfl,rfl,rfl⟩,e⟩|⟨⟨rfl,rfl,rfl,rfl⟩,e⟩|⟨_,e⟩
 ·rw[e]
  match i,hi with
  |0,_=>rfl
  |1,_=>rfl
  |2,_=>rfl
  |3,_=>rfl
 ·rw[e]
  match i,hi with
  |0,_=>rfl
  |1,_=>rfl
  |2,_=>rfl
  |3,_=>rfl
 ·rw[e];rfl
theorem qr_bring {u:Nat->Nat->Nat}(hu:Oc u){i:Nat}(hi:i<4) (s t:Tr):qr i (bring u s t)=bring u (qr i s) (qr i t):=by
 match s,t with
 |.z,t=>exact qr_beside hi _ _ t
 |.o,t=>exact qr_beside hi _ _ t
 |.nd a b c d,.z=>exact (qr_beside hi _ _ _).trans (bring_z hu _).symm
 |.nd a b c d,.o=>exact (qr_beside hi _ _ _).trans (bring_o hu _).symm
 |.nd a b c d,.nd a' b' c' d'=>
  show qr i (mkT _ _ _ _)=_
  rw[qr_mkT hi]
  match i,hi with
  |0,_=>rfl
  |1,_=>rfl
  |2,_=>rfl
  |3,_=>rfl
theorem T_qr {rows:List Row}(ok:RowsOk rows){p i:Nat}{r:Row}{x:Nat}(hp:rows[p]?=some r) (hi:i<4) (hx:r[i]?=some x):T rows x=qr i (T rows (p+2)):=by
 obtain⟨a,b,c,d,rfl⟩:=four_of (ok p r hp).1
 rw[T_row ok hp]
 match i,hi with
 |0,_=>cases hx;rfl
 |1,_=>cases hx;rfl
 |2,_=>cases hx;rfl
 |3,_=>cases hx;rfl
def prs (r1 r2:Nat):List (Nat×Nat):=(List.range r1).flatMap λx=>(List.range r2).map λy=>(x,y)
theorem prs_len (r1 r2:Nat):(prs r1 r2).length=r1*r2:=by
 unfold prs
 rw[List.length_flatMap]
 have:∀l:List Nat,(l.map λx=>((List.range r2).map λy=>(x,y)).length).sum=l.length*r2:=λl=>by
  induction l with
  |nil=>simp
  |cons a l ih=>rw[List.map_cons,List.sum_cons,ih,List.length_map,List.length_range,List.length_cons,Nat.succ_mul,Nat.add_comm]
 rw[this,List.length_range]
theorem prs_mem {r1 r2 x y:Nat}(hx:x<r1) (hy:y<r2):(x,y)∈prs r1 r2:=by
 unfold prs
 rw[List.mem_flatMap]
 exact⟨x,List.mem_range.mpr hx,List.mem_map.mpr ⟨y,List.mem_range.mpr hy,rfl⟩⟩
theorem few {α:Type}[DecidableEq α]{L L0:List α}{r1 r2:Nat}{f:Nat->Nat->α}(nd:L.Nodup) (h:∀t∈L,t∈L0\/∃x y,x<r1/\y<r2/\t=f x y):L.length<=L0.length+r1*r2:=by
 have:=nd.length_le_of_subset (l₂:=L0++(prs r1 r2).map λp=>f p.1 p.2) λt ht=>by
  rcases h t ht with z|⟨x,y,hx,hy,rfl⟩
  ·exact List.mem_append_left _ z
  ·exact List.mem_append_right _ (List.mem_map.mpr ⟨(x,y),prs_mem hx hy,rfl⟩)
 rw[List.length_append,List.length_map,prs_len] at this
 exact this
theorem post_all {Pd:Tr->Prop}(cl:∀a b c d,Pd (.nd a b c d)->Pd a/\Pd b/\Pd c/\Pd d):∀(t:Tr) (e:List Tr),Pd t->(∀s∈e,Pd s)->∀s∈post t e,Pd s
 |.z,e,_,h=>h
 |.o,e,_,h=>h
 |.nd a b c d,e,ht,h=>by
  obtain⟨h1,h2,h3,h4⟩:=cl a b c d ht
  intro s hs
  unfold post at hs
  split at hs
  ·exact h s hs
  ·rcases List.mem_append.mp hs with hs|hs
   ·exact post_all cl d _ h4 (post_all cl c _ h3 (post_all cl b _ h2 (post_all cl a _ h1 h))) s hs
   ·have:s=.nd a b c d:=by simpa using hs
    rw[this];exact ht
def kd (rows:List Row) (x i:Nat):Nat:=(rows.getD (x-2) []).getD i 0
theorem kd_at {rows:List Row}{p:Nat}{r:Row}(h:rows[p]?=some r) (i:Nat):kd rows (p+2) i=r.getD i 0:=by
 unfold kd
 have:rows.getD p []=r:=by rw[List.getD_eq_getElem?_getD,h];rfl
 rw[Nat.add_sub_cancel,this]
theorem kd_ok {rows:List Row}(ok:RowsOk rows){x i:Nat}(hx:x<rows.length+2) (h2:2<=x) (hi:i<4):kd rows x i<rows.length+2/\T rows (kd rows x i)=qr i (T rows x):=by
 obtain⟨p,a,b,c,d,rfl,hp⟩:=row_at ok hx (by lia)
 have hl:=(gS_ hp).1
 have hj:[a,b,c,d][i]?=some ([a,b,c,d].getD i 0):=by
  rw[List.getD_eq_getElem?_getD,List.getElem?_eq_getElem (show i<[a,b,c,d].length from hi)]
  rfl
 rw[kd_at hp]
 have:=(ok p _ hp).2 _ (List.mem_of_getElem? hj)
 exact⟨by lia,T_qr ok hp hi hj⟩
inductive Rch (R1 R2:List Row) (t1 t2:Nat):Nat->Nat->Prop
 |base:Rch R1 R2 t1 t2 t1 t2
 |step {x y i:Nat}(h:Rch R1 R2 t1 t2 x y) (hx:2<=x) (hy:2<=y) (hi:i<4):Rch R1 R2 t1 t2 (kd R1 x i) (kd R2 y i)
theorem Rch.lt {R1 R2:List Row}{t1 t2 x y:Nat}(o1:RowsOk R1) (o2:RowsOk R2) (h1:t1<R1.length+2) (h2:t2<R2.length+2) (h:Rch R1 R2 t1 t2 x y):x<R1.length+2/\y<R2.length+2:=by
 induction h with
 |base=>exact⟨h1,h2⟩
 |step _ hx hy hi ih=>exact⟨(kd_ok o1 ih.1 hx hi).1,(kd_ok o2 ih.2 hy hi).1⟩
theorem Rch.swap {R1 R2:List Row}{t1 t2 x y:Nat}(h:Rch R1 R2 t1 t2 x y):Rch R2 R1 t2 t1 y x:=by
 induction h with
 |base=>exact .base
 |step _ hx hy hi ih=>exact .step ih hy hx hi
theorem Rch.plain {R1 R2:List Row}{t1 t2 x y:Nat}(h2:t2<2) (h:Rch R1 R2 t1 t2 x y):y=t2:=by
 induction h with
 |base=>rfl
 |step _ hx hy hi ih=>lia
theorem Rch.same {R:List Row}{t x y:Nat}(h:Rch R R t t x y):x=y:=by
 induction h with
 |base=>rfl
 |step _ hx hy hi ih=>rw[ih]
def Cnt (R1 R2:List Row) (t1 t2 m:Nat):Prop:=∃L:List (Nat×Nat),L.Nodup/\(∀x y,(x,y)∈L<->Rch R1 R2 t1 t2 x y/\2<=x/\2<=y)/\L.length=m
theorem Cnt.uniq {R1 R2:List Row}{t1 t2 m m':Nat}(h:Cnt R1 R2 t1 t2 m) (h':Cnt R1 R2 t1 t2 m'):m=m':=by
 obtain⟨L,n1,e1,rfl⟩:=h
 obtain⟨L',n2,e2,rfl⟩:=h'
 exact Nat.le_antisymm (n1.length_le_of_subset λp hp=>(e2 p.1 p.2).mpr ((e1 p.1 p.2).mp hp)) (n2.length_le_of_subset λp hp=>(e1 p.1 p.2).mpr ((e2 p.1 p.2).mp hp))
theorem Cnt.swap {R1 R2:List Row}{t1 t2 m:Nat}(h:Cnt R1 R2 t1 t2 m):Cnt R2 R1 t2 t1 m:=by
 obtain⟨L,n1,e1,rfl⟩:=h
 refine⟨L.map λp=>(p.2,p.1),?_,λx y=>?_,by simp⟩
 ·exact List.Pairwise.map _ (λa b hab hz=>hab (by
   have h1:=congrArg Prod.fst hz
   have h2:=congrArg Prod.snd hz
   exact Prod.ext h2 h1)) n1
 ·constructor
  ·intro h
   obtain⟨p,hp,hz⟩:=List.mem_map.mp h
   have h1:p.2=x:=congrArg Prod.fst hz
   have h2:p.1=y:=congrArg Prod.snd hz
   obtain⟨a,b,c⟩:=(e1 p.1 p.2).mp hp
   rw[h1,h2] at a
   exact⟨a.swap,by lia,by lia⟩
  ·rintro⟨a,b,c⟩
   exact List.mem_map.mpr ⟨(y,x),(e1 y x).mpr ⟨a.swap,c,b⟩,rfl⟩
theorem Cnt.plain {R1 R2:List Row}{t1 t2:Nat}(h:t2<2):Cnt R1 R2 t1 t2 0:=⟨[],List.nodup_nil,λx y=>⟨λz=>(by cases z),λ⟨a,_,c⟩=>by have:=a.plain h;lia⟩,rfl⟩
theorem Cnt.self {n top:Nat}{rows:List Row}(c:Canon n top rows):Cnt rows rows top top rows.length:=by
 refine⟨(List.range rows.length).map λp=>(p+2,p+2),?_,λx y=>?_,by simp⟩
 ·exact List.Pairwise.map _ (λa b hab hz=>hab (by have:=congrArg Prod.fst hz;simp at this;exact this)) List.nodup_range
 constructor
 ·intro h
  obtain⟨p,hp,hz⟩:=List.mem_map.mp h
  have hp:=List.mem_range.mp hp
  have h1:p+2=x:=congrArg Prod.fst hz
  have h2:p+2=y:=congrArg Prod.snd hz
  have er:=(canon_rows c).1
  have od:=(post_ord (T rows top) [] ord_nil).1
  have all:=post_all (Pd:=λs=>∃x,x<rows.length+2/\Rch rows rows top top x x/\T rows x=s) (λa b c' d ⟨x,hx,hr,e⟩=>by
   have x2:2<=x:=by
    by_cases z:x<2
    ·have:x=0\/x=1:=by lia
     rcases this with rfl|rfl
     ·rw[T_zero] at e;cases e
     ·rw[T_one] at e;cases e
    ·lia
   have kid:∀i,i<4->∃x',x'<rows.length+2/\Rch rows rows top top x' x'/\T rows x'=qr i (.nd a b c' d):=λi hi=>by
    obtain⟨g1,g2⟩:=kd_ok c.rok hx x2 hi
    exact⟨kd rows x i,g1,.step hr x2 x2 hi,by rw[g2,e]⟩
   exact⟨kid 0 (by decide),kid 1 (by decide),kid 2 (by decide),kid 3 (by decide)⟩) (T rows top) [] ⟨top,c.inn,.base,rfl⟩ (λs hs=>by cases hs)
  generalize post (T rows top) []=L at er od all
  have el:rows.length=L.length:=by
   have:=congrArg List.length er
   rw[rowsOf_len] at this
   exact this
  have hi:L[p]?=some (L[p]'(by lia)):=List.getElem?_eq_getElem (by lia)
  have hm:=List.mem_of_getElem? hi
  generalize L[p]'(by lia)=t at hi hm
  obtain⟨x',hx',hr,ex⟩:=all t hm
  have eT:T rows (p+2)=t:=by
   have:=T_name od t (.inr (.inr hm))
   rw[name_at od hi] at this
   rw[er];exact this
  have:=T_inj c.rok c.unlike _ x' (p+2) (Nat.le_refl _) hx' (by lia) (ex.trans eT.symm)
  rw[this] at hr
  rw[<- h1,<- h2]
  exact⟨hr,by lia,by lia⟩
 ·rintro⟨a,b,_⟩
  have e:=a.same
  subst e
  have hl:=(a.lt c.rok c.rok c.inn c.inn).1
  exact List.mem_map.mpr ⟨x-2,List.mem_range.mpr (by lia),by rw[show x-2+2=x by lia]⟩
def way (b:Bool) (t:Tr):Tr:=if b=true then neg t else t
theorem way_pl {b:Bool}{t:Tr}(h:t=.z\/t=.o):way b t=.z\/way b t=.o:=by
 rcases h with rfl|rfl<;>cases b<;>simp[way,neg]
theorem T_pl {rows:List Row}{x:Nat}(h:x<2):T rows x=.z\/T rows x=.o:=by
 have:x=0\/x=1:=by lia
 rcases this with rfl|rfl
 ·exact .inl (T_zero _)
 ·exact .inr (T_one _)
theorem beside_way {e f:Nat}(he:e<2) (hf:f<2) (t:Tr):(e=f/\(beside e f t=.z\/beside e f t=.o))\/(e≠f/\beside e f t=way (decide (e=1)) t):=by
 by_cases h:e=f
 ·refine .inl ⟨h,?_⟩
  unfold beside
  rw[if_pos h]
  unfold leafT
  split<;>simp
 ·refine .inr ⟨h,?_⟩
  unfold beside way
  rw[if_neg h]
  have:e=0\/e=1:=by lia
  rcases this with rfl|rfl
  ·rfl
  ·rfl
theorem rows_few {u:Nat->Nat->Nat}(hu:Oc u){n tp t1 t2 m:Nat}{rows R1 R2:List Row}(c:Canon n tp rows) (c1:Canon n t1 R1) (c2:Canon n t2 R2) (e:T rows tp=bring u (T R1 t1) (T R2 t2)) (W1 W2:List Bool)
  (h1:∀j,j<2->u 0 j≠u 1 j->decide (u 0 j=1)∈W1) (h2:∀i,i<2->u i 0≠u i 1->decide (u i 0=1)∈W2) (hc:Cnt R1 R2 t1 t2 m):rows.length<=m+(W1.length*R1.length+W2.length*R2.length):=by
 obtain⟨L,nL,eL,rfl⟩:=hc
 let P1:Tr->Prop:=λs=>∃b∈W1,∃x,x<R1.length/\s=way b (T R1 (x+2))
 let P2:Tr->Prop:=λs=>∃b∈W2,∃y,y<R2.length/\s=way b (T R2 (y+2))
 let Pd:Tr->Prop:=λs=>(s=.z\/s=.o)\/(∃x y,Rch R1 R2 t1 t2 x y/\2<=x/\2<=y/\s=bring u (T R1 x) (T R2 y))\/P1 s\/P2 s
 have q1:∀{b:Bool}{x:Nat},b∈W1->x<R1.length+2->Pd (way b (T R1 x)):=λ{b x} hb hx=>by
  by_cases z:x<2
  ·exact .inl (way_pl (T_pl z))
  ·exact .inr (.inr (.inl ⟨b,hb,x-2,by lia,by rw[show x-2+2=x by lia]⟩))
 have q2:∀{b:Bool}{x:Nat},b∈W2->x<R2.length+2->Pd (way b (T R2 x)):=λ{b x} hb hx=>by
  by_cases z:x<2
  ·exact .inl (way_pl (T_pl z))
  ·exact .inr (.inr (.inr ⟨b,hb,x-2,by lia,by rw[show x-2+2=x by lia]⟩))
 have any:∀{x y:Nat},Rch R1 R2 t1 t2 x y->Pd (bring u (T R1 x) (T R2 y)):=λ{x y} hr=>by
  obtain⟨hx,hy⟩:=hr.lt c1.rok c2.rok c1.inn c2.inn
  by_cases x2:x<2
  ·have eb:bring u (T R1 x) (T R2 y)=beside (u x 0) (u x 1) (T R2 y):=by
    have:x=0\/x=1:=by lia
    rcases this with rfl|rfl
    ·rw[T_zero];rfl
    ·rw[T_one];rfl
   rw[eb]
   rcases beside_way (hu x 0) (hu x 1) (T R2 y) with ⟨_,h⟩|⟨hn,h⟩
   ·exact .inl h
   ·rw[h];exact q2 (h2 x x2 hn) hy
  ·by_cases y2:y<2
   ·have eb:bring u (T R1 x) (T R2 y)=beside (u 0 y) (u 1 y) (T R1 x):=by
     have:y=0\/y=1:=by lia
     rcases this with rfl|rfl
     ·rw[T_zero];exact bring_z hu _
     ·rw[T_one];exact bring_o hu _
    rw[eb]
    rcases beside_way (hu 0 y) (hu 1 y) (T R1 x) with ⟨_,h⟩|⟨hn,h⟩
    ·exact .inl h
    ·rw[h];exact q1 (h1 y y2 hn) hx
   ·exact .inr (.inl ⟨x,y,hr,by lia,by lia,rfl⟩)
 have qw:∀{i:Nat}(b:Bool) (t:Tr),i<4->qr i (way b t)=way b (qr i t):=λ{i} b t hi=>by
  cases b with
  |false=>rfl
  |true=>exact qr_neg hi t
 have cl:∀a b c d,Pd (.nd a b c d)->Pd a/\Pd b/\Pd c/\Pd d:=λa b c' d h=>by
  have kid:∀i,i<4->Pd (qr i (.nd a b c' d)):=λi hi=>by
   rcases h with (h|h)|⟨x,y,hr,hx,hy,h⟩|⟨b',hb,x,hx,h⟩|⟨b',hb,x,hx,h⟩
   ·cases h
   ·cases h
   ·obtain⟨lx,ly⟩:=hr.lt c1.rok c2.rok c1.inn c2.inn
    rw[h,qr_bring hu hi,<- (kd_ok c1.rok lx hx hi).2,<- (kd_ok c2.rok ly hy hi).2]
    exact any (.step hr hx hy hi)
   ·obtain⟨g1,g2⟩:=kd_ok c1.rok (show x+2<R1.length+2 by lia) (by lia) hi
    rw[h,qw _ _ hi,<- g2]
    exact q1 hb g1
   ·obtain⟨g1,g2⟩:=kd_ok c2.rok (show x+2<R2.length+2 by lia) (by lia) hi
    rw[h,qw _ _ hi,<- g2]
    exact q2 hb g1
  exact⟨kid 0 (by decide),kid 1 (by decide),kid 2 (by decide),kid 3 (by decide)⟩
 have all:=post_all cl (T rows tp) [] (by rw[e];exact any .base) (λs hs=>by cases hs)
 have er:=(canon_rows c).1
 have od:=(post_ord (T rows tp) [] ord_nil).1
 have el:rows.length=(post (T rows tp) []).length:=by
  have:=congrArg List.length er
  rw[rowsOf_len] at this
  exact this
 rw[el]
 have fl:∀(W:List Bool) (R:List Row),(W.flatMap λb=>(List.range R.length).map λp=>way b (T R (p+2))).length=W.length*R.length:=λW R=>by
  induction W with
  |nil=>simp
  |cons a W ih=>
   rw[List.flatMap_cons,List.length_append,ih,List.length_map,List.length_range,List.length_cons,Nat.add_mul]
   lia
 have:=od.nd.length_le_of_subset (l₂:=(L.map λp=>bring u (T R1 p.1) (T R2 p.2))++((W1.flatMap λb=>(List.range R1.length).map λp=>way b (T R1 (p+2)))++(W2.flatMap λb=>(List.range R2.length).map λp=>way b (T R2 (p+2))))) λs hs=>by
  obtain⟨i,hi⟩:=List.mem_iff_getElem?.mp hs
  obtain⟨⟨a,b,c',d,es⟩,_⟩:=od.ch i s hi
  rcases all s hs with (h|h)|⟨x,y,hr,hx,hy,h⟩|⟨b',hb,x,hx,h⟩|⟨b',hb,x,hx,h⟩
  ·rw[h] at es;cases es
  ·rw[h] at es;cases es
  ·exact List.mem_append_left _ (List.mem_map.mpr ⟨(x,y),(eL x y).mpr ⟨hr,hx,hy⟩,h.symm⟩)
  ·exact List.mem_append_right _ (List.mem_append_left _ (List.mem_flatMap.mpr ⟨b',hb,List.mem_map.mpr ⟨x,List.mem_range.mpr hx,h.symm⟩⟩))
  ·exact List.mem_append_right _ (List.mem_append_right _ (List.mem_flatMap.mpr ⟨b',hb,List.mem_map.mpr ⟨x,List.mem_range.mpr hx,h.symm⟩⟩))
 rw[List.length_append,List.length_append,List.length_map,fl,fl] at this
 exact this
end Qf
namespace L2
open PySem
section
variable {X:Cx}
end
theorem comp_zipI {K:PySem.W.Frag}{H:Hp}{a b:Addr}{us ws:List V}{te:TE}{σ:St}{Fin:Hp->Prop}{D:Addr}(Iv:Nat->List V->Hp->Prop) (hl:us.length=ws.length) (hsz:us.length<sizeLine) (i0:Iv 0 [] (upd H D (.lst [])))
  (hD:∀i xs H2,Iv i xs H2->H2 D=some (.lst xs)/\xs.length<=i/\H2 a=some (.tup us)/\H2 b=some (.tup ws)) (grow:∀i xs H2 H3,Iv i xs H2->Same H2 H3->Iv i xs H3)
  (step:∀i xs x y H2,us[i]?=some x->ws[i]?=some y->Iv i xs H2->∀Q2:VK,(∀v H3,H3 D=some (.lst xs)->Iv (i+1) (xs++[v]) (upd H3 D (.lst (xs++[v])))->Q2 v H3)->te (some x::some y::σ) H2 Q2)
  (fin:∀xs H2,Iv us.length xs H2->Fin H2) :
  ∃W:Nat->Nat->List V->Hp->Prop,(∃m,W 0 m [] (upd H D (.lst []))) /\
   ∀i m xs H2,W i m xs H2->H2 D=some (.lst xs)/\xs.length<sizeLine/\(((Itz K a b).stop i H2/\Fin H2)\/((Itz K a b).go i H2/\∀y H3,(Itz K a b).yld i H2 y H3->∀os:St,os.length=2 ->
    gTup K 2 (gCons (gName 0) (gCons (gName 1) gNil)) y (os++σ) H3 λσ4 H4=>ttYes σ4 H4 λb H5=>if b=true then te σ4 H5 λv H6=>H6 D=some (.lst xs)/\∃m',m'<m/\W (i+1) m' (xs++[v]) (upd H6 D (.lst (xs++[v]))) else ∃m',m'<m/\W (i+1) m' xs H5)):=by
 refine⟨λi m xs H2=>i<=us.length/\m=us.length-i/\Iv i xs H2,⟨us.length,Nat.zero_le _,rfl,i0⟩,?_⟩
 rintro i m xs H2 ⟨hi,rfl,iv⟩
 obtain⟨h1,h2,h3,h4⟩:=hD i xs H2 iv
 refine⟨h1,by lia,?_⟩
 by_cases he:i=us.length
 ·subst he
  exact .inl ⟨⟨us,SqT.of h3,Nat.le_refl _⟩,fin xs H2 iv⟩
 ·have hlt:i<us.length:=by lia
  refine .inr ⟨⟨us,ws,us[i],ws[i]'(by lia),SqT.of h3,SqT.of h4,List.getElem?_eq_getElem hlt,List.getElem?_eq_getElem (by lia)⟩,λy H3 hy os ho=>?_⟩
  obtain⟨p,x,y',hp,e1,e2,rfl,rfl⟩:=hy
  match os,ho with
  |[o1,o2],_=>
   refine⟨p,[x,y'],rfl,SqT.of qa1,rfl,x,[y'],rfl,y',[],rfl,rfl,?_⟩
   refine (iteT ?_:(if (true:Bool)=true then te (some x::some y'::σ) (upd H2 p (.tup [x,y'])) (λv H6=>H6 D=some (.lst xs)/\∃m',m'<us.length-i/\(i+1<=us.length/\m'=us.length-(i+1)/\Iv (i+1) (xs++[v]) (upd H6 D (.lst (xs++[v]))))) else ∃m',m'<us.length-i/\(i+1<=us.length/\m'=us.length-(i+1)/\Iv (i+1) xs (upd H2 p (.tup [x,y'])))))
   exact step i xs x y' _ (e1 us (SqT.of h3)) (e2 ws (SqT.of h4)) (grow i xs _ _ iv (sameU hp)) _ λv H6 g1 g2=>⟨g1,us.length-(i+1),by lia,by lia,rfl,g2⟩
end L2
namespace Pr
open PySem L2 Qf
section
variable {P:Program}{w:World}{K:PySem.W.Frag}{mg:Str->Option Value}{base:Heap}
def spRenL:Sp:=λvs H Q _=>∃(b g:Addr) (r:Row) (ns:List Nat) (f:Nat->Nat),vs=[.ref b,.ref g]/\H b=some (.tup (vN r))/\r.length=4/\H g=some (.lst (vN ns))/\(∀q∈r,ns[q]?=some (f q)) /\
 ∀(H':Hp) (t:Addr),Same H H'->H' t=some (.tup (vN (r.map f)))->Q (.ref t) H'
theorem ok_renL {f:Addr}{fd:FuncData}(F:Fun K "renumbered" "renumbered" sRenum f fd) (B:Blt mg):FnOk P w K mg base CX0 1 f fd ["row", "numbers"] spRenL:=by
 refine F.ok scRenum (λvs H Q E h=>?_) (λcdv A outer s H vs Q E hr h=>?_)
 ·obtain⟨b,g,r,ns,f,rfl,_⟩:=h
  rfl
 ·obtain⟨b,g,r,ns,ff,rfl,hb,h4,hg,hv,q⟩:=h
  refine lastE ⟨_,⟨ps_ret (pe_callTy (tupO K rfl) (by rfl) B.tuple PyProof.Rows.boot_tuple (qa0 (pe_compB ["row", "numbers"] (defScope sRenum) rfl rfl rfl scRenum.nd (pi_tup (pv 0)) (λcl C fp s₀ H₀=>pe_ix (ixL K rfl) (pv 2) (pv 0) (λ_ _=>rfl))) qa3))⟩,?_⟩
  refine⟨_,rfl,b,rfl,⟨_,SqT.of hb⟩,λD hD=>comp_walk hD (λi z _=>∃m:Nat,r[i]?=some m/\z=.int (ff m:Nat)) (goes_tup (K:=K) hb) (by rw[vN_len,h4];decide) (λ_ _ _ _ _ _ h=>h) ?_ ?_⟩
  ·intro i x H2 hi hx s2 Q' hq
   obtain⟨m,hm,rfl⟩:=vN_get hx
   exact⟨_,rfl,_,rfl,g,_,(m:Int),.int (ff m:Nat),rfl,rfl,SqL.of (s2 _ _ hg),atI_nat (vN_at (hv m (List.mem_of_getElem? hm))),hq _ _ (Same.refl _) ⟨m,hm,rfl⟩⟩
  ·intro ys H2 s2 hd2 hly hys
   have ey:ys=vN (r.map ff):=by
    refine list_ext (by rw[hly,vN_len,vN_len,List.length_map]) λi x hx=>?_
    obtain⟨m,hm,rfl⟩:=hys i x hx
    exact vN_at (by rw[List.getElem?_map,hm];rfl)
   subst ey
   exact⟨D,_,rfl,.inl ⟨SqL.of hd2,λl hl=>q _ l (s2.trans (sameU hl)) qa1⟩⟩
end
theorem BookAt.same {C:Addr}{H H':Hp}{p k d:Addr}{L:List Tr}(h:BookAt C H p k d L) (s:Same H H'):BookAt C H' p k d L:=by
 obtain⟨⟨dx,hp⟩,hk,hd,hO⟩:=h
 exact⟨⟨dx,s _ _ hp⟩,hk.same s,s _ _ hd,hO⟩
theorem BookAt.tup {C:Addr}{H H':Hp}{p k d:Addr}{L:List Tr}(h:BookAt C H p k d L) (B:But2 k d H H'){x:Addr}{u:List V}(e:H x=some (.tup u)):H' x=some (.tup u):=by
 obtain⟨_,⟨bs,hk,_⟩,hd,_⟩:=h
 exact B _ _ e (λz=>by rw[z,hk] at e;cases e) (λz=>by rw[z,hd] at e;cases e)
theorem BookAt.rows {C:Addr}{H H':Hp}{p k d:Addr}{L:List Tr}(h:BookAt C H p k d L) (B:But2 k d H H'){q:Addr}{rows:List Row}(hR:RowsAt H q rows):RowsAt H' q rows:=by
 obtain⟨bs,hp,hl,hr⟩:=hR
 exact⟨bs,h.tup B hp,hl,λi c r e1 e2=>h.tup B (hr i c r e1 e2)⟩
theorem BookAt.put {C:Addr}{H:Hp}{p k d D:Addr}{L:List Tr}{xs ys:List V}(h:BookAt C H p k d L) (hD:H D=some (.lst xs)) (nk:D≠k):BookAt C (upd H D (.lst ys)) p k d L:=by
 obtain⟨⟨dx,hp⟩,⟨bs,hk,hl,hr⟩,hd,hO⟩:=h
 refine⟨⟨dx,?_⟩,⟨bs,?_,hl,λi c r e1 e2=>?_⟩,?_,hO⟩
 ·rw[upd_ne (λz=>by rw[z,hD] at hp;cases hp)];exact hp
 ·rw[upd_ne (Ne.symm nk)];exact hk
 ·have:=hr i c r e1 e2
  rw[upd_ne (λz=>by rw[z,hD] at this;cases this)];exact this
 ·rw[upd_ne (λz=>by rw[z,hD] at hd;cases hd)];exact hd
theorem bF_nf (k d:Addr):(bFlds k d).lookup ("number_for" : Str)=none:=bFlds_no k d (by decide +kernel) (by decide +kernel)
section
variable {P:Program}{w:World}{K:PySem.W.Frag}{mg:Str->Option Value}{base:Heap}
theorem scBkNs:FnScope ["self", "rows", "numbers", "row"] ["self", "rows"] (defScope sBkNums):=⟨rfl,rfl,rfl,by decide +kernel,rfl,by decide +kernel,by decide +kernel⟩
def spBkNs (C:Addr):Sp:=λvs H Q _=>∃(p kk dd rp:Addr) (L:List Tr) (rows:List Row),vs=[.ref p,.ref rp]/\BookAt C H p kk dd L/\RowsAt H rp rows/\RowsOk rows/\(∀r∈rows,¬Plain r)/\L.length+rows.length<=1190980 /\
 ∀(H':Hp) (g:Addr),H g=none->But2 kk dd H H'->BookAt C H' p kk dd (insR rows L rows.length)->H' g=some (.lst (vN (nmsR rows L rows.length)))->Q (.ref g) H'
theorem ok_bkNs {f fN fR fP C:Addr}{fd fdN fdR fdP:FuncData}(F:Fun K "numbers_for" "Book.numbers_for" sBkNums f fd) (B:Blt mg) (Tc:Cst mg) (hem0:∃t,mg "EMPTY" = some (.int 0 t)) (T:BookIn K mg C)
  (MN:Meth K C "number_for" fN) (FN:Fun K "number_for" "Book.number_for" sBkNum fN fdN) (bN:Binds K fdN ["self", "row"] [])
  (hR:mg "renumbered" = some (.ref fR)) (FR:Fun K "renumbered" "renumbered" sRenum fR fdR) (bR:Binds K fdR ["row", "numbers"] [])
  (hP:mg "is_plain" = some (.ref fP)) (FP:Fun K "is_plain" "is_plain" sPlain fP fdP) (bP:Binds K fdP ["row"] []):FnOk P w K mg base CX0 4 f fd ["self", "rows"] (spBkNs C):=by
 have GN:FnOk P w K mg base CX0 3 fN fdN ["self", "row"] (spBkN C):=ok_bkN FN B Tc T hP FP bP
 have GR:FnOk P w K mg base CX0 1 fR fdR ["row", "numbers"] spRenL:=ok_renL FR B
 obtain⟨tu,hfu⟩:=Tc.full
 obtain⟨te,hem⟩:=hem0
 refine F.ok scBkNs (λvs H Q E h=>?_) (λcdv A outer s H vs Q E hr h=>?_)
 ·obtain⟨p,kk,dd,rp,L,rows,rfl,_⟩:=h
  rfl
 ·obtain⟨p,kk,dd,rp,L,rows,rfl,hB,hRS,ok,np,hl,q⟩:=h
  have hr1:Room 1 _:=hr.mono (by decide)
  refine seqE ⟨_,⟨ps_set (i:=2) scBkNs.nd rfl (by first|left;rfl|right;rfl) (pe_lst (qa0 (pe_glob (v:=.int 0) (by rfl) hem ⟨_,rfl⟩) (qa0 (pe_glob (v:=.int 1) (by rfl) hfu ⟨_,rfl⟩) qa3)))⟩,?_⟩
  refine seqE ⟨_,⟨ps_for PassesOwn.never rfl (pi_tup (pv 1)) (pg_name (i:=3) scBkNs.nd rfl (by first|left;rfl|right;rfl))
   (pss_one (ps_expr (PEb.go (pe_bmb PySem.F.plainAttrs_list PySem.F.slot_list_append PySem.F.type_list_append mt_append ⟨pv 2⟩ (.cons ⟨pe_meth (pv 0) T.cl MN GN hr bN .nil pass0 (Ars2.go (.cons ⟨pe_call GR hr1 (by rfl) hR FR.kp bR .nil pass0 (qa0 (pv 3) (qa0 (pv 2) qa3))⟩ .nil rfl))⟩ .nil rfl)))))⟩,?_⟩
  refine lastE ⟨_,⟨ps_ret (pv 2)⟩,?_⟩
  refine⟨(by show 2<=sizeLine;decide),λg hg=>?_⟩
  have S1:=sameU (o:=.lst [.int 0,.int 1]) hg
  have hB1:=hB.same S1
  have hg1:upd H g (.lst [.int 0,.int 1]) g=some (.lst (vN (nmsR rows L 0))):=by
   have e0:nmsR rows L 0=[0,1]:=by
    show[Tr.name L (Qf.T rows 0),Tr.name L (Qf.T rows 1)]=_
    rw[T_zero,T_one];rfl
   rw[e0,qa1];rfl
  have hRS1:RowsAt (upd H g (.lst [.int 0,.int 1])) rp rows:=hRS.mono S1.tups
  have ngk:g≠kk:=by
   obtain⟨_,⟨ks,hk,_⟩,_,_⟩:=id hB
   exact (qa2 hk hg).symm
  generalize upd H g (.lst [.int 0,.int 1])=H1 at S1 hB1 hg1 hRS1 ⊢
  obtain⟨bs,hrp,hbl,hrow⟩:=id hRS
  have ngd:g≠dd:=(qa2 hB.dc hg).symm
  refine⟨_,rfl,rp,rfl,⟨_,SqT.of (S1 _ _ hrp)⟩,for_tup (K:=K) (a:=rp) (xs:=bs.map V.ref) (λi σ H2=>BookAt C H2 p kk dd (insR rows L i)/\H2 g=some (.lst (vN (nmsR rows L i)))/\But2 kk dd H H2/\∃v,σ=[some (.ref p),some (.ref rp),some (.ref g),v]) ?_ ?_ ?_ ?_⟩
  ·exact⟨hB1,hg1,But2.of S1,none,rfl⟩
  ·rintro i σ H2 _ ⟨_,_,B2,_⟩
   exact SqT.of (hB.tup B2 hrp)
  ·rintro i x σ H2 hx ⟨hB2,hg2,B2,v,rfl⟩
   rw[List.getElem?_map] at hx
   obtain⟨b,hb,rfl⟩:=Option.map_eq_some_iff.mp hx
   have hi:i<rows.length:=by rw[<- hbl];exact (gS_ hb).1
   obtain⟨a0,a1,a2,a3,er⟩:=four_of (ok i _ (List.getElem?_eq_getElem hi)).1
   have hri:rows[i]?=some [a0,a1,a2,a3]:=by rw[List.getElem?_eq_getElem hi,er]
   have hbt:=hB.tup B2 (hrow i b _ hb hri)
   have hlt:=(ok i _ hri).2
   obtain⟨⟨dx,hob⟩,_,_,hO⟩:=id hB2
   have hin:=λx (hx:x∈[a0,a1,a2,a3])=>insR_in (rows:=rows) (L:=L) i x (hlt x hx)
   obtain⟨e2,he2,hle2⟩:=insR_ext rows L i
   have hL2:(insR rows L i).length<=L.length+i:=by rw[he2,List.length_append];lia
   have hTT:=mkT_T ok np hri
   have hsucc:=nmsR_succ ok np hB.od hi
   have hnl:(nmsR rows L i).length=i+2:=by unfold nmsR;rw[List.length_map,List.length_range]
   have hv:∀q∈[a0,a1,a2,a3],(nmsR rows L i)[q]?=some (Tr.name (insR rows L i) (Qf.T rows q)):=λq hq=>by
    unfold nmsR
    rw[List.getElem?_map,List.getElem?_range (hlt q hq)]
    rfl
   have hins:ins (mkT (Qf.T rows a0) (Qf.T rows a1) (Qf.T rows a2) (Qf.T rows a3)) (insR rows L i)=insR rows L (i+1):=by rw[hTT];rfl
   have hnam:Tr.name (insR rows L (i+1)) (mkT (Qf.T rows a0) (Qf.T rows a1) (Qf.T rows a2) (Qf.T rows a3))=Tr.name (insR rows L (i+1)) (Qf.T rows (i+2)):=by rw[hTT]
   rw[hsucc]
   refine⟨_,rfl,.inl ⟨rfl,_,SqL.of hg2⟩,_,rfl,p,dx,_,rfl,hob,bF_nf _ _,_,rfl,_,rfl,b,g,[a0,a1,a2,a3],_,λx=>Tr.name (insR rows L i) (Qf.T rows x),rfl,hbt,rfl,hg2,hv,λH3 t s3 ht=>?_⟩
   refine⟨p,kk,dd,t,_,_,_,_,_,rfl,hB2.same s3,ht,hin a0 (by simp),hin a1 (by simp),hin a2 (by simp),hin a3 (by simp),by lia,λH4 B4 hB4=>?_⟩
   rw[hins] at hB4 ⊢
   rw[hnam]
   have hg4:=B4 _ _ (s3 _ _ hg2) ngk ngd
   refine⟨g,_,_,rfl,rfl,hg4,by rw[vN_len,hnl];exact smallM (by lia),?_⟩
   refine⟨hB4.put hg4 ngk,?_,λc o e n1 n2=>?_,_,rfl⟩
   ·rw[qa1]
    unfold vN
    rw[List.map_append]
    rfl
   ·rw[upd_ne (qa2 e hg)]
    exact B4 _ _ (s3 _ _ (B2 _ _ e n1 n2)) n1 n2
  ·rintro σ H2 ⟨hB2,hg2,B2,v,rfl⟩
   rw[List.length_map,hbl] at hB2 hg2
   exact⟨_,rfl,q H2 g hg B2 hB2 hg2⟩
end
end Pr
namespace HT
open PySem PySem.Spec PyProof.Rows
section
variable {prog:Program}{w:World}{A:Around}{E:Value->Shared->Prop}{s:Shared}
theorem adj2:∀c:Nat,c<2->Builtin.Slice.sliceAdjust (some (c:Int)) none 2 (4:Int)=((c:Int),4):=by
 intro c hc
 match c,hc with
 |0,_=>rfl
 |1,_=>rfl
theorem plc2:∀c:Nat,c<2->Builtin.Slice.slicePlaces (c:Int) 4 2=2:=by
 intro c hc
 match c,hc with
 |0,_=>rfl
 |1,_=>rfl
theorem sliceApplied_two {sl:Addr}{c:Nat}{vl vu vs:Value}{Q:Int×Int×Nat->Shared->Prop}(hs:s.heap.IsSliceOf sl vl vu vs) (pl:IsPart vl (some (c:Int))) (pu:IsPart vu none) (ps:IsPart vs (some 2)) (hc:c<2) (h:Q ((c:Int),2,2) s):wpAny (model prog w) A (Builtin.Slice.sliceApplied (.ref sl) (pure (4:Int))) Q E s:=by
 obtain⟨os,hos,hcs,hds⟩:=id hs
 unfold Builtin.Slice.sliceApplied Builtin.Slice.sliceFields
 refine wpAny_bind (wpAny_bind (wpAny_field hos hds (x:=vl) rfl (wpAny_bind (wpAny_field hos hds (x:=vu) rfl (wpAny_bind (wpAny_field hos hds (x:=vs) rfl (wpAny_pure ?_)))))))
 refine wpAny_bind (slicePart_ ps ?_)
 show wpAny _ _ (if ((2:Int)==0)=true then _ else _) _ _ s
 rw[if_neg (by decide)]
 refine wpAny_bind (slicePart_ pl (wpAny_bind (slicePart_ pu (wpAny_bind (wpAny_pure ?_)))))
 show wpAny _ _ (match Builtin.Slice.sliceAdjust (some (c:Int)) none 2 (4:Int) with|(lo,hi)=>pure (lo,(2:Int),Builtin.Slice.slicePlaces lo hi 2)) _ _ s
 rw[adj2 c hc]
 show wpAny _ _ (pure ((c:Int),(2:Int),Builtin.Slice.slicePlaces (c:Int) 4 2)) _ _ s
 rw[plc2 c hc]
 exact wpAny_pure h
theorem getItem_tuple_two {t sl:Addr}{x0 x1 x2 x3:Value}{c:Nat}{Q:Value->Shared->Prop}(ht:IsTup s.heap t #[x0,x1,x2,x3]){vl vu vs:Value}(hs:s.heap.IsSliceOf sl vl vu vs) (pl:IsPart vl (some (c:Int))) (pu:IsPart vu none) (ps:IsPart vs (some 2)) (hc:c<2)
  (h:Q (.ref s.heap.objs.size) { s with heap:=s.heap.push { cls:=.type "tuple",data:=.seq (if c=0 then #[x0,x2] else #[x1,x3]) } }):wpAny (model prog w) A (getItem (.ref t) (.ref sl)) Q E s:=by
 obtain⟨os,hos,hcs,hds⟩:=id hs
 have hTs:s.TypeIs (.ref sl) "slice":=⟨os,hos,hcs⟩
 unfold getItem
 try with_reducible refine wpAny_holding ?_
 first|refine wpAny_bind (wpAny_pure ?_)|skip
 refine wpAny_bind (wpAny_sequenceKey ht.typeIs (by decide) ?_)
 refine wpAny_bind (wpAny_callSpecial?_slot (name:=Str.ofString "__getitem__") ht.typeIs PyProof.Rows.slot_tuple_getitem
  (wpAny_call_entry PyProof.Rows.slot_tuple_getitem ht.typeIs entry_tuple_getitem ?_ (args_tuple_getitem _ _)))
 show wpAny _ _ (Builtin.Tuple.tupleItemsOf (.ref t) >>= _) _ _ s
 refine wpAny_bind (tupleItemsOf_ ht ?_)
 refine wpAny_bind (wpAny_typeOf hTs ?_)
 rw[if_pos (by decide)]
 refine wpAny_bind (sliceApplied_two hs pl pu ps hc ?_)
 have hno:¬(((c:Int)==0&&(2:Int)==1&&(2:Nat)==(#[x0,x1,x2,x3]:Array Value).size)=true):=by
  intro q
  rw[Bool.and_eq_true,Bool.and_eq_true] at q
  exact absurd q.1.2 (by decide)
 show wpAny _ _ (if ((c:Int)==0&&(2:Int)==1&&(2:Nat)==(#[x0,x1,x2,x3]:Array Value).size)=true then _ else _) _ _ s
 rw[if_neg hno]
 have pk:((List.range 2).filterMap λ(m:Nat)=>(#[x0,x1,x2,x3]:Array Value)[((c:Int)+(m:Int)*2).toNat]?).toArray=(if c=0 then #[x0,x2] else #[x1,x3]):=by
  match c,hc with
  |0,_=>rfl
  |1,_=>rfl
 rw[pk]
 have htake:sizeOk (.seq (if c=0 then #[x0,x2] else #[x1,x3])):=by
  match c,hc with
  |0,_=>show 2<=sizeLine;decide
  |1,_=>show 2<=sizeLine;decide
 first
  |exact wpAny_bind (m:=Builtin.Tuple.tupleExact _) (wpAny_newObj_type (wpAny_pure ⟨_,rfl,wpAny_pure h⟩) htake)
  |exact wpAny_bind (m:=Builtin.Tuple.tupleExact _) (wpAny_newObj_type (wpAny_bind (wpAny_pure (wpAny_pure ⟨_,rfl,wpAny_pure h⟩))) htake)
  |exact wpAny_bind (wpAny_bind (m:=Builtin.Tuple.tupleExact _) (wpAny_newObj_type (wpAny_pure (wpAny_pure ⟨_,rfl,wpAny_pure h⟩)) htake))
  |exact wpAny_bind (wpAny_bind (m:=Builtin.Tuple.tupleExact _) (wpAny_newObj_type (wpAny_pure ⟨_,rfl,wpAny_pure h⟩) htake))
end
end HT
namespace L2
open PySem PySem.Spec PyProof.Rows
section
variable {X:Cx}{e:Expr}{te:TE}{lo hi:Option Expr}{st:Expr}{tl th ts:TO}{pos p2:Pos}
def SlR3 (X:Cx) (r:V->Option Int->Option Int->Option Int->Hp->VK->Prop):Prop:=
 ∀(pins:List (Addr×Obj)) (s:Shared) (σ:St) (H:Hp) (x:V) (v vl vu vs:Value) (lo hi st:Option Int) (sl:Addr) (Q:VK),Inv X pins σ H s->RelV x v->s.heap.IsSliceOf sl vl vu vs->IsPart vl lo->IsPart vu hi->IsPart vs st->r x lo hi st H Q ->
  ∃T id,typeLookup (.type T) "__getitem__" = pure (some (.builtin id))/\s.TypeIs v T/\wpAny (model X.prog X.w) X.A (getItem v (.ref sl)) (EP X pins σ Q) X.xe s
def tSl3 (r:V->Option Int->Option Int->Option Int->Hp->VK->Prop) (te:TE) (tl th ts:TO):TE:=λσ H Q=>te σ H λx H1=>tl σ H1 λl H2=>th σ H2 λu H3=>ts σ H3 λk H4=>r x l u k H4 Q
theorem pe_slice3 {r:V->Option Int->Option Int->Option Int->Hp->VK->Prop}(hr:SlR3 X r) (he:PE X e te) (hl:PO X lo tl) (hu:PO X hi th) (hst:PO X (some st) ts):PE X (.Subscript e (.Slice lo hi (some st) p2) pos) (tSl3 r te tl th ts):=by
 intro pins s σ H Q I h
 refine Subscript_ (thn (he pins s σ H _ I h) λv s1 ⟨x,H1,I1,r1,q1⟩=>?_)
 refine wpAny_Slice (thn (hl pins s1 σ H1 _ I1 q1) λvl s2 ⟨l,H2,I2,pl,q2⟩=>thn (hu pins s2 σ H2 _ I2 q2) λvu s3 ⟨u,H3,I3,pu,q3⟩=>thn (hst pins s3 σ H3 _ I3 q3) λvs s4 ⟨k,H4,I4,pk,q4⟩=>?_)
 have I5:Inv X pins σ H4 { s4 with heap:=s4.heap.push { cls:=.type "slice",data:=.fields #[vl,vu,vs] } }:=I4.kept (t':=s4.toks) λb ob q=>Heap.get?_push_of_some _ q
 obtain⟨T,id,hT,ht,hg⟩:=hr pins { s4 with heap:=s4.heap.push { cls:=.type "slice",data:=.fields #[vl,vu,vs] } } σ H4 x v vl vu vs l u k s4.heap.objs.size Q I5 r1 (Heap.IsSliceOf.new ..) pl pu pk q4
 show wpAny (model X.prog X.w) X.A (subscriptTail e (.Slice lo hi (some st) p2) v (.ref s4.heap.objs.size)) (EP X pins σ Q) X.xe { s4 with heap:=s4.heap.push { cls:=.type "slice",data:=.fields #[vl,vu,vs] } }
 exact tail_any (ops:=[v,.ref s4.heap.objs.size]) ht hT hg (by with_unfolding_all rfl)
theorem sl_two:SlR3 X (λx lo hi st H Q=>∃(a:Addr) (x0 x1 x2 x3:V) (c:Nat),x=.ref a/\lo=some (c:Int)/\hi=none/\st=some 2/\c<2/\SqT X.K H a [x0,x1,x2,x3]/\∀p,H p=none->Q (.ref p) (upd H p (.tup (if c=0 then [x0,x2] else [x1,x3])))):=by
 intro pins s σ H x v vl vu vs lo hi st sl Q I rx hs pl pu pk h
 obtain⟨a,x0,x1,x2,x3,c,rfl,rfl,rfl,rfl,hc,hx,q⟩:=h
 cases rx
 obtain⟨its,r,ht,hz⟩:=I.tuple hx
 obtain⟨v0,v1,v2,v3,rfl,r0,r1,r2,r3⟩:∃v0 v1 v2 v3,its=[v0,v1,v2,v3]/\RelV x0 v0/\RelV x1 v1/\RelV x2 v2/\RelV x3 v3:=by
  cases r with
  |cons a r=>cases r with
   |cons b r=>cases r with
    |cons c r=>cases r with
     |cons d r=>cases r;exact⟨_,_,_,_,rfl,a,b,c,d⟩
 refine⟨"tuple",_,PyProof.Rows.slot_tuple_getitem.lookup,ht.typeIs,?_⟩
 refine HT.getItem_tuple_two ht hs pl pu pk hc ?_
 refine⟨.ref s.heap.objs.size,_,I.laid (t':=s.toks) (o:=.tup (if c=0 then [x0,x2] else [x1,x3])) (λb ob q=>Heap.get?_push_of_some _ q) (Nat.le_refl _) ?_,rfl,q _ (I.hok.fresh (Nat.le_refl _))⟩
 match c,hc with
 |0,_=>exact⟨by show 2<=sizeLine;decide,[v0,v2],.cons r0 (.cons r2 .nil),IsTupX.new _ _⟩
 |1,_=>exact⟨by show 2<=sizeLine;decide,[v1,v3],.cons r1 (.cons r3 .nil),IsTupX.new _ _⟩
end
end L2
namespace Pr
open PySem L2 Qf
abbrev nRR:List Str:=["row", "rows"]
theorem nd_rr:nRR.Nodup:=by decide +kernel
section
variable {P:Program}{w:World}{K:PySem.W.Frag}{mg:Str->Option Value}{base:Heap}
theorem scExch:FnScope ["number"] ["number"] (defScope sExch):=⟨rfl,rfl,rfl,by decide +kernel,rfl,by decide +kernel,by decide +kernel⟩
def spExch:Sp:=λvs H Q _=>∃q:Nat,vs=[.int (q:Nat)]/\Q (.int (ex q:Nat)) H
theorem ok_exch {f:Addr}{fd:FuncData}(F:Fun K "exchanged" "exchanged" sExch f fd) (T:Cst mg):FnOk P w K mg base CX0 1 f fd ["number"] spExch:=by
 obtain⟨tf,hf⟩:=T.first
 obtain⟨tu,hu⟩:=T.full
 refine F.ok scExch (λvs H Q E h=>?_) (λcdv A outer s H vs Q E hr h=>?_)
 ·obtain⟨x,rfl,_⟩:=h
  rfl
 ·obtain⟨x,rfl,q⟩:=h
  refine⟨_,pss_cons (ps_if (pt_cmpR op_lt (pv 0) (pe_glob (v:=.int 2) (by rfl) hf ⟨_,rfl⟩) (nomark _)) (pss_one (ps_ret (pe_op op_sub (pe_glob (v:=.int 1) (by rfl) hu ⟨_,rfl⟩) (pv 0)))) pss_nil) (pss_one (ps_ret (pv 0))),?_⟩
  refine⟨_,rfl,_,_,rfl,rfl,_,rfl,?_⟩
  refine ite2 (λhc=>?_) (λhc=>?_)
  ·have x2:x<2:=by have:=of_decide_eq_true hc;lia
   refine⟨_,rfl,_,_,rfl,rfl,?_⟩
   have e:ex x=1-x:=if_pos x2
   rw[e] at q
   show Q (V.int (1-(x:Int))) H
   rw[show (1:Int)-(x:Int)=((1-x:Nat):Int) by lia]
   exact q
  ·have x2:¬x<2:=λz=>hc (decide_eq_true (by lia))
   have e:ex x=x:=if_neg x2
   rw[e] at q
   exact⟨_,rfl,q⟩
theorem scExchR:FnScope ["rows"] ["rows"] (defScope sExchR):=⟨rfl,rfl,rfl,by decide +kernel,rfl,by decide +kernel,by decide +kernel⟩
def spExchR:Sp:=λvs H Q _=>∃(p:Addr) (rows:List Row),vs=[.ref p]/\RowsAt H p rows/\RowsOk rows/\rows.length<=1190900/\∀H' p',Same H H'->RowsAt H' p' (exr rows)->Q (.ref p') H'
theorem ok_exchR {f fX:Addr}{fd fdX:FuncData}(F:Fun K "exchanged_rows" "exchanged_rows" sExchR f fd) (B:Blt mg) (T:Cst mg)
  (hX:mg "exchanged" = some (.ref fX)) (FX:Fun K "exchanged" "exchanged" sExch fX fdX) (bX:Binds K fdX ["number"] []):FnOk P w K mg base CX0 2 f fd ["rows"] spExchR:=by
 have GX:FnOk P w K mg base CX0 1 fX fdX ["number"] spExch:=ok_exch FX T
 refine F.ok scExchR (λvs H Q E h=>?_) (λcdv A outer s H vs Q E hr h=>?_)
 ·obtain⟨p,rows,rfl,_⟩:=h
  rfl
 ·obtain⟨p,rows,rfl,hRows,ok,hl,q⟩:=h
  obtain⟨bs,hp,hlen,hrow⟩:=id hRows
  have hlb:(bs.map V.ref).length=rows.length:=by rw[List.length_map];exact hlen
  refine⟨_,pss_one (ps_ret (pe_callTy (tupO K rfl) (by rfl) B.tuple PyProof.Rows.boot_tuple (qa0 (pe_compB ["rows"] (defScope sExchR) rfl rfl rfl scExchR.nd (piT K rfl (pv 0))
   (λcl C fp s₀ H₀=>pe_callTy (tupO K rfl) (by rfl) B.tuple PyProof.Rows.boot_tuple (qa0 (pe_compB nRR _ rfl rfl rfl nd_rr (piT K rfl (pv 0))
    (λcl2 C2 fp2 s2 H2=>pe_call GX hr (by rfl) hX FX.kp bX .nil pass0 (qa0 (pv 0) qa3)) (hfr:=by rfl)) qa3))) qa3))),?_⟩
  refine⟨_,rfl,p,rfl,⟨_,SqT.of hp⟩,λD hD=>comp_walk hD (λi z H1=>∃b r,z=.ref b/\rows[i]?=some r/\H1 b=some (.tup (vN (r.map ex)))) (goes_tup (K:=K) hp) (by rw[hlb];exact smallM (by lia)) ?_ ?_ ?_⟩
  ·rintro i z H1 H2 _ tk ⟨b,r,rfl,h1,h2⟩
   exact⟨b,r,rfl,h1,tk _ _ h2⟩
  ·intro j x H3 hj hx s3 Q' hq
   have hj2:j<rows.length:=by rw[<- hlb];exact hj
   rw[List.getElem?_map] at hx
   obtain⟨b,hb,rfl⟩:=Option.map_eq_some_iff.mp hx
   have hr1:rows[j]?=some rows[j]:=by simp[hj2]
   have hb3:=s3 _ _ (hrow j b _ hb hr1)
   have rk:=ok j _ hr1
   generalize rows[j]=r at hr1 hb3 rk
   refine⟨_,rfl,b,rfl,⟨_,SqT.of hb3⟩,λD2 hD2=>comp_walk hD2 (λi z _=>∃m:Nat,r[i]?=some m/\z=.int (ex m:Nat)) (goes_tup (K:=K) hb3) (by rw[vN_len,rk.1];decide) (λ_ _ _ _ _ _ h=>h) ?_ ?_⟩
   ·intro i x H4 hi hx s4 Q2 hq2
    obtain⟨m,hm,rfl⟩:=vN_get hx
    exact⟨_,rfl,m,rfl,hq2 _ _ (Same.refl _) ⟨m,hm,rfl⟩⟩
   ·intro ys H4 s4 hd4 hly hys
    have ey:ys=vN (r.map ex):=by
     refine list_ext (by rw[hly,vN_len,vN_len,List.length_map]) λi x hx=>?_
     obtain⟨m,hm,rfl⟩:=hys i x hx
     exact vN_at (by rw[List.getElem?_map,hm];rfl)
    refine⟨D2,ys,rfl,.inl ⟨SqL.of hd4,λl hl2=>hq _ _ (s4.trans (sameU hl2)) ⟨l,r,rfl,hr1,?_⟩⟩⟩
    rw[qa1,ey]
  ·intro ys H3 s3 hd3 hly hys
   refine⟨D,ys,rfl,.inl ⟨SqL.of hd3,λl hl2=>q _ l (s3.trans (sameU hl2)) ?_⟩⟩
   have refs:∀(zs:List V) (H1:Hp),(∀(i:Nat) z,zs[i]?=some z->∃b r,z=.ref b/\rows[i]?=some r/\H1 b=some (.tup (vN (r.map ex))))->∃cs:List Addr,zs=cs.map V.ref:=λzs H1 hz=>by
    have:∀zs:List V,(∀z∈zs,∃b:Addr,z=.ref b)->∃cs:List Addr,zs=cs.map V.ref:=λzs=>by
     induction zs with
     |nil=>exact λ_=>⟨[],rfl⟩
     |cons z zs ih=>
      intro h
      obtain⟨b,rfl⟩:=h z List.mem_cons_self
      obtain⟨cs,rfl⟩:=ih λy hy=>h y (List.mem_cons_of_mem _ hy)
      exact⟨b::cs,rfl⟩
    refine this zs λz hzm=>?_
    obtain⟨i,hi,e⟩:=List.mem_iff_getElem.mp hzm
    obtain⟨b,_,e2,_⟩:=hz i z (by simp[hi,e])
    exact⟨b,e2⟩
   obtain⟨cs,rfl⟩:=refs ys H3 hys
   have hcl:cs.length=rows.length:=by rw[List.length_map] at hly;rw[hly,hlb]
   refine⟨cs,qa1,by rw[hcl];simp[exr],λi b r e1 e2=>?_⟩
   obtain⟨b',r',e3,e4,e5⟩:=hys i (.ref b) (by rw[List.getElem?_map,e1];rfl)
   cases e3
   have:r=r'.map ex:=by
    unfold exr at e2
    rw[List.getElem?_map,e4] at e2
    exact (Option.some.inj e2).symm
   rw[this]
   exact keepU e5 hl2
end
end Pr
namespace L2
open PySem PySem.Spec PyProof.Rows PySem.W
section
variable {X:Cx}{st:Stmt}{rest:List Stmt}{t u:TS}
end
section
variable {X:Cx}{e:Expr}{te:TE}
end
def isStar:Expr->Bool
 |.Starred _ _=>true
 |_=>false
theorem star_not {e:Expr}(h:isStar e=false) (es:List Expr) (env:Env):starEach (e::es) env=(false,eval e env)::starEach es env:=by
 cases e<;>first|rfl|(exfalso;cases h)
theorem pa_c {X:Cx}{e:Expr}{es:List Expr}{te:TE}{t:TA}(ha:PE X e te) (hr:PA X es t) (h:isStar e=false:=by rfl):PA X (e::es) (tCons te t):=qa0 ha hr (star_not h es X.env)
inductive PAs (X:Cx):List Expr->List TE->Prop where
 |nil:PAs X [] []
 |cons {e:Expr}{es:List Expr}{te:TE}{ts:List TE}(h:PE X e te) (r:PAs X es ts) (n:isStar e=false:=by rfl):PAs X (e::es) (te::ts)
def tAll:List TE->TA
 |[]=>tNil
 |t::ts=>tCons t (tAll ts)
theorem PAs.pa {X:Cx}{es:List Expr}{ts:List TE}(h:PAs X es ts):PA X es (tAll ts):=by
 induction h with
 |nil=>exact qa3
 |cons h r n ih=>exact pa_c h ih n
end L2
namespace Pr
open PySem L2 Qf
end Pr
namespace L2
open PySem
end L2
namespace Pr
open PySem L2
theorem cut_from {xs:List V}{a:Nat}(h:a<=xs.length):cutV xs (some (a:Int)) none=xs.drop a:=by
 unfold cutV
 rw[HT.sIx_nat,HT.sIx_none,Nat.min_eq_left h,List.take_of_length_le (by rw[List.length_drop];exact Nat.le_refl _)]
theorem cut_to {xs:List V}{a:Nat}(h:a<=xs.length):cutV xs none (some (a:Int))=xs.take a:=by
 unfold cutV
 rw[HT.sIx_nat,HT.sIx_none,Nat.min_eq_left h,List.drop_zero,Nat.sub_zero]
end Pr
namespace Qf
open Tr
def wy (L:List Tr) (rows:List Row) (f:Tr->Tr):List Nat:=(List.range (rows.length+2)).map λx=>name L (f (T rows x))
theorem wy_at {L:List Tr}{rows:List Row}{f:Tr->Tr}{x:Nat}(h:x<rows.length+2):(wy L rows f)[x]?=some (name L (f (T rows x))):=by
 unfold wy
 rw[List.getElem?_map,List.getElem?_range h]
 rfl
theorem wy_len (L:List Tr) (rows:List Row) (f:Tr->Tr):(wy L rows f).length=rows.length+2:=by unfold wy;rw[List.length_map,List.length_range]
theorem wy_ext {L s:List Tr}{rows:List Row}{f:Tr->Tr}(h:Ord L) (hi:∀x,x<rows.length+2->In L (f (T rows x))):wy (L++s) rows f=wy L rows f:=by
 unfold wy
 exact List.map_congr_left λx hx=>name_app (hi x (List.mem_range.mp hx)) h
theorem ways_math {rows:List Row}(ok:RowsOk rows) (np:∀r∈rows,¬Plain r){L:List Tr}(h:Ord L) (hr:AllRed L) :
  let L1:=insR (exr rows) L rows.length
  let L2:=insR rows L1 rows.length
  (∃s,L2=L++s/\s.length<=2*rows.length)/\AllRed L2/\(∀x,x<rows.length+2->In L2 (T rows x)/\In L2 (neg (T rows x)))/\[1,0]++(nmsR (exr rows) L rows.length).drop 2=wy L2 rows neg:=by
 intro L1 L2
 have el:=exr_len rows
 have ok':=exr_ok ok
 have np':=exr_np np
 have o1:Ord L1:=insR_ord ok' np' h _ (by rw[el];exact Nat.le_refl _)
 have o2:Ord L2:=insR_ord ok np o1 _ (Nat.le_refl _)
 obtain⟨s1,e1,l1⟩:=insR_ext (exr rows) L rows.length
 obtain⟨s2,e2,l2⟩:=insR_ext rows L1 rows.length
 have e1':L1=L++s1:=e1
 have e2':L2=L1++s2:=e2
 have hneg:∀x,2<=x->x<rows.length+2->T (exr rows) x=neg (T rows x):=λx h2 hx=>by
  have:=exr_T ok x hx
  rwa [ex_high (by lia)] at this
 have in1:∀x,x<rows.length+2->In L1 (neg (T rows x)):=λx hx=>by
  by_cases z:2<=x
  ·rw[<- hneg x z hx];exact insR_in _ x hx
  ·have:x=0\/x=1:=by lia
   rcases this with rfl|rfl
   ·rw[T_zero];exact .inr (.inl rfl)
   ·rw[T_one];exact .inl rfl
 refine⟨⟨s1++s2,by rw[e2',e1',List.append_assoc],by rw[List.length_append];lia⟩,insR_red ok np (insR_red ok' np' hr _ (by rw[el];exact Nat.le_refl _)) _ (Nat.le_refl _),λx hx=>⟨insR_in _ x hx,by rw[e2'];exact (in1 x hx).app⟩,?_⟩
 rw[e2',wy_ext o1 in1]
 refine List.ext_getElem? λi=>?_
 by_cases hi:i<2
 ·match i,hi with
  |0,_=>rw[wy_at (by lia),T_zero];rfl
  |1,_=>rw[wy_at (by lia),T_one];rfl
 ·rw[List.getElem?_append_right (by show 2<=i;lia),List.getElem?_drop,show 2+(i - [1,0].length)=i by show 2+(i-2)=i;lia]
  by_cases hx:i<rows.length+2
  ·rw[wy_at hx]
   unfold nmsR
   rw[List.getElem?_map,List.getElem?_range hx]
   show some (name L1 (T (exr rows) i))=_
   rw[hneg i (by lia) hx]
  ·rw[List.getElem?_eq_none (by unfold nmsR;rw[List.length_map,List.length_range];lia),List.getElem?_eq_none (by rw[wy_len];lia)]
theorem name_leaf {L:List Tr}{e:Nat}(h:e<2):name L (leafT e)=e/\In L (leafT e):=by
 match e,h with
 |0,_=>exact⟨rfl,.inl rfl⟩
 |1,_=>exact⟨rfl,.inr (.inl rfl)⟩
end Qf
namespace Pr
open PySem L2 Qf
structure WaysAt (H:Hp) (t g1 g2:Addr) (rows:List Row) (L:List Tr):Prop where
 tp:H t=some (.tup [.ref g1,.ref g2])
 a:H g1=some (.lst (vN (wy L rows id)))
 b:H g2=some (.lst (vN (wy L rows neg)))
 inn:∀x,x<rows.length+2->Tr.In L (T rows x)/\Tr.In L (neg (T rows x))
theorem WaysAt.same {H H':Hp}{t g1 g2:Addr}{rows:List Row}{L:List Tr}(h:WaysAt H t g1 g2 rows L) (s:Same H H'):WaysAt H' t g1 g2 rows L:=⟨s _ _ h.tp,s _ _ h.a,s _ _ h.b,h.inn⟩
theorem WaysAt.ext {H:Hp}{t g1 g2:Addr}{rows:List Row}{L:List Tr}(h:WaysAt H t g1 g2 rows L) (o:Tr.Ord L) (s:List Tr):WaysAt H t g1 g2 rows (L++s):=
 ⟨h.tp,by rw[wy_ext o λx hx=>(h.inn x hx).1];exact h.a,by rw[wy_ext o λx hx=>(h.inn x hx).2];exact h.b,λx hx=>⟨(h.inn x hx).1.app,(h.inn x hx).2.app⟩⟩
section
variable {P:Program}{w:World}{K:PySem.W.Frag}{mg:Str->Option Value}{base:Heap}
theorem bF_nfs (k d:Addr):(bFlds k d).lookup ("numbers_for" : Str)=none:=bFlds_no k d (by decide +kernel) (by decide +kernel)
abbrev nBW:List Str:=["book", "rows", "left"]
theorem scBW:FnScope nBW ["book", "rows"] (defScope sBoth):=⟨rfl,rfl,rfl,by decide +kernel,rfl,by decide +kernel,by decide +kernel⟩
def spBW (C:Addr):Sp:=λvs H Q _=>∃(p kk dd rp:Addr) (L:List Tr) (rows:List Row),vs=[.ref p,.ref rp]/\BookAt C H p kk dd L/\RowsAt H rp rows/\RowsOk rows/\(∀r∈rows,¬Plain r)/\AllRed L/\L.length+2*rows.length<=1190980/\rows.length<=1190900 /\
 ∀(H':Hp) (t g1 g2:Addr) (L':List Tr),But2 kk dd H H'->BookAt C H' p kk dd L'->WaysAt H' t g1 g2 rows L'->H t=none->H g1=none->H g2=none->(∃s,L'=L++s/\s.length<=2*rows.length)->AllRed L'->Q (.ref t) H'
theorem ok_BW {f fN fX fE C:Addr}{fd fdN fdX fdE:FuncData}(F:Fun K "both_ways" "both_ways" sBoth f fd) (B:Blt mg) (Tc:Cst mg) (hem0:∃t,mg "EMPTY" = some (.int 0 t)) (TB:BookIn K mg C)
  (MN:Meth K C "numbers_for" fN) (bN:Binds K fdN ["self", "rows"] []) (GN:FnOk P w K mg base CX0 4 fN fdN ["self", "rows"] (spBkNs C))
  (hX:mg "exchanged_rows" = some (.ref fX)) (FX:Fun K "exchanged_rows" "exchanged_rows" sExchR fX fdX) (bX:Binds K fdX ["rows"] []) (GX:FnOk P w K mg base CX0 2 fX fdX ["rows"] spExchR):FnOk P w K mg base CX0 5 f fd ["book", "rows"] (spBW C):=by
 obtain⟨tf,hfi⟩:=Tc.first
 obtain⟨tu,hfu⟩:=Tc.full
 obtain⟨te,hem⟩:=hem0
 refine F.ok scBW (λvs H Q E h=>?_) (λcdv A outer s H vs Q E hr h=>?_)
 ·obtain⟨p,kk,dd,rp,L,rows,rfl,_⟩:=h
  rfl
 ·obtain⟨p,kk,dd,rp,L,rows,rfl,hB,hR,ok,np,rd,hl,hl9,q⟩:=h
  have hr2:Room 2 _:=hr.mono (by decide)
  refine seqE ⟨_,⟨ps_set (i:=2) scBW.nd rfl (by first|left;rfl|right;rfl) (pe_meth (pv 0) TB.cl MN GN hr bN .nil pass0 (Ars2.go (.cons ⟨pe_call GX hr2 (by rfl) hX FX.kp bX .nil pass0 (qa0 (pv 1) qa3)⟩ .nil rfl)))⟩,?_⟩
  refine lastE ⟨_,⟨ps_ret (pe_tup (Ars2.go (.cons ⟨pe_meth (pv 0) TB.cl MN GN hr bN .nil pass0 (qa0 (pv 1) qa3)⟩ (.cons ⟨pe_op op_cat (pe_lst (qa0 (pe_glob (v:=.int 1) (by rfl) hfu ⟨_,rfl⟩) (qa0 (pe_glob (v:=.int 0) (by rfl) hem ⟨_,rfl⟩) qa3))) (pe_slice sl_list (pv 2) (po_some (pe_glob (v:=.int 2) (by rfl) hfi ⟨_,rfl⟩)) po_none)⟩ .nil rfl) rfl)))⟩,?_⟩
  obtain⟨⟨dx,hob⟩,_,_,hO⟩:=id hB
  have el:=exr_len rows
  obtain⟨⟨s2,e2,l2⟩,rd2,inn2,hwy⟩:=ways_math ok np hO rd
  have ok1:Tr.Ord (insR (exr rows) L rows.length):=insR_ord (exr_ok ok) (exr_np np) hO _ (by rw[el];exact Nat.le_refl _)
  obtain⟨s1',e1',l1'⟩:=insR_ext (exr rows) L rows.length
  have hl1:(insR (exr rows) L rows.length).length<=L.length+rows.length:=by rw[e1',List.length_append];lia
  refine⟨_,rfl,p,dx,_,rfl,hob,bF_nfs _ _,_,rfl,rp,rows,rfl,hR,ok,hl9,λH1 rp1 s1 hR1=>⟨p,kk,dd,rp1,L,exr rows,rfl,hB.same s1,hR1,exr_ok ok,exr_np np,by rw[el];lia,λH2 g hg B2 hB2 hg2=>?_⟩⟩
  rw[el] at hB2 hg2
  have hB1:=hB.same s1
  have B02:But2 kk dd H H2:=(But2.of s1).trans B2
  have hR2:RowsAt H2 rp rows:=hB.rows B02 hR
  obtain⟨⟨dx2,hob2⟩,⟨bs2,hk2,_⟩,hd2,_⟩:=id hB2
  refine⟨_,rfl,p,dx2,_,rfl,hob2,bF_nfs _ _,_,rfl,p,kk,dd,rp,_,rows,rfl,hB2,hR2,ok,np,by lia,λH3 g1 hg1 B3 hB3 hg13=>?_⟩
  obtain⟨_,⟨bs1,hk1,_⟩,hd1,_⟩:=id hB1
  have ngk:g≠kk:=(qa2 hk1 hg).symm
  have ngd:g≠dd:=(qa2 hd1 hg).symm
  have hg3:=B3 _ _ hg2 ngk ngd
  have hgH:H g=none:=by
   cases e:H g with
   |none=>rfl
   |some o=>rw[s1 _ _ e] at hg;cases hg
  have hg1H:H g1=none:=by
   cases e:H g1 with
   |none=>rfl
   |some o=>
    have n1:g1≠kk:=λz=>by rw[z,hk2] at hg1;cases hg1
    have n2:g1≠dd:=λz=>by rw[z,hd2] at hg1;cases hg1
    rw[B02 _ _ e n1 n2] at hg1;cases hg1
  have B03:=B02.trans B3
  obtain⟨_,⟨bs3,hk3,_⟩,hd3,_⟩:=id hB3
  have back:∀{x:Addr}{Hx:Hp},Same H3 Hx->Hx x=none->H x=none:=λ{x Hx} s e=>by
   cases e0:H x with
   |none=>rfl
   |some o=>
    have e3:H3 x=none:=by
     cases e4:H3 x with
     |none=>rfl
     |some o'=>rw[s _ _ e4] at e;cases e
    have n1:x≠kk:=λz=>by rw[z,hk3] at e3;cases e3
    have n2:x≠dd:=λz=>by rw[z,hd3] at e3;cases e3
    rw[B03 _ _ e0 n1 n2] at e3;cases e3
  refine⟨(by show 2<=sizeLine;decide),λl1 hl1=>⟨_,rfl,_,rfl,g,_,rfl,SqL.of (keepU hg3 hl1),λl3 hl3=>?_⟩⟩
  have hlen:(vN (nmsR (exr rows) L rows.length)).length=rows.length+2:=by rw[vN_len];unfold nmsR;rw[List.length_map,List.length_range]
  have ecut:cutV (vN (nmsR (exr rows) L rows.length)) (some 2) none=vN ((nmsR (exr rows) L rows.length).drop 2):=by
   rw[show (2:Int)=((2:Nat):Int) from rfl,cut_from (by lia)]
   unfold vN
   rw[List.map_drop]
  rw[ecut]
  refine⟨l1,l3,_,_,rfl,rfl,keepU qa1 hl3,qa1,?_,λg2 hg2'=>⟨(by show 2<=sizeLine;decide),λt ht=>?_⟩⟩
  ·rw[vN_len,List.length_drop]
   show 2+_<=sizeLine
   have:(nmsR (exr rows) L rows.length).length=rows.length+2:=by unfold nmsR;rw[List.length_map,List.length_range]
   exact Nat.le_of_lt (smallM (by lia))
  have e3:[V.int 1,V.int 0]++vN ((nmsR (exr rows) L rows.length).drop 2)=vN (wy (insR rows (insR (exr rows) L rows.length) rows.length) rows neg):=by
   rw[<- hwy]
   unfold vN
   rw[List.map_append]
   rfl
  have U1:=sameU (o:=.lst [V.int 1,V.int 0]) hl1
  have U2:=U1.trans (sameU (o:=.lst (vN ((nmsR (exr rows) L rows.length).drop 2))) hl3)
  have U3:=U2.trans (sameU (o:=.lst ([V.int 1,V.int 0]++vN ((nmsR (exr rows) L rows.length).drop 2))) hg2')
  have U4:=U3.trans (sameU (o:=.tup [V.ref g1,V.ref g2]) ht)
  refine q _ t g1 g2 _ (B03.trans (But2.of U4)) (hB3.same U4) ⟨qa1,U4 _ _ hg13,?_,inn2⟩ (back U3 ht) hg1H (back U2 hg2') ⟨s2,e2,l2⟩ rd2
  rw[<- e3]
  exact keepU qa1 ht
abbrev nNB:List Str:=["ways", "number", "outcomes"]
theorem scNB:FnScope nNB nNB (defScope sBeside):=⟨rfl,rfl,rfl,by decide +kernel,rfl,by decide +kernel,by decide +kernel⟩
def spNB:Sp:=λvs H Q _=>∃(t o g1 g2:Addr) (x e f:Nat) (L:List Tr) (rows:List Row),vs=[.ref t,.int (x:Nat),.ref o]/\WaysAt H t g1 g2 rows L/\H o=some (.tup [.int (e:Nat),.int (f:Nat)])/\e<2/\f<2/\x<rows.length+2 /\
 (Tr.In L (beside e f (T rows x))->Q (.int (Tr.name L (beside e f (T rows x)):Nat)) H)
theorem ok_NB {f:Addr}{fd:FuncData}(F:Fun K "number_beside_plain" "number_beside_plain" sBeside f fd):FnOk P w K mg base CX0 1 f fd nNB spNB:=by
 refine F.ok scNB (λvs H Q E h=>?_) (λcdv A outer s H vs Q E hr h=>?_)
 ·obtain⟨t,o,g1,g2,x,e,f,L,rows,rfl,_⟩:=h
  rfl
 ·obtain⟨t,o,g1,g2,x,e,f,L,rows,rfl,hw,ho,he,hf,hx,q⟩:=h
  refine seqE ⟨_,⟨ps_if (pt_cmpR op_eq (pe_ix ix_tup (pv 2) qa4 (λ_ _=>rfl)) (pe_ix ix_tup (pv 2) qa4 (λ_ _=>rfl)) (nomark _)) (pss_one (ps_ret (pe_ix ix_tup (pv 2) qa4 (λ_ _=>rfl)))) pss_nil⟩,?_⟩
  refine lastE ⟨_,⟨ps_ret (pe_ix ix_list (pe_ix ix_tup (pv 0) (pe_ix ix_tup (pv 2) qa4 (λ_ _=>rfl)) (λ_ _=>rfl)) (pv 1) (λ_ _=>rfl))⟩,?_⟩
  refine⟨_,rfl,o,_,0,.int (e:Nat),rfl,rfl,SqT.of ho,rfl,_,rfl,o,_,1,.int (f:Nat),rfl,rfl,SqT.of ho,rfl,rfl,_,rfl,?_⟩
  refine ite2 (λhc=>?_) (λhc=>?_)
  ·have ef:e=f:=by
    have:=of_decide_eq_true hc
    injection this with this
    lia
   have eb:beside e f (T rows x)=leafT e:=by unfold beside;rw[if_pos ef]
   obtain⟨n1,n2⟩:=name_leaf (L:=L) he
   rw[eb,n1] at q
   exact⟨_,rfl,o,_,0,.int (e:Nat),rfl,rfl,SqT.of ho,rfl,q n2⟩
  ·have ef:¬e=f:=λz=>hc (decide_eq_true (by rw[z]))
   obtain⟨i1,i2⟩:=hw.inn x hx
   match e,he with
   |0,_=>
    have eb:beside 0 f (T rows x)=T rows x:=by unfold beside;rw[if_neg ef,if_pos rfl]
    rw[eb] at q
    exact⟨_,rfl,_,rfl,o,_,0,.int (0:Nat),rfl,rfl,SqT.of ho,rfl,t,_,0,.ref g1,rfl,rfl,SqT.of hw.tp,rfl,_,rfl,g1,_,(x:Int),_,rfl,rfl,SqL.of hw.a,atI_nat (vN_at (wy_at hx)),q i1⟩
   |1,_=>
    have eb:beside 1 f (T rows x)=neg (T rows x):=by unfold beside;rw[if_neg ef,if_neg (by decide)]
    rw[eb] at q
    exact⟨_,rfl,_,rfl,o,_,0,.int (1:Nat),rfl,rfl,SqT.of ho,rfl,t,_,1,.ref g2,rfl,rfl,SqT.of hw.tp,rfl,_,rfl,g2,_,(x:Int),_,rfl,rfl,SqL.of hw.b,atI_nat (vN_at (wy_at hx)),q i2⟩
end
def dFl3 (rp op oc:Addr):List (Str×V):=putF "outcomes" (.ref oc) (putF "other_rows" (.ref op) (putF "rows" (.ref rp) []))
def dFl4 (rp op oc b:Addr):List (Str×V):=putF "book" (.ref b) (dFl3 rp op oc)
def dFl5 (rp op oc b w1:Addr):List (Str×V):=putF "ways" (.ref w1) (dFl4 rp op oc b)
def dFlds (rp op oc b w1 w2 g:Addr):List (Str×V):=putF "known" (.ref g) (putF "other_ways" (.ref w2) (dFl5 rp op oc b w1))
section
variable (rp op oc b w1 w2 g:Addr)
theorem dF4_book:(dFl4 rp op oc b).lookup ("book" : Str)=some (.ref b):=by
 unfold dFl4;rw[lookup_putF,if_pos rfl]
theorem dF5_book:(dFl5 rp op oc b w1).lookup ("book" : Str)=some (.ref b):=by
 unfold dFl5;rw[lookup_putF,if_neg (by decide +kernel)];exact dF4_book rp op oc b
theorem dF_book:(dFlds rp op oc b w1 w2 g).lookup ("book" : Str)=some (.ref b):=by
 unfold dFlds;rw[lookup_putF,if_neg (by decide +kernel),lookup_putF,if_neg (by decide +kernel)];exact dF5_book rp op oc b w1
theorem dF_rows:(dFlds rp op oc b w1 w2 g).lookup ("rows" : Str)=some (.ref rp):=by
 unfold dFlds dFl5 dFl4 dFl3
 rw[lookup_putF,if_neg (by decide +kernel),lookup_putF,if_neg (by decide +kernel),lookup_putF,if_neg (by decide +kernel),lookup_putF,if_neg (by decide +kernel),lookup_putF,if_neg (by decide +kernel),lookup_putF,if_neg (by decide +kernel),lookup_putF,if_pos rfl]
theorem dF_orows:(dFlds rp op oc b w1 w2 g).lookup ("other_rows" : Str)=some (.ref op):=by
 unfold dFlds dFl5 dFl4 dFl3
 rw[lookup_putF,if_neg (by decide +kernel),lookup_putF,if_neg (by decide +kernel),lookup_putF,if_neg (by decide +kernel),lookup_putF,if_neg (by decide +kernel),lookup_putF,if_neg (by decide +kernel),lookup_putF,if_pos rfl]
theorem dF_out:(dFlds rp op oc b w1 w2 g).lookup ("outcomes" : Str)=some (.ref oc):=by
 unfold dFlds dFl5 dFl4 dFl3
 rw[lookup_putF,if_neg (by decide +kernel),lookup_putF,if_neg (by decide +kernel),lookup_putF,if_neg (by decide +kernel),lookup_putF,if_neg (by decide +kernel),lookup_putF,if_pos rfl]
theorem dF_ways:(dFlds rp op oc b w1 w2 g).lookup ("ways" : Str)=some (.ref w1):=by
 unfold dFlds dFl5
 rw[lookup_putF,if_neg (by decide +kernel),lookup_putF,if_neg (by decide +kernel),lookup_putF,if_pos rfl]
theorem dF_oways:(dFlds rp op oc b w1 w2 g).lookup ("other_ways" : Str)=some (.ref w2):=by
 unfold dFlds
 rw[lookup_putF,if_neg (by decide +kernel),lookup_putF,if_pos rfl]
theorem dF_known:(dFlds rp op oc b w1 w2 g).lookup ("known" : Str)=some (.ref g):=by
 unfold dFlds
 rw[lookup_putF,if_pos rfl]
theorem dF_pair:(dFlds rp op oc b w1 w2 g).lookup ("number_for_pair" : Str)=none:=by
 unfold dFlds dFl5 dFl4 dFl3
 rw[lookup_putF,if_neg (by decide +kernel),lookup_putF,if_neg (by decide +kernel),lookup_putF,if_neg (by decide +kernel),lookup_putF,if_neg (by decide +kernel),lookup_putF,if_neg (by decide +kernel),lookup_putF,if_neg (by decide +kernel),lookup_putF,if_neg (by decide +kernel)]
 all_goals rfl
end
def KTup (K:PySem.W.Frag) (a:Addr) (xs:List V):Prop:=∃(o:Obj) (its:Array Value) (n:Nat),K.lookup a=some o/\o.cls=.type "tuple" /\ o.data=.seq its n/\its.size<=sizeLine/\Vals xs its.toList
structure DdIn (K:PySem.W.Frag) (mg:Str->Option Value) (C:Addr):Prop where
 cl:Cls K C
 nR:NoAttr K C "rows"
 nO:NoAttr K C "other_rows"
 nC:NoAttr K C "outcomes"
 nB:NoAttr K C "book"
 nW:NoAttr K C "ways"
 nX:NoAttr K C "other_ways"
 nN:NoAttr K C "known"
 mgC:mg "Deed" = some (.ref C)
structure DdAt (C CB:Addr) (rows orows:List Row) (H:Hp) (p rp op oc b kk dd w1 w2 g:Addr) (G:Nat->Addr) (L:List Tr) (kv:List (List Key×V)):Prop where
 ob:∃dx,H p=some (.ins C dx (dFlds rp op oc b w1 w2 g))
 bk:BookAt CB H b kk dd L
 wa:WaysAt H w1 (G 0) (G 1) rows L
 wb:WaysAt H w2 (G 2) (G 3) orows L
 gk:∀i,G i≠kk
 kn:H g=some (.dT kv)
 ne:g≠dd
 rd:AllRed L
 r1:RowsAt H rp rows
 r2:RowsAt H op orows
theorem WaysAt.keep {C:Addr}{H H':Hp}{p k d t g1 g2:Addr}{L:List Tr}{rows:List Row}{L':List Tr}(h:WaysAt H t g1 g2 rows L) (hB:BookAt C H p k d L') (B:But2 k d H H') (n1:g1≠k) (n2:g2≠k):WaysAt H' t g1 g2 rows L:=by
 have hd:=hB.dc
 exact⟨hB.tup B h.tp,B _ _ h.a n1 (λz=>by have:=h.a;rw[z,hd] at this;cases this),B _ _ h.b n2 (λz=>by have:=h.b;rw[z,hd] at this;cases this),h.inn⟩
theorem BookAt.updI {C C':Addr}{H:Hp}{p k d p' dx':Addr}{L:List Tr}{fl fl':List (Str×V)}(h:BookAt C H p k d L) (hn:p≠p') (hp:H p'=some (.ins C' dx' fl)):BookAt C (upd H p' (.ins C' dx' fl')) p k d L:=by
 obtain⟨⟨dx,ho⟩,⟨bs,hk,hl,hr⟩,hd,hO⟩:=h
 have k1:∀{x:Addr}{o:HO},H x=some o->(∀fl,o≠.ins C' dx' fl)->upd H p' (.ins C' dx' fl') x=some o:=λ{x o} e n=>by
  rw[upd_ne (λz=>by rw[z,hp] at e;exact n fl (Option.some.inj e).symm)];exact e
 exact⟨⟨dx,by rw[upd_ne hn];exact ho⟩,⟨bs,k1 hk (λ_ z=>by cases z),hl,λi c r e1 e2=>k1 (hr i c r e1 e2) (λ_ z=>by cases z)⟩,k1 hd (λ_ z=>by cases z),hO⟩
theorem WaysAt.updI {C':Addr}{H:Hp}{t g1 g2 p' dx':Addr}{L:List Tr}{rows:List Row}{fl fl':List (Str×V)}(h:WaysAt H t g1 g2 rows L) (hp:H p'=some (.ins C' dx' fl)):WaysAt (upd H p' (.ins C' dx' fl')) t g1 g2 rows L:=by
 have k1:∀{x:Addr}{o:HO},H x=some o->(∀fl,o≠.ins C' dx' fl)->upd H p' (.ins C' dx' fl') x=some o:=λ{x o} e n=>by
  rw[upd_ne (λz=>by rw[z,hp] at e;exact n fl (Option.some.inj e).symm)];exact e
 exact⟨k1 h.tp (λ_ z=>by cases z),k1 h.a (λ_ z=>by cases z),k1 h.b (λ_ z=>by cases z),h.inn⟩
theorem allRed_nil:AllRed []:=λt ht=>nomatch ht
section
variable {P:Program}{w:World}{K:PySem.W.Frag}{mg:Str->Option Value}{base:Heap}
abbrev nDI:List Str:=["self", "rows", "other_rows", "outcomes"]
theorem scDI:FnScope nDI nDI (defScope sDdInit):=⟨rfl,rfl,rfl,by decide +kernel,rfl,by decide +kernel,by decide +kernel⟩
def spDI (C CB:Addr):Sp:=λvs H Q _=>∃(p dx rp op oc:Addr) (rows orows:List Row),vs=[.ref p,.ref rp,.ref op,.ref oc]/\H p=some (.ins C dx [])/\RowsAt H rp rows/\RowsAt H op orows/\RowsOk rows/\RowsOk orows/\(∀r∈rows,¬Plain r)/\(∀r∈orows,¬Plain r)/\2*rows.length+2*orows.length<=1190900 /\
 ∀(b kk dd w1 w2 g:Addr) (G:Nat->Addr) (L:List Tr) (H':Hp),H b=none->H kk=none->H dd=none->H g=none->DdAt C CB rows orows H' p rp op oc b kk dd w1 w2 g G L []->L.length<=2*rows.length+2*orows.length->But p H H'->Q .non H'
theorem ok_DI {f fB fW C CB:Addr}{fd fdB fdW:FuncData}(F:Fun K "__init__" "Deed.__init__" sDdInit f fd) (T:DdIn K mg C) (TB:BookIn K mg CB) (MB:Mk K CB fB) (FB:Fun K "__init__" "Book.__init__" sBkInit fB fdB) (bB:Binds K fdB ["self"] [])
  (hW:mg "both_ways" = some (.ref fW)) (FW:Fun K "both_ways" "both_ways" sBoth fW fdW) (bW:Binds K fdW ["book", "rows"] []) (GW:FnOk P w K mg base CX0 5 fW fdW ["book", "rows"] (spBW CB)):FnOk P w K mg base CX0 6 f fd nDI (spDI C CB):=by
 have GB:FnOk P w K mg base CX0 1 fB fdB ["self"] (spBkI CB):=ok_bkI FB TB
 refine F.ok scDI (λvs H Q E h=>?_) (λcdv A outer s H vs Q E hr h=>?_)
 ·obtain⟨p,dx,rp,op,oc,rows,orows,rfl,_⟩:=h
  rfl
 ·obtain⟨p,dx,rp,op,oc,rows,orows,rfl,hp,hR1,hR2,ok1,ok2,np1,np2,hl,q⟩:=h
  have hr2:Room 2 _:=hr.mono (by decide)
  have hr5:Room 5 _:=hr.mono (by decide)
  refine seqE ⟨_,⟨ps_fld (pv 0) (pv 1) rfl⟩,?_⟩
  refine seqE ⟨_,⟨ps_fld (pv 0) (pv 2) rfl⟩,?_⟩
  refine seqE ⟨_,⟨ps_fld (pv 0) (pv 3) rfl⟩,?_⟩
  refine seqE ⟨_,⟨ps_fld (pv 0) (pe_make0 MB GB hr2 (by rfl) TB.mgC bB .nil pass0) rfl⟩,?_⟩
  refine seqE ⟨_,⟨ps_fld (pv 0) (PEb.go ⟨pe_call GW hr5 (by rfl) hW FW.kp bW .nil pass0 (Ars2.go (.cons ⟨pe_fld (pv 0) rfl⟩ (.cons ⟨pv 1⟩ .nil rfl) rfl))⟩) rfl⟩,?_⟩
  refine seqE ⟨_,⟨ps_fld (pv 0) (PEb.go ⟨pe_call GW hr5 (by rfl) hW FW.kp bW .nil pass0 (Ars2.go (.cons ⟨pe_fld (pv 0) rfl⟩ (.cons ⟨pv 2⟩ .nil rfl) rfl))⟩) rfl⟩,?_⟩
  refine lastE ⟨_,⟨ps_fld (pv 0) pe_dnewT rfl⟩,?_⟩
  refine⟨_,rfl,_,rfl,p,C,dx,[],rfl,hp,T.cl,T.nR,(by show 0<1000;decide),?_⟩
  refine⟨_,rfl,_,rfl,p,C,dx,_,rfl,qa1,T.cl,T.nO,(by show 1<1000;decide),?_⟩
  refine⟨_,rfl,_,rfl,p,C,dx,_,rfl,qa1,T.cl,T.nC,(by show 2<1000;decide),?_⟩
  have up:∀{Hx:Hp}{o:HO},But p Hx (upd Hx p o):=λ{Hx o} x y e n=>by rw[upd_ne n];exact e
  have un:∀{Hx:Hp}{o o':HO}{x:Addr},Hx p=some o'->upd Hx p o x=none->Hx x=none:=λ{Hx o o' x} h e=>by
   have n:x≠p:=λz=>by rw[z,qa1] at e;cases e
   rwa [upd_ne n] at e
  have hp3:(upd (upd (upd H p (.ins C dx (putF "rows" (.ref rp) []))) p (.ins C dx (putF "other_rows" (.ref op) (putF "rows" (.ref rp) [])))) p (.ins C dx (putF "outcomes" (.ref oc) (putF "other_rows" (.ref op) (putF "rows" (.ref rp) []))))) p=some (.ins C dx (dFl3 rp op oc)):=qa1
  have B3:But p H (upd (upd (upd H p (.ins C dx (putF "rows" (.ref rp) []))) p (.ins C dx (putF "other_rows" (.ref op) (putF "rows" (.ref rp) [])))) p (.ins C dx (putF "outcomes" (.ref oc) (putF "other_rows" (.ref op) (putF "rows" (.ref rp) []))))):=(up.trans up).trans up
  have N3:∀x,(upd (upd (upd H p (.ins C dx (putF "rows" (.ref rp) []))) p (.ins C dx (putF "other_rows" (.ref op) (putF "rows" (.ref rp) [])))) p (.ins C dx (putF "outcomes" (.ref oc) (putF "other_rows" (.ref op) (putF "rows" (.ref rp) []))))) x=none->H x=none:=λx e=>un hp (un qa1 (un qa1 e))
  generalize upd (upd (upd H p (.ins C dx (putF "rows" (.ref rp) []))) p (.ins C dx (putF "other_rows" (.ref op) (putF "rows" (.ref rp) [])))) p (.ins C dx (putF "outcomes" (.ref oc) (putF "other_rows" (.ref op) (putF "rows" (.ref rp) []))))=H3 at hp3 B3 N3 ⊢
  intro b dx2 hb hdx2 hne
  have npb:p≠b:=qa2 hp3 hb
  have npd:p≠dx2:=qa2 hp3 hdx2
  refine⟨b,dx2,rfl,qa1,λkk dd H4 hkk hdd hB4 b4=>⟨rfl,?_⟩⟩
  have hnb:∀x,upd (upd H3 dx2 (.own b)) b (.ins CB dx2 []) x=none->H3 x=none/\x≠b:=λx e=>by
   have n1:x≠b:=λz=>by rw[z,qa1] at e;cases e
   rw[upd_ne n1] at e
   have n2:x≠dx2:=λz=>by rw[z,qa1] at e;cases e
   rw[upd_ne n2] at e
   exact⟨e,n1⟩
  have hp4:H4 p=some (.ins C dx (dFl3 rp op oc)):=b4 _ _ (by rw[upd_ne npb,upd_ne npd];exact hp3) npb
  have hbH:=N3 b hb
  have hkH:=N3 kk (hnb kk hkk).1
  have hdH:=N3 dd (hnb dd hdd).1
  have B4:But p H H4:=λx o e n=>by
   have nb:x≠b:=qa2 e hbH
   have e3:=B3 x o e n
   have nd:x≠dx2:=qa2 e3 hdx2
   exact b4 _ _ (by rw[upd_ne nb,upd_ne nd];exact e3) nb
  have N4:∀x,H4 x=none->H x=none:=λx e=>by
   cases e0:H x with
   |none=>rfl
   |some o=>
    by_cases n:x=p
    ·rw[n,hp4] at e;cases e
    ·rw[B4 _ _ e0 n] at e;cases e
  have nkp:∀{Hx:Hp}{Lx:List Tr}{fl:List (Str×V)},BookAt CB Hx b kk dd Lx->Hx p=some (.ins C dx fl)->p≠kk/\p≠dd:=λ{Hx Lx fl} hB e=>by
   obtain⟨_,⟨bs,hk,_⟩,hd,_⟩:=hB
   exact⟨λz=>(by rw[z,hk] at e;cases e),λz=>(by rw[z,hd] at e;cases e)⟩
  have tp:∀{Hx:Hp},But p H Hx->Tups H Hx:=λB=>B.tups hp (λu z=>by cases z)
  refine⟨_,rfl,p,C,dx,_,rfl,hp4,T.cl,T.nB,(by show 3<1000;decide),?_⟩
  have hp5:upd H4 p (.ins C dx (putF "book" (.ref b) (dFl3 rp op oc))) p=some (.ins C dx (dFl4 rp op oc b)):=qa1
  have B5:But p H (upd H4 p (.ins C dx (putF "book" (.ref b) (dFl3 rp op oc)))):=B4.trans up
  have hB5:BookAt CB (upd H4 p (.ins C dx (putF "book" (.ref b) (dFl3 rp op oc)))) b kk dd []:=hB4.updI (Ne.symm npb) hp4
  generalize upd H4 p (.ins C dx (putF "book" (.ref b) (dFl3 rp op oc)))=H5 at hp5 B5 hB5 ⊢
  refine⟨_,rfl,p,C,dx,_,_,rfl,hp5,T.cl,T.nB,dF4_book _ _ _ _,_,rfl,b,kk,dd,rp,[],rows,rfl,hB5,hR1.mono (tp B5),ok1,np1,allRed_nil,by show 0+_<=1190980;lia,by lia,λH6 w1 g1 g2 L1 B6 hB6 hw6 nw1 ng1 ng2 ext1 rd1=>?_⟩
  obtain⟨s1,e1,l1⟩:=ext1
  obtain⟨n1,n2⟩:=nkp hB5 hp5
  have hp6:=B6 _ _ hp5 n1 n2
  have k5:∃xs,H5 kk=some (.lst xs):=by
   obtain⟨_,⟨bs,hk,_⟩,_,_⟩:=id hB5
   exact⟨_,hk⟩
  have gk1:g1≠kk:=λz=>by obtain⟨_,e⟩:=k5;rw[z,e] at ng1;cases ng1
  have gk2:g2≠kk:=λz=>by obtain⟨_,e⟩:=k5;rw[z,e] at ng2;cases ng2
  have B6':But p H H6:=λx o e n=>B6 _ _ (B5 _ _ e n) (qa2 e hkH) (qa2 e hdH)
  refine⟨_,rfl,p,C,dx,_,rfl,hp6,T.cl,T.nW,(by show 4<1000;decide),?_⟩
  have hp7:upd H6 p (.ins C dx (putF "ways" (.ref w1) (dFl4 rp op oc b))) p=some (.ins C dx (dFl5 rp op oc b w1)):=qa1
  have B7:But p H (upd H6 p (.ins C dx (putF "ways" (.ref w1) (dFl4 rp op oc b)))):=B6'.trans up
  have hB7:BookAt CB (upd H6 p (.ins C dx (putF "ways" (.ref w1) (dFl4 rp op oc b)))) b kk dd L1:=hB6.updI (Ne.symm npb) hp6
  have hw7:WaysAt (upd H6 p (.ins C dx (putF "ways" (.ref w1) (dFl4 rp op oc b)))) w1 g1 g2 rows L1:=hw6.updI hp6
  generalize upd H6 p (.ins C dx (putF "ways" (.ref w1) (dFl4 rp op oc b)))=H7 at hp7 B7 hB7 hw7 ⊢
  have hl1:L1.length<=2*rows.length:=by rw[e1];exact l1
  refine⟨_,rfl,p,C,dx,_,_,rfl,hp7,T.cl,T.nB,dF5_book _ _ _ _ _,_,rfl,b,kk,dd,op,L1,orows,rfl,hB7,hR2.mono (tp B7),ok2,np2,rd1,by lia,by lia,λH8 w2 g3 g4 L2 B8 hB8 hw8 nw2 ng3 ng4 ext2 rd2=>?_⟩
  obtain⟨s2,e2,l2⟩:=ext2
  obtain⟨n3,n4⟩:=nkp hB7 hp7
  have hp8:=B8 _ _ hp7 n3 n4
  have k7:∃xs,H7 kk=some (.lst xs):=by
   obtain⟨_,⟨bs,hk,_⟩,_,_⟩:=id hB7
   exact⟨_,hk⟩
  have gk3:g3≠kk:=λz=>by obtain⟨_,e⟩:=k7;rw[z,e] at ng3;cases ng3
  have gk4:g4≠kk:=λz=>by obtain⟨_,e⟩:=k7;rw[z,e] at ng4;cases ng4
  have hw7':WaysAt H8 w1 g1 g2 rows L2:=by rw[e2];exact (hw7.keep hB7 B8 gk1 gk2).ext hB7.od s2
  have B8':But p H H8:=λx o e n=>B8 _ _ (B7 _ _ e n) (qa2 e hkH) (qa2 e hdH)
  refine⟨_,rfl,p,C,dx,_,rfl,hp8,T.cl,T.nX,(by show 5<1000;decide),?_⟩
  have hp9:upd H8 p (.ins C dx (putF "other_ways" (.ref w2) (dFl5 rp op oc b w1))) p=some (.ins C dx (putF "other_ways" (.ref w2) (dFl5 rp op oc b w1))):=qa1
  have B9:But p H (upd H8 p (.ins C dx (putF "other_ways" (.ref w2) (dFl5 rp op oc b w1)))):=B8'.trans up
  have hB9:BookAt CB (upd H8 p (.ins C dx (putF "other_ways" (.ref w2) (dFl5 rp op oc b w1)))) b kk dd L2:=hB8.updI (Ne.symm npb) hp8
  have hw9:WaysAt (upd H8 p (.ins C dx (putF "other_ways" (.ref w2) (dFl5 rp op oc b w1)))) w1 g1 g2 rows L2:=hw7'.updI hp8
  have hx9:WaysAt (upd H8 p (.ins C dx (putF "other_ways" (.ref w2) (dFl5 rp op oc b w1)))) w2 g3 g4 orows L2:=hw8.updI hp8
  generalize upd H8 p (.ins C dx (putF "other_ways" (.ref w2) (dFl5 rp op oc b w1)))=H9 at hp9 B9 hB9 hw9 hx9 ⊢
  intro g hg
  have npg:p≠g:=qa2 hp9 hg
  have U:=sameU (o:=.dT []) hg
  have hp10:=U _ _ hp9
  refine⟨_,rfl,p,C,dx,_,rfl,hp10,T.cl,T.nN,(by show 6<1000;decide),?_⟩
  have hgH:H g=none:=by
   cases e0:H g with
   |none=>rfl
   |some o=>rw[B9 _ _ e0 (Ne.symm npg)] at hg;cases hg
  have B10:But p H (upd (upd H9 g (.dT [])) p (.ins C dx (putF "known" (.ref g) (putF "other_ways" (.ref w2) (dFl5 rp op oc b w1))))):=(B9.trans (But.of U)).trans up
  refine q b kk dd w1 w2 g (λi=>match i with|0=>g1|1=>g2|2=>g3|_=>g4) L2 _ hbH hkH hdH hgH ⟨⟨dx,qa1⟩,(hB9.same U).updI (Ne.symm npb) hp10,(hw9.same U).updI hp10,(hx9.same U).updI hp10,λi=>?_,?_,?_,rd2,hR1.mono (tp B10),hR2.mono (tp B10)⟩ (by rw[e2,List.length_append];lia) B10
  ·match i with
   |0=>exact gk1
   |1=>exact gk2
   |2=>exact gk3
   |i+3=>exact gk4
  ·rw[upd_ne (Ne.symm npg)];exact qa1
  ·exact λz=>by rw[z,hB9.dc] at hg;cases hg
end
end Pr
namespace Qf
open Tr
structure DOk (u:Nat->Nat->Nat) (rows orows:List Row) (L0 L:List Tr) (kv:List (List L2.Key×L2.V)):Prop where
 kn:∀x y v,L2.valV kv (Pr.keyN [x,y])=some v->In L (bring u (T rows x) (T orows y))/\v=.int (name L (bring u (T rows x) (T orows y)):Nat)
 lt:∀t∈L,t∈L0\/∃x y,x<rows.length/\y<orows.length/\t=bring u (T rows (x+2)) (T orows (y+2))
 kd:(kv.map (·.1)).Nodup
 ks:∀k∈kv.map (·.1),∃x y,x<rows.length/\y<orows.length/\k=Pr.keyN [x+2,y+2]
theorem DOk.nil {u:Nat->Nat->Nat}{rows orows:List Row}{L:List Tr}:DOk u rows orows L L []:=⟨λx y v h=>(by cases h),λt h=>.inl h,List.nodup_nil,λk h=>(by cases h)⟩
theorem DOk.len {u:Nat->Nat->Nat}{rows orows:List Row}{L0 L:List Tr}{kv:List (List L2.Key×L2.V)}(h:DOk u rows orows L0 L kv) (o:Ord L):L.length<=L0.length+rows.length*orows.length:=
 few (f:=λx y=>bring u (T rows (x+2)) (T orows (y+2))) o.nd h.lt
theorem DOk.klen {u:Nat->Nat->Nat}{rows orows:List Row}{L0 L:List Tr}{kv:List (List L2.Key×L2.V)}(h:DOk u rows orows L0 L kv):kv.length<=rows.length*orows.length:=by
 have:=few (L0:=[]) (f:=λx y=>Pr.keyN [x+2,y+2]) h.kd λt ht=>.inr (h.ks t ht)
 rw[List.length_map] at this
 simpa using this
theorem DOk.ext {u:Nat->Nat->Nat}{rows orows:List Row}{L0 L s:List Tr}{kv:List (List L2.Key×L2.V)}(h:DOk u rows orows L0 L kv) (o:Ord L) (hs:∀t∈s,∃x y,x<rows.length/\y<orows.length/\t=bring u (T rows (x+2)) (T orows (y+2))):DOk u rows orows L0 (L++s) kv:=by
 refine⟨λx y v e=>?_,λt ht=>?_,h.kd,h.ks⟩
 ·obtain⟨h1,h2⟩:=h.kn x y v e
  exact⟨h1.app,by rw[name_app h1 o];exact h2⟩
 ·rcases List.mem_append.mp ht with z|z
  ·exact h.lt t z
  ·exact .inr (hs t z)
theorem putK_new {κ:Type}[DecidableEq κ]{kv:List (κ×L2.V)}{k:κ}{v:L2.V}(h:L2.valV kv k=none):L2.putK kv k v=kv++[(k,v)]:=by
 unfold L2.putK
 rw[L2.valV_any,h]
 rfl
theorem valV_none {κ:Type}[DecidableEq κ]{kv:List (κ×L2.V)}{k:κ}(h:L2.valV kv k=none):k∉kv.map (·.1):=λhm=>by
 have:=L2.valV_any k kv
 rw[h] at this
 obtain⟨q,hq,rfl⟩:=List.mem_map.mp hm
 have h2:(kv.any λkv=>decide (kv.1=q.1))=true:=List.any_eq_true.mpr ⟨q,hq,decide_eq_true rfl⟩
 rw[this] at h2
 cases h2
theorem putK_keys {κ:Type}[DecidableEq κ]{kv:List (κ×L2.V)}{k:κ}{v w:L2.V}(h:L2.valV kv k=some w):(L2.putK kv k v).map (·.1)=kv.map (·.1):=by
 unfold L2.putK
 rw[L2.valV_any,h,if_pos (show (some w).isSome=true from rfl),List.map_map]
 refine List.map_congr_left λq _=>?_
 show (if q.1=k then (q.1,v) else q).1=q.1
 split<;>rfl
theorem DOk.put {u:Nat->Nat->Nat}{rows orows:List Row}{L0 L:List Tr}{kv:List (List L2.Key×L2.V)}{x y:Nat}(h:DOk u rows orows L0 L kv) (hi:In L (bring u (T rows (x+2)) (T orows (y+2)))) (hx:x<rows.length) (hy:y<orows.length) :
  DOk u rows orows L0 L (L2.putK kv (Pr.keyN [x+2,y+2]) (.int (name L (bring u (T rows (x+2)) (T orows (y+2))):Nat))):=by
 refine⟨λx' y' v e=>?_,h.lt,?_,?_⟩
 ·rw[L2.valV_put] at e
  by_cases z:Pr.keyN [x',y']=Pr.keyN [x+2,y+2]
  ·rw[if_pos z] at e
   have e2:=Pr.keyN_inj z
   simp only[List.cons.injEq,and_true] at e2
   obtain⟨rfl,rfl⟩:=e2
   exact⟨hi,(Option.some.inj e).symm⟩
  ·rw[if_neg z] at e
   exact h.kn x' y' v e
 ·cases hn:L2.valV kv (Pr.keyN [x+2,y+2]) with
  |some w=>rw[putK_keys hn];exact h.kd
  |none=>
   rw[putK_new hn,List.map_append,List.nodup_append]
   refine⟨h.kd,by simp,λa ha b hb e=>?_⟩
   have:b=Pr.keyN [x+2,y+2]:=by simpa using hb
   exact valV_none hn (by rw[<- this,<- e];exact ha)
 ·cases hn:L2.valV kv (Pr.keyN [x+2,y+2]) with
  |some w=>rw[putK_keys hn];exact h.ks
  |none=>
   rw[putK_new hn,List.map_append]
   intro k hk
   rcases List.mem_append.mp hk with z|z
   ·exact h.ks k z
   ·have:k=Pr.keyN [x+2,y+2]:=by simpa using z
    exact⟨x,y,hx,hy,this⟩
end Qf
namespace Pr
open PySem L2 Qf
def Bt3 (a b c:Addr) (H H':Hp):Prop:=∀x o,H x=some o->x≠a->x≠b->x≠c->H' x=some o
theorem Bt3.trans {a b c:Addr}{H H1 H2:Hp}(x:Bt3 a b c H H1) (y:Bt3 a b c H1 H2):Bt3 a b c H H2:=λz o h n1 n2 n3=>y z o (x z o h n1 n2 n3) n1 n2 n3
theorem Bt3.of {a b c:Addr}{H H':Hp}(s:Same H H'):Bt3 a b c H H':=λx o h _ _ _=>s x o h
section
variable {C CB:Addr}{rows orows:List Row}{H H':Hp}{p rp op oc b kk dd w1 w2 g:Addr}{G:Nat->Addr}{L:List Tr}{kv:List (List Key×V)}
theorem DdAt.same (h:DdAt C CB rows orows H p rp op oc b kk dd w1 w2 g G L kv) (s:Same H H'):DdAt C CB rows orows H' p rp op oc b kk dd w1 w2 g G L kv:=by
 obtain⟨⟨dx,ho⟩,hb,wa,wb,gk,kn,ne,rd,r1,r2⟩:=h
 exact⟨⟨dx,s _ _ ho⟩,hb.same s,wa.same s,wb.same s,gk,s _ _ kn,ne,rd,r1.same s,r2.same s⟩
theorem DdAt.tup (h:DdAt C CB rows orows H p rp op oc b kk dd w1 w2 g G L kv) (B:Bt3 kk dd g H H'){x:Addr}{xs:List V}(e:H x=some (.tup xs)):H' x=some (.tup xs):=by
 obtain⟨_,⟨_,⟨bs,hk,_⟩,hd,_⟩,_,_,_,hg,_⟩:=h
 exact B _ _ e (λz=>by rw[z,hk] at e;cases e) (λz=>by rw[z,hd] at e;cases e) (λz=>by rw[z,hg] at e;cases e)
theorem DdAt.put {D:Addr}{xs ys:List V}(h:DdAt C CB rows orows H p rp op oc b kk dd w1 w2 g G L kv) (hD:H D=some (.lst xs)) (nk:D≠kk) (nG:∀i,i<4->D≠G i):DdAt C CB rows orows (upd H D (.lst ys)) p rp op oc b kk dd w1 w2 g G L kv:=by
 obtain⟨⟨dx,ho⟩,hb,wa,wb,gk,kn,ne,rd,r1,r2⟩:=h
 have k1:∀{x:Addr}{o:HO},H x=some o->x≠D->upd H D (.lst ys) x=some o:=λ{x o} e n=>by rw[upd_ne n];exact e
 have k2:∀{x:Addr}{o:HO},H x=some o->(∀l,o≠.lst l)->upd H D (.lst ys) x=some o:=λ{x o} e n=>k1 e λz=>by rw[z,hD] at e;exact n xs (Option.some.inj e).symm
 have tp:Tups H (upd H D (.lst ys)):=λx l e=>k2 e λ_ z=>by cases z
 exact⟨⟨dx,k2 ho λ_ z=>(by cases z)⟩,hb.put hD nk,⟨tp _ _ wa.tp,k1 wa.a (Ne.symm (nG 0 (by decide))),k1 wa.b (Ne.symm (nG 1 (by decide))),wa.inn⟩,⟨tp _ _ wb.tp,k1 wb.a (Ne.symm (nG 2 (by decide))),k1 wb.b (Ne.symm (nG 3 (by decide))),wb.inn⟩,gk,k2 kn (λ_ z=>(by cases z)),ne,rd,r1.mono tp,r2.mono tp⟩
theorem DdAt.dict {kv':List (List Key×V)}(h:DdAt C CB rows orows H p rp op oc b kk dd w1 w2 g G L kv):DdAt C CB rows orows (upd H g (.dT kv')) p rp op oc b kk dd w1 w2 g G L kv':=by
 obtain⟨⟨dx,ho⟩,⟨⟨dxb,hb⟩,⟨bs,hk,hl,hr⟩,hd,hO⟩,wa,wb,gk,kn,ne,rd,r1,r2⟩:=h
 have k2:∀{x:Addr}{o:HO},H x=some o->(∀l,o≠.dT l)->upd H g (.dT kv') x=some o:=λ{x o} e n=>by
  rw[upd_ne (λz=>by rw[z,kn] at e;exact n kv (Option.some.inj e).symm)];exact e
 have tp:Tups H (upd H g (.dT kv')):=λx l e=>k2 e λ_ z=>by cases z
 exact⟨⟨dx,k2 ho λ_ z=>(by cases z)⟩,⟨⟨dxb,k2 hb λ_ z=>(by cases z)⟩,⟨bs,k2 hk (λ_ z=>(by cases z)),hl,λi c r e1 e2=>tp _ _ (hr i c r e1 e2)⟩,by rw[upd_ne (Ne.symm ne)];exact hd,hO⟩,⟨tp _ _ wa.tp,k2 wa.a (λ_ z=>(by cases z)),k2 wa.b (λ_ z=>(by cases z)),wa.inn⟩,⟨tp _ _ wb.tp,k2 wb.a (λ_ z=>(by cases z)),k2 wb.b (λ_ z=>(by cases z)),wb.inn⟩,gk,qa1,ne,rd,r1.mono tp,r2.mono tp⟩
theorem DdAt.book {s:List Tr}(h:DdAt C CB rows orows H p rp op oc b kk dd w1 w2 g G L kv) (B:But2 kk dd H H') (hB:BookAt CB H' b kk dd (L++s)) (rd:AllRed (L++s)):DdAt C CB rows orows H' p rp op oc b kk dd w1 w2 g G (L++s) kv:=by
 obtain⟨⟨dx,ho⟩,hb,wa,wb,gk,kn,ne,_,r1,r2⟩:=h
 obtain⟨_,⟨bs,hk,_⟩,hd,hO⟩:=id hb
 exact⟨⟨dx,B _ _ ho (λz=>(by rw[z,hk] at ho;cases ho)) (λz=>(by rw[z,hd] at ho;cases ho))⟩,hB,(wa.keep hb B (gk 0) (gk 1)).ext hO s,(wb.keep hb B (gk 2) (gk 3)).ext hO s,gk,B _ _ kn (λz=>(by rw[z,hk] at kn;cases kn)) ne,ne,rd,hb.rows B r1,hb.rows B r2⟩
theorem DdAt.Gs (h:DdAt C CB rows orows H p rp op oc b kk dd w1 w2 g G L kv){D:Addr}(hD:H D=none):∀i,i<4->D≠G i:=λi hi=>by
 match i,hi with
 |0,_=>exact (qa2 h.wa.a hD).symm
 |1,_=>exact (qa2 h.wa.b hD).symm
 |2,_=>exact (qa2 h.wb.a hD).symm
 |3,_=>exact (qa2 h.wb.b hD).symm
end
section
variable {P:Program}{w:World}{K:PySem.W.Frag}{mg:Str->Option Value}{base:Heap}
abbrev nNP:List Str:=["self", "number", "other", "row", "other_row"]
abbrev nNP3:List Str:=["self", "number", "other"]
theorem scNP:FnScope nNP nNP3 (defScope sDdPair):=⟨rfl,rfl,rfl,by decide +kernel,rfl,by decide +kernel,by decide +kernel⟩
def spNP (K:PySem.W.Frag) (C CB:Addr) (d:Nat):Sp:=λvs H Q _=>∃(p rp op oc b kk dd w1 w2 g:Addr) (G:Nat->Addr) (u:Nat->Nat->Nat) (x y:Nat) (L0 L:List Tr) (kv:List (List Key×V)) (rows orows:List Row),vs=[.ref p,.int (x:Nat),.int (y:Nat)]/\DdAt C CB rows orows H p rp op oc b kk dd w1 w2 g G L kv/\KTup K oc (vN [u 0 0,u 0 1,u 1 0,u 1 1])/\Oc u/\RowsOk rows/\RowsOk orows/\(∀r∈rows,¬Plain r)/\(∀r∈orows,¬Plain r) /\
 x<rows.length+2/\y<orows.length+2/\dp rows x<=d/\DOk u rows orows L0 L kv/\L0.length+rows.length*orows.length<=1190890 /\
 ∀(H':Hp) (L':List Tr) (kv':List (List Key×V)),Bt3 kk dd g H H'->DdAt C CB rows orows H' p rp op oc b kk dd w1 w2 g G L' kv'->(∃e,L'=L++e)->Tr.In L' (bring u (T rows x) (T orows y))->DOk u rows orows L0 L' kv'->Q (.int (Tr.name L' (bring u (T rows x) (T orows y)):Nat)) H'
theorem ok_NP {f fN fP fS C CB:Addr}{fd fdN fdP fdS:FuncData}(F:Fun K "number_for_pair" "Deed.number_for_pair" sDdPair f fd) (B:Blt mg) (hzip:mg "zip" = none) (Tc:Cst mg) (TD:DdIn K mg C) (TB:BookIn K mg CB) (M:Meth K C "number_for_pair" f) (bM:Binds K fd nNP3 [])
  (MN:Meth K CB "number_for" fN) (FN:Fun K "number_for" "Book.number_for" sBkNum fN fdN) (bN:Binds K fdN ["self", "row"] [])
  (hP:mg "is_plain" = some (.ref fP)) (FP:Fun K "is_plain" "is_plain" sPlain fP fdP) (bP:Binds K fdP ["row"] [])
  (hS:mg "number_beside_plain" = some (.ref fS)) (FS:Fun K "number_beside_plain" "number_beside_plain" sBeside fS fdS) (bS:Binds K fdS nNB []):∀d,FnOk P w K mg base CX0 (d+4) f fd nNP3 (spNP K C CB d):=by
 have GN:FnOk P w K mg base CX0 3 fN fdN ["self", "row"] (spBkN CB):=ok_bkN FN B Tc TB hP FP bP
 have GS:FnOk P w K mg base CX0 1 fS fdS nNB spNB:=ok_NB FS
 obtain⟨tf,hfi⟩:=Tc.first
 intro d
 induction d with
 |zero=>
  refine F.ok scNP (λvs H Q E h=>?_) (λcdv A outer s H vs Q E hr h=>?_)
  ·obtain⟨p,rp,op,oc,b,kk,dd,w1,w2,g,G,u,x,y,L0,L,kv,rows,orows,rfl,_⟩:=h
   rfl
  ·obtain⟨p,rp,op,oc,b,kk,dd,w1,w2,g,G,u,x,y,L0,L,kv,rows,orows,rfl,hA,hout,hu,ok1,ok2,np1,np2,hx,hy,hdp,hD,hL0,q⟩:=h
   have hr1:Room 1 _:=hr.mono (by decide)
   refine seqE ⟨_,⟨ps_if (pt_cmpR op_lt (pv 1) (pe_glob (v:=.int 2) (by rfl) hfi ⟨_,rfl⟩) (nomark _)) (pss_one (ps_ret (PEb.go ⟨pe_call GS hr1 (by rfl) hS FS.kp bS .nil pass0 (Ars2.go (.cons ⟨pe_fld (pv 0) rfl⟩ (.cons ⟨pv 2⟩ (.cons ⟨pe_slice sl_tup (pe_fld (pv 0) rfl) (po_some (pe_op op_mul qa4 (pv 1))) (po_some (pe_op op_add (pe_op op_mul qa4 (pv 1)) qa4))⟩ .nil rfl) rfl) rfl))⟩))) pss_nil⟩,?_⟩
   refine⟨_,pss_never,?_⟩
   obtain⟨⟨dx,hob⟩,_⟩:=id hA
   refine⟨_,rfl,_,_,rfl,rfl,_,rfl,?_⟩
   have lowX:∀(x2:x<2){Q1:VK},(∀H' L' kv',Bt3 kk dd g H H'->DdAt C CB rows orows H' p rp op oc b kk dd w1 w2 g G L' kv'->(∃e,L'=L++e)->Tr.In L' (bring u (T rows x) (T orows y))->DOk u rows orows L0 L' kv'->Q1 (.int (Tr.name L' (bring u (T rows x) (T orows y)):Nat)) H') ->
     ∀o,H o=none->∃(t o' g1 g2:Addr) (x' e f:Nat) (L:List Tr) (rows:List Row),[V.ref w2,V.int (y:Nat),V.ref o]=[.ref t,.int (x':Nat),.ref o']/\WaysAt (upd H o (.tup [V.int (u x 0:Nat),V.int (u x 1:Nat)])) t g1 g2 rows L/\upd H o (.tup [V.int (u x 0:Nat),V.int (u x 1:Nat)]) o'=some (.tup [.int (e:Nat),.int (f:Nat)])/\e<2/\f<2/\x'<rows.length+2 /\
      (Tr.In L (beside e f (T rows x'))->Q1 (.int (Tr.name L (beside e f (T rows x')):Nat)) (upd H o (.tup [V.int (u x 0:Nat),V.int (u x 1:Nat)]))):=λx2 {Q1} q o ho=>by
    have eb:bring u (T rows x) (T orows y)=beside (u x 0) (u x 1) (T orows y):=by
     have:x=0\/x=1:=by lia
     rcases this with rfl|rfl
     ·rw[T_zero];rfl
     ·rw[T_one];rfl
    rw[eb] at q
    have U:=sameU (o:=.tup [V.int (u x 0:Nat),V.int (u x 1:Nat)]) ho
    exact⟨w2,o,G 2,G 3,y,u x 0,u x 1,L,orows,rfl,hA.wb.same U,qa1,hu x 0,hu x 1,hy,λhin=>q _ L kv (Bt3.of U) (hA.same U) ⟨[],by simp⟩ hin hD⟩
   have x2:x<2:=by
    by_cases z:x<2
    ·exact z
    ·obtain⟨pl,a0,a1,a2,a3,rfl,hpl⟩:=row_at ok1 hx z
     rw[dp_at ok1 hpl] at hdp
     lia
   refine ite2 (λhc=>?_) (λhc=>absurd (decide_eq_true (by lia)) hc)
   ·have x2:x<2:=by have:=of_decide_eq_true hc;lia
    have go:=lowX x2 q
    have:x=0\/x=1:=by lia
    rcases this with rfl|rfl
    ·exact⟨_,rfl,p,C,dx,_,_,rfl,hob,TD.cl,TD.nX,dF_oways _ _ _ _ _ _ _,_,rfl,_,rfl,p,C,dx,_,_,rfl,hob,TD.cl,TD.nC,dF_out _ _ _ _ _ _ _,_,rfl,_,_,rfl,rfl,.inl (by decide),_,rfl,_,rfl,_,_,rfl,rfl,.inl (by decide),_,_,rfl,rfl,_,rfl,oc,_,rfl,(.inr hout:SqT K H oc _),(λz=>absurd (show HT.sIx 4 4 (some 2)=4 from z.2) (by decide)),λo ho=>go o ho⟩
    ·exact⟨_,rfl,p,C,dx,_,_,rfl,hob,TD.cl,TD.nX,dF_oways _ _ _ _ _ _ _,_,rfl,_,rfl,p,C,dx,_,_,rfl,hob,TD.cl,TD.nC,dF_out _ _ _ _ _ _ _,_,rfl,_,_,rfl,rfl,.inl (by decide),_,rfl,_,rfl,_,_,rfl,rfl,.inl (by decide),_,_,rfl,rfl,_,rfl,oc,_,rfl,(.inr hout:SqT K H oc _),(λz=>absurd (show HT.sIx 4 0 (some 2)=0 from z.1) (by decide)),λo ho=>go o ho⟩
 |succ d ih=>
  refine F.ok scNP (λvs H Q E h=>?_) (λcdv A outer s H vs Q E hr h=>?_)
  ·obtain⟨p,rp,op,oc,b,kk,dd,w1,w2,g,G,u,x,y,L0,L,kv,rows,orows,rfl,_⟩:=h
   rfl
  ·obtain⟨p,rp,op,oc,b,kk,dd,w1,w2,g,G,u,x,y,L0,L,kv,rows,orows,rfl,hA,hout,hu,ok1,ok2,np1,np2,hx,hy,hdp,hD,hL0,q⟩:=h
   have hr1:Room 1 _:=hr.mono (by lia)
   have hr3:Room 3 _:=hr.mono (by lia)
   have hu4:A.units+3+1<cLine:=by
    have h2:A.units+3+16*(d+4)+200<cLine:=hr.un
    lia
   refine seqE ⟨_,⟨ps_if (pt_cmpR op_lt (pv 1) (pe_glob (v:=.int 2) (by rfl) hfi ⟨_,rfl⟩) (nomark _)) (pss_one (ps_ret (PEb.go ⟨pe_call GS hr1 (by rfl) hS FS.kp bS .nil pass0 (Ars2.go (.cons ⟨pe_fld (pv 0) rfl⟩ (.cons ⟨pv 2⟩ (.cons ⟨pe_slice sl_tup (pe_fld (pv 0) rfl) (po_some (pe_op op_mul qa4 (pv 1))) (po_some (pe_op op_add (pe_op op_mul qa4 (pv 1)) qa4))⟩ .nil rfl) rfl) rfl))⟩))) pss_nil⟩,?_⟩
   refine seqE ⟨_,⟨ps_if (pt_cmpR op_lt (pv 2) (pe_glob (v:=.int 2) (by rfl) hfi ⟨_,rfl⟩) (nomark _)) (pss_one (ps_ret (PEb.go ⟨pe_call GS hr1 (by rfl) hS FS.kp bS .nil pass0 (Ars2.go (.cons ⟨pe_fld (pv 0) rfl⟩ (.cons ⟨pv 1⟩ (.cons ⟨pe_slice3 sl_two (pe_fld (pv 0) rfl) (po_some (pv 2)) po_none (po_some qa4)⟩ .nil rfl) rfl) rfl))⟩))) pss_nil⟩,?_⟩
   refine seqE ⟨_,⟨ps_if (pt_cmp (pc_dnotin hu4 (pe_tup (qa0 (pv 1) (qa0 (pv 2) qa3))) (pe_fld (pv 0) rfl)))
    (StB.go (.cons ⟨ps_set (i:=3) scNP.nd rfl (by first|left;rfl|right;rfl) (pe_ix ix_tup (pe_fld (pv 0) rfl) (pe_op op_sub (pv 1) (pe_glob (v:=.int 2) (by rfl) hfi ⟨_,rfl⟩)) (λ_ _=>rfl))⟩
    (.cons ⟨ps_set (i:=4) scNP.nd rfl (by first|left;rfl|right;rfl) (pe_ix ix_tup (pe_fld (pv 0) rfl) (pe_op op_sub (pv 2) (pe_glob (v:=.int 2) (by rfl) hfi ⟨_,rfl⟩)) (λ_ _=>rfl))⟩
    (.one ⟨ps_dput hu4 (pe_fld (pv 0) rfl) (pe_tup (qa0 (pv 1) (qa0 (pv 2) qa3))) (PEb.go ⟨pe_meth (pe_fld (pv 0) rfl) TB.cl MN GN hr3 bN .nil pass0 (Ars2.go (.cons ⟨pe_callTy (tupO K rfl) (by rfl) B.tuple PyProof.Rows.boot_tuple (Ars2.go (.cons ⟨pe_comp2 nNP (defScope sDdPair) rfl rfl rfl scNP.nd (pi_zipT (by rfl) hzip (qa0 (pv 3) (qa0 (pv 4) qa3)))
     (λcl C' fp s₀ H₀=>pe_meth (pv 2) TD.cl M ih hr bM .nil pass0 (qa0 (pv 0) (qa0 (pv 1) qa3)))⟩ .nil rfl))⟩ .nil rfl))⟩) (by rfl)⟩)))) pss_nil⟩,?_⟩
   refine lastE ⟨_,⟨ps_ret (pe_dget hu4 (pe_fld (pv 0) rfl) (pe_tup (qa0 (pv 1) (qa0 (pv 2) qa3))) (λ_ _=>rfl))⟩,?_⟩
   obtain⟨⟨dx,hob⟩,_⟩:=id hA
   refine⟨_,rfl,_,_,rfl,rfl,_,rfl,?_⟩
   have lowX:∀(x2:x<2){Q1:VK},(∀H' L' kv',Bt3 kk dd g H H'->DdAt C CB rows orows H' p rp op oc b kk dd w1 w2 g G L' kv'->(∃e,L'=L++e)->Tr.In L' (bring u (T rows x) (T orows y))->DOk u rows orows L0 L' kv'->Q1 (.int (Tr.name L' (bring u (T rows x) (T orows y)):Nat)) H') ->
     ∀o,H o=none->∃(t o' g1 g2:Addr) (x' e f:Nat) (L:List Tr) (rows:List Row),[V.ref w2,V.int (y:Nat),V.ref o]=[.ref t,.int (x':Nat),.ref o']/\WaysAt (upd H o (.tup [V.int (u x 0:Nat),V.int (u x 1:Nat)])) t g1 g2 rows L/\upd H o (.tup [V.int (u x 0:Nat),V.int (u x 1:Nat)]) o'=some (.tup [.int (e:Nat),.int (f:Nat)])/\e<2/\f<2/\x'<rows.length+2 /\
      (Tr.In L (beside e f (T rows x'))->Q1 (.int (Tr.name L (beside e f (T rows x')):Nat)) (upd H o (.tup [V.int (u x 0:Nat),V.int (u x 1:Nat)]))):=λx2 {Q1} q o ho=>by
    have eb:bring u (T rows x) (T orows y)=beside (u x 0) (u x 1) (T orows y):=by
     have:x=0\/x=1:=by lia
     rcases this with rfl|rfl
     ·rw[T_zero];rfl
     ·rw[T_one];rfl
    rw[eb] at q
    have U:=sameU (o:=.tup [V.int (u x 0:Nat),V.int (u x 1:Nat)]) ho
    exact⟨w2,o,G 2,G 3,y,u x 0,u x 1,L,orows,rfl,hA.wb.same U,qa1,hu x 0,hu x 1,hy,λhin=>q _ L kv (Bt3.of U) (hA.same U) ⟨[],by simp⟩ hin hD⟩
   refine ite2 (λhc=>?_) (λhc=>?_)
   ·have x2:x<2:=by have:=of_decide_eq_true hc;lia
    have go:=lowX x2 q
    have:x=0\/x=1:=by lia
    rcases this with rfl|rfl
    ·exact⟨_,rfl,p,C,dx,_,_,rfl,hob,TD.cl,TD.nX,dF_oways _ _ _ _ _ _ _,_,rfl,_,rfl,p,C,dx,_,_,rfl,hob,TD.cl,TD.nC,dF_out _ _ _ _ _ _ _,_,rfl,_,_,rfl,rfl,.inl (by decide),_,rfl,_,rfl,_,_,rfl,rfl,.inl (by decide),_,_,rfl,rfl,_,rfl,oc,_,rfl,(.inr hout:SqT K H oc _),(λz=>absurd (show HT.sIx 4 4 (some 2)=4 from z.2) (by decide)),λo ho=>go o ho⟩
    ·exact⟨_,rfl,p,C,dx,_,_,rfl,hob,TD.cl,TD.nX,dF_oways _ _ _ _ _ _ _,_,rfl,_,rfl,p,C,dx,_,_,rfl,hob,TD.cl,TD.nC,dF_out _ _ _ _ _ _ _,_,rfl,_,_,rfl,rfl,.inl (by decide),_,rfl,_,rfl,_,_,rfl,rfl,.inl (by decide),_,_,rfl,rfl,_,rfl,oc,_,rfl,(.inr hout:SqT K H oc _),(λz=>absurd (show HT.sIx 4 0 (some 2)=0 from z.1) (by decide)),λo ho=>go o ho⟩
   have x2:¬x<2:=λz=>hc (decide_eq_true (by lia))
   refine⟨_,rfl,_,_,rfl,rfl,_,rfl,?_⟩
   refine ite2 (λhc2=>?_) (λhc2=>?_)
   ·have y2:y<2:=by have:=of_decide_eq_true hc2;lia
    have eb:bring u (T rows x) (T orows y)=beside (u 0 y) (u 1 y) (T rows x):=by
     have:y=0\/y=1:=by lia
     rcases this with rfl|rfl
     ·rw[T_zero];exact bring_z hu _
     ·rw[T_one];exact bring_o hu _
    rw[eb] at q
    refine⟨_,rfl,p,C,dx,_,_,rfl,hob,TD.cl,TD.nW,dF_ways _ _ _ _ _ _ _,_,rfl,_,rfl,p,C,dx,_,_,rfl,hob,TD.cl,TD.nC,dF_out _ _ _ _ _ _ _,_,rfl,_,rfl,_,rfl,oc,_,_,_,_,y,rfl,rfl,rfl,rfl,y2,(.inr hout:SqT K H oc _),λo ho=>?_⟩
    have ec:(if y=0 then [V.int (u 0 0:Nat),V.int (u 1 0:Nat)] else [V.int (u 0 1:Nat),V.int (u 1 1:Nat)])=[V.int (u 0 y:Nat),V.int (u 1 y:Nat)]:=by
     have:y=0\/y=1:=by lia
     rcases this with rfl|rfl
     ·rfl
     ·rfl
    have U:=sameU (o:=.tup (if y=0 then [V.int (u 0 0:Nat),V.int (u 1 0:Nat)] else [V.int (u 0 1:Nat),V.int (u 1 1:Nat)])) ho
    exact⟨w1,o,G 0,G 1,x,u 0 y,u 1 y,L,rows,rfl,hA.wa.same U,(by rw[<- ec];exact qa1),hu 0 y,hu 1 y,hx,λhin=>q _ L kv (Bt3.of U) (hA.same U) ⟨[],by simp⟩ hin hD⟩
   have y2:¬y<2:=λz=>hc2 (decide_eq_true (by lia))
   obtain⟨pl,a0,a1,a2,a3,rfl,hpl⟩:=row_at ok1 hx x2
   obtain⟨ql,b0,b1,b2,b3,rfl,hql⟩:=row_at ok2 hy y2
   have hpr:=(gS_ hpl).1
   have hqr:=(gS_ hql).1
   have hT:bring u (T rows (pl+2)) (T orows (ql+2))=mkT (bring u (T rows a0) (T orows b0)) (bring u (T rows a1) (T orows b1)) (bring u (T rows a2) (T orows b2)) (bring u (T rows a3) (T orows b3)):=by rw[T_row ok1 hpl,T_row ok2 hql];rfl
   have hkeyV:∀{Hx:Hp}{t:Addr},upd Hx t (.tup [V.int ((pl+2:Nat):Int),V.int ((ql+2:Nat):Int)]) t=some (.tup ((keyN [pl+2,ql+2]).map kV)):=λ{Hx t}=>by rw[qa1,keyN_V];rfl
   refine⟨_,rfl,_,rfl,(by show 2<=sizeLine;decide),λk1 hk1=>?_⟩
   have S1:=sameU (o:=.tup [V.int ((pl+2:Nat):Int),V.int ((ql+2:Nat):Int)]) hk1
   have hA1:=hA.same S1
   have hkey1:=hkeyV (Hx:=H) (t:=k1)
   generalize upd H k1 (.tup [V.int ((pl+2:Nat):Int),V.int ((ql+2:Nat):Int)])=H1 at S1 hA1 hkey1 ⊢
   obtain⟨⟨dx1,hob1⟩,hbk1,_,_,_,hg1,hgd,_,hr11,hr21⟩:=id hA1
   refine⟨_,rfl,p,C,dx1,_,_,rfl,hob1,TD.cl,TD.nN,dF_known _ _ _ _ _ _ _,g,_,rfl,DGet.t hg1 hkey1,_,rfl,?_⟩
   cases hkv1:valV kv (keyN [pl+2,ql+2]) with
   |some v=>
    obtain⟨k2,rfl⟩:=hD.kn _ _ _ hkv1
    refine iteF ?_
    refine⟨_,rfl,p,C,dx1,_,_,rfl,hob1,TD.cl,TD.nN,dF_known _ _ _ _ _ _ _,_,rfl,_,rfl,(by show 2<=sizeLine;decide),λk3 hk3=>?_⟩
    have S3:=sameU (o:=.tup [V.int ((pl+2:Nat):Int),V.int ((ql+2:Nat):Int)]) hk3
    have dg:=DGet.t (S3 _ _ hg1) (hkeyV (Hx:=H1) (t:=k3))
    rw[hkv1] at dg
    exact⟨g,_,rfl,dg,q _ L kv (Bt3.of (S1.trans S3)) (hA1.same S3) ⟨[],by simp⟩ k2 hD⟩
   |none=>
    refine iteT ?_
    obtain⟨bs,hrp,hbl,hrow⟩:=id hr11
    obtain⟨cs,hop,hcl,hcow⟩:=id hr21
    have hbp:bs[pl]?=some (bs[pl]'(by lia)):=List.getElem?_eq_getElem (by lia)
    have hcp:cs[ql]?=some (cs[ql]'(by lia)):=List.getElem?_eq_getElem (by lia)
    have hra:=hrow pl _ _ hbp hpl
    have hrb:=hcow ql _ _ hcp hql
    refine⟨_,rfl,p,C,dx1,_,_,rfl,hob1,TD.cl,TD.nR,dF_rows _ _ _ _ _ _ _,_,rfl,_,_,rfl,rfl,rp,_,((pl:Nat):Int),.ref (bs[pl]'(by lia)),rfl,congrArg V.int (by lia),SqT.of hrp,atI_nat (by rw[List.getElem?_map,hbp];rfl),?_⟩
    refine⟨_,rfl,p,C,dx1,_,_,rfl,hob1,TD.cl,TD.nO,dF_orows _ _ _ _ _ _ _,_,rfl,_,_,rfl,rfl,op,_,((ql:Nat):Int),.ref (cs[ql]'(by lia)),rfl,congrArg V.int (by lia),SqT.of hop,atI_nat (by rw[List.getElem?_map,hcp];rfl),?_⟩
    generalize bs[pl]'(by lia)=ra at hra ⊢
    generalize cs[ql]'(by lia)=rb at hrb ⊢
    obtain⟨⟨dxb,hbb⟩,⟨kbs,hkk1,_⟩,hdd1,_⟩:=id hbk1
    refine⟨_,rfl,p,C,dx1,_,_,rfl,hob1,TD.cl,TD.nB,dF_book _ _ _ _ _ _ _,b,dxb,_,rfl,hbb,bF_nf _ _,?_⟩
    have hin:∀q∈[(a0,b0),(a1,b1),(a2,b2),(a3,b3)],q.1<rows.length+2/\q.2<orows.length+2/\dp rows q.1<=d:=λq hq=>by
     obtain⟨h1,h2,h3,h4⟩:=row_T ok1 hpl
     obtain⟨e1,e2,e3,e4⟩:=row_T ok2 hql
     obtain⟨g1,g2,g3,g4⟩:=kids_dp ok1 hpl hdp
     have:q=(a0,b0)\/q=(a1,b1)\/q=(a2,b2)\/q=(a3,b3):=by simpa using hq
     rcases this with rfl|rfl|rfl|rfl
     ·exact⟨h1,e1,g1⟩
     ·exact⟨h2,e2,g2⟩
     ·exact⟨h3,e3,g3⟩
     ·exact⟨h4,e4,g4⟩
    refine⟨_,rfl,_,rfl,ra,rb,rfl,⟨_,SqT.of hra⟩,⟨_,SqT.of hrb⟩,λD hDn=>comp_zipI (K:=K) (us:=vN [a0,a1,a2,a3]) (ws:=vN [b0,b1,b2,b3]) (λi xs H2=>∃Li kvi,DdAt C CB rows orows H2 p rp op oc b kk dd w1 w2 g G Li kvi/\(∃e,Li=L++e)/\DOk u rows orows L0 Li kvi/\(∀q∈[(a0,b0),(a1,b1),(a2,b2),(a3,b3)].take i,Tr.In Li (bring u (T rows q.1) (T orows q.2))) /\
     xs=vN (([(a0,b0),(a1,b1),(a2,b2),(a3,b3)].take i).map λq=>Tr.name Li (bring u (T rows q.1) (T orows q.2)))/\H2 D=some (.lst xs)/\Bt3 kk dd g H1 H2) rfl (by show 4<sizeLine;decide) ?_ ?_ ?_ ?_ ?_⟩
    ·exact⟨L,kv,hA1.same (sameU hDn),⟨[],by simp⟩,hD,λq hq=>(by simp at hq),rfl,qa1,Bt3.of (sameU hDn)⟩
    ·rintro i xs H2 ⟨Li,kvi,hA2,hext,hD2,hin2,rfl,hDD,B2⟩
     refine⟨hDD,?_,hA1.tup B2 hra,hA1.tup B2 hrb⟩
     rw[vN_len,List.length_map,List.length_take]
     exact Nat.min_le_left _ _
    ·rintro i xs H2 H3 ⟨Li,kvi,hA2,hext,hD2,hin2,rfl,hDD,B2⟩ s3
     exact⟨Li,kvi,hA2.same s3,hext,hD2,hin2,rfl,s3 _ _ hDD,B2.trans (Bt3.of s3)⟩
    ·rintro i xs vx vy H2 hvx hvy ⟨Li,kvi,hA2,⟨e2,rfl⟩,hD2,hin2,rfl,hDD,B2⟩ Q2 hq
     obtain⟨m,hm,rfl⟩:=vN_get hvx
     obtain⟨n,hn,rfl⟩:=vN_get hvy
     have hab:[(a0,b0),(a1,b1),(a2,b2),(a3,b3)][i]?=some (m,n):=by
      match i with
      |0=>cases hm;cases hn;rfl
      |1=>cases hm;cases hn;rfl
      |2=>cases hm;cases hn;rfl
      |3=>cases hm;cases hn;rfl
      |i+4=>simp at hm
     obtain⟨hm1,hn1,hd1⟩:=hin (m,n) (List.mem_of_getElem? hab)
     have htk:[(a0,b0),(a1,b1),(a2,b2),(a3,b3)].take (i+1)=[(a0,b0),(a1,b1),(a2,b2),(a3,b3)].take i++[(m,n)]:=by rw[List.take_succ,hab];rfl
     obtain⟨⟨dx3,hob2⟩,_⟩:=id hA2
     have nDk:D≠kk:=(qa2 hkk1 hDn).symm
     have nDd:D≠dd:=(qa2 hdd1 hDn).symm
     have nDg:D≠g:=(qa2 hg1 hDn).symm
     refine⟨_,rfl,p,dx3,_,rfl,hob2,dF_pair _ _ _ _ _ _ _,_,rfl,_,rfl,p,rp,op,oc,b,kk,dd,w1,w2,g,G,u,m,n,L0,L++e2,kvi,rows,orows,rfl,hA2,hout,hu,ok1,ok2,np1,np2,hm1,hn1,hd1,hD2,hL0,λH3 L3 kv3 B3 A3 ext3 in3 D3=>?_⟩
     obtain⟨e3,rfl⟩:=ext3
     have hD3:=B3 _ _ hDD nDk nDd nDg
     have od2:=hA2.bk.od
     refine hq _ _ hD3 ⟨L++e2++e3,kv3,A3.put hD3 nDk (hA1.Gs hDn),⟨e2++e3,by rw[List.append_assoc]⟩,D3,?_,?_,qa1,?_⟩
     ·intro q hq'
      rw[htk] at hq'
      rcases List.mem_append.mp hq' with z|z
      ·exact (hin2 q z).app
      ·have:q=(m,n):=by simpa using z
       rw[this];exact in3
     ·rw[htk,List.map_append]
      unfold vN
      rw[List.map_append]
      congr 1
      refine congrArg (List.map _) (List.map_congr_left λq hq'=>?_)
      exact (Tr.name_app (hin2 q hq') od2).symm
     ·intro x o e n1 n2 n3
      rw[upd_ne (qa2 e hDn)]
      exact B3 _ _ (B2 _ _ e n1 n2 n3) n1 n2 n3
    ·rintro xs H2 ⟨L4,kv4,hA4,⟨e4,hext⟩,hD4,hin4,rfl,hDD,B2⟩
     have h4:(vN [a0,a1,a2,a3]).length=4:=rfl
     rw[h4] at hin4 hDD
     have i0:=hin4 (a0,b0) (by simp)
     have i1:=hin4 (a1,b1) (by simp)
     have i2:=hin4 (a2,b2) (by simp)
     have i3:=hin4 (a3,b3) (by simp)
     have hl4:=hD4.len hA4.bk.od
     refine⟨D,_,rfl,.inl ⟨SqL.of hDD,λu3 hu3=>?_⟩⟩
     have S3:=sameU (o:=.tup (vN (([(a0,b0),(a1,b1),(a2,b2),(a3,b3)].take 4).map λq=>Tr.name L4 (bring u (T rows q.1) (T orows q.2))))) hu3
     have hA5:=hA4.same S3
     have hu5:upd H2 u3 (.tup (vN (([(a0,b0),(a1,b1),(a2,b2),(a3,b3)].take 4).map λq=>Tr.name L4 (bring u (T rows q.1) (T orows q.2))))) u3=some (.tup (vN [Tr.name L4 (bring u (T rows a0) (T orows b0)),Tr.name L4 (bring u (T rows a1) (T orows b1)),Tr.name L4 (bring u (T rows a2) (T orows b2)),Tr.name L4 (bring u (T rows a3) (T orows b3))])):=by rw[qa1];rfl
     have B5:=B2.trans (Bt3.of (a:=kk) (b:=dd) (c:=g) S3)
     generalize upd H2 u3 (.tup (vN (([(a0,b0),(a1,b1),(a2,b2),(a3,b3)].take 4).map λq=>Tr.name L4 (bring u (T rows q.1) (T orows q.2)))))=H5 at hA5 hu5 B5 ⊢
     refine⟨b,kk,dd,u3,L4,_,_,_,_,rfl,hA5.bk,hu5,i0,i1,i2,i3,by lia,λH6 B6 hB6=>?_⟩
     rw[<- hT] at hB6 ⊢
     obtain⟨e5,he5,hle5⟩:=ins_ext (bring u (T rows (pl+2)) (T orows (ql+2))) L4
     have hi5:=ins_in (bring u (T rows (pl+2)) (T orows (ql+2))) L4
     have hmem:∀t∈e5,t=bring u (T rows (pl+2)) (T orows (ql+2)):=λt ht=>by
      unfold ins at he5
      split at he5
      ·have:e5=[]:=by
        have:=congrArg List.length he5
        rw[List.length_append] at this
        exact List.length_eq_zero_iff.mp (by lia)
       rw[this] at ht;cases ht
      ·have:=List.append_cancel_left he5
       rw[<- this] at ht
       simpa using ht
     have hrd5:AllRed (ins (bring u (T rows (pl+2)) (T orows (ql+2))) L4):=ins_red hA5.rd (bring_red u _ _ (T_red ok1 np1 _ hx) (T_red ok2 np2 _ hy))
     rw[he5] at hB6 hi5 hrd5 ⊢
     have hA6:=hA5.book B6 hB6 hrd5
     have hD5:=hD4.ext (s:=e5) hA5.bk.od λt ht=>⟨pl,ql,hpr,hqr,hmem t ht⟩
     have hl5:=hD5.klen
     obtain⟨⟨dx6,hob6⟩,_,_,_,_,hg6,_,_⟩:=id hA6
     refine⟨_,rfl,p,C,dx6,_,_,rfl,hob6,TD.cl,TD.nN,dF_known _ _ _ _ _ _ _,_,rfl,_,rfl,(by show 2<=sizeLine;decide),λk2 hk2=>?_⟩
     have S6:=sameU (o:=.tup [V.int ((pl+2:Nat):Int),V.int ((ql+2:Nat):Int)]) hk2
     have dp6:=DPut.t (v:=.int (Tr.name (L4++e5) (bring u (T rows (pl+2)) (T orows (ql+2))):Nat)) (S6 _ _ hg6) (hkeyV (Hx:=H6) (t:=k2)) (smallM (by lia))
     refine⟨g,_,rfl,dp6,?_⟩
     have hA7:=(hA6.same S6).dict (kv':=putK kv4 (keyN [pl+2,ql+2]) (.int (Tr.name (L4++e5) (bring u (T rows (pl+2)) (T orows (ql+2))):Nat)))
     have hD7:=hD5.put hi5 hpr hqr
     have hval:valV (putK kv4 (keyN [pl+2,ql+2]) (.int (Tr.name (L4++e5) (bring u (T rows (pl+2)) (T orows (ql+2))):Nat))) (keyN [pl+2,ql+2])=some (.int (Tr.name (L4++e5) (bring u (T rows (pl+2)) (T orows (ql+2))):Nat)):=by rw[valV_put,if_pos rfl]
     have B7:Bt3 kk dd g H (upd (upd H6 k2 (.tup [V.int ((pl+2:Nat):Int),V.int ((ql+2:Nat):Int)])) g (.dT (putK kv4 (keyN [pl+2,ql+2]) (.int (Tr.name (L4++e5) (bring u (T rows (pl+2)) (T orows (ql+2))):Nat))))):=λx o e n1 n2 n3=>by
      rw[upd_ne n3]
      exact S6 _ _ (B6 _ _ (B5 _ _ (S1 _ _ e) n1 n2 n3) n1 n2)
     generalize putK kv4 (keyN [pl+2,ql+2]) (.int (Tr.name (L4++e5) (bring u (T rows (pl+2)) (T orows (ql+2))):Nat))=kv7 at hA7 hD7 hval B7 ⊢
     generalize upd (upd H6 k2 (.tup [V.int ((pl+2:Nat):Int),V.int ((ql+2:Nat):Int)])) g (.dT kv7)=H7 at hA7 B7 ⊢
     obtain⟨⟨dx7,hob7⟩,_,_,_,_,hg7,_,_⟩:=id hA7
     refine⟨_,rfl,p,C,dx7,_,_,rfl,hob7,TD.cl,TD.nN,dF_known _ _ _ _ _ _ _,_,rfl,_,rfl,(by show 2<=sizeLine;decide),λk3 hk3=>?_⟩
     have S7:=sameU (o:=.tup [V.int ((pl+2:Nat):Int),V.int ((ql+2:Nat):Int)]) hk3
     have dg:=DGet.t (S7 _ _ hg7) (hkeyV (Hx:=H7) (t:=k3))
     rw[hval] at dg
     exact⟨g,_,rfl,dg,q _ (L4++e5) kv7 (B7.trans (Bt3.of S7)) (hA7.same S7) ⟨e4++e5,by rw[hext,List.append_assoc]⟩ hi5 hD7⟩
theorem scWO:FnScope ["one", "other"] ["one", "other"] (defScope sWantO):=⟨rfl,rfl,rfl,by decide +kernel,rfl,by decide +kernel,by decide +kernel⟩
def spWO:Sp:=λvs H Q _=>∃(t t':Addr) (n tp tp':Nat) (rows rows':List Row),vs=[.ref t,.ref t']/\ShapeAt H t n tp rows/\ShapeAt H t' n tp' rows'/\∀H',Same H H'->Q .non H'
theorem ok_WO {f fW:Addr}{fd fdW:FuncData}(F:Fun K "want_one_floor" "want_one_floor" sWantO f fd) (hW:mg "want_shape" = some (.ref fW)) (FW:Fun K "want_shape" "want_shape" sWantS fW fdW) (bW:Binds K fdW ["shape"] []) (GW:FnOk P w K mg base CX0 16 fW fdW ["shape"] spWantS) :
  FnOk P w K mg base CX0 17 f fd ["one", "other"] spWO:=by
 refine F.ok scWO (λvs H Q E h=>?_) (λcdv A outer s H vs Q E hr h=>?_)
 ·obtain⟨t,t',n,tp,tp',rows,rows',rfl,_⟩:=h
  rfl
 ·obtain⟨t,t',n,tp,tp',rows,rows',rfl,h1,h2,q⟩:=h
  refine seqE ⟨_,⟨ps_expr (pe_call GW hr (by rfl) hW FW.kp bW .nil pass0 (qa0 (pv 0) qa3))⟩,?_⟩
  refine seqE ⟨_,⟨ps_expr (pe_call GW hr (by rfl) hW FW.kp bW .nil pass0 (qa0 (pv 1) qa3))⟩,?_⟩
  refine lastE ⟨_,⟨ps_if (pt_cmpR op_ne (pe_ix ix_tup (pv 0) qa4 (λ_ _=>rfl)) (pe_ix ix_tup (pv 1) qa4 (λ_ _=>rfl)) (nomark _)) pss_never pss_nil⟩,?_⟩
  refine⟨_,rfl,t,n,tp,rows,rfl,h1,λH1 s1=>?_⟩
  refine⟨_,rfl,t',n,tp',rows',rfl,same_sh h2 s1,λH2 s2=>?_⟩
  obtain⟨⟨p1,ht1,_⟩,_⟩:=same_sh h1 (s1.trans s2)
  obtain⟨⟨p2,ht2,_⟩,_⟩:=same_sh h2 (s1.trans s2)
  refine⟨_,rfl,t,_,0,.int (n:Nat),rfl,rfl,SqT.of ht1,rfl,_,rfl,t',_,0,.int (n:Nat),rfl,rfl,SqT.of ht2,rfl,rfl,_,rfl,?_⟩
  rw[decide_eq_true rfl]
  exact iteF (q H2 (s1.trans s2))
abbrev nBT:List Str:=["one", "other", "outcomes", "deed"]
theorem scBT:FnScope nBT ["one", "other", "outcomes"] (defScope sBrought):=⟨rfl,rfl,rfl,by decide +kernel,rfl,by decide +kernel,by decide +kernel⟩
def spBT (K:PySem.W.Frag):Sp:=λvs H Q _=>∃(t t' oc:Addr) (u:Nat->Nat->Nat) (n tp tp':Nat) (rows orows:List Row),vs=[.ref t,.ref t',.ref oc]/\ShapeAt H t n tp rows/\ShapeAt H t' n tp' orows/\KTup K oc (vN [u 0 0,u 0 1,u 1 0,u 1 1])/\Oc u/\2*rows.length+2*orows.length+rows.length*orows.length<=1190890 /\
 ∀(H':Hp) (t2:Addr) (tp2:Nat) (rws:List Row),Same H H'->ShapeB H' t2 n tp2 rws->T rws tp2=bring u (T rows tp) (T orows tp')->rws.length<=1190890->Q (.ref t2) H'
theorem ok_BT {f fW fI fL fS C CB:Addr}{fd fdW fdI fdL fdS:FuncData}(F:Fun K "brought_together" "brought_together" sBrought f fd) (TD:DdIn K mg C) (TB:BookIn K mg CB)
  (hW:mg "want_one_floor" = some (.ref fW)) (FW:Fun K "want_one_floor" "want_one_floor" sWantO fW fdW) (bW:Binds K fdW ["one", "other"] []) (GW:FnOk P w K mg base CX0 17 fW fdW ["one", "other"] spWO)
  (ML:Mk K C fI) (bI:Binds K fdI nDI []) (GI:FnOk P w K mg base CX0 6 fI fdI nDI (spDI C CB))
  (MN:Meth K C "number_for_pair" fL) (bL:Binds K fdL nNP3 []) (GL:∀d,FnOk P w K mg base CX0 (d+4) fL fdL nNP3 (spNP K C CB d))
  (hS:mg "shape_of" = some (.ref fS)) (FS:Fun K "shape_of" "shape_of" sShapeOf fS fdS) (bS:Binds K fdS ["n", "top", "rows"] []) (GS:FnOk P w K mg base CX0 15 fS fdS ["n", "top", "rows"] spSO) :
  FnOk P w K mg base CX0 18 f fd ["one", "other", "outcomes"] (spBT K):=by
 refine F.ok scBT (λvs H Q E h=>?_) (λcdv A outer s H vs Q E hr h=>?_)
 ·obtain⟨t,t',oc,u,n,tp,tp',rows,orows,rfl,_⟩:=h
  rfl
 ·obtain⟨t,t',oc,u,n,tp,tp',rows,orows,rfl,h1,h2,hout,hu,hl,q⟩:=h
  have hn:=h1.2.1.size
  have hr7:Room 7 _:=hr.mono (by decide)
  have hr15:Room 15 _:=hr.mono (by decide)
  have hrn:Room (n+4) _:=hr.mono (by lia)
  refine seqE ⟨_,⟨ps_expr (pe_call GW hr (by rfl) hW FW.kp bW .nil pass0 (qa0 (pv 0) (qa0 (pv 1) qa3)))⟩,?_⟩
  refine seqE ⟨_,⟨ps_set (i:=3) scBT.nd rfl (by first|left;rfl|right;rfl) (pe_make ML GI hr7 (by rfl) TD.mgC bI .nil pass0 (Ars2.go (.cons ⟨pe_ix ix_tup (pv 0) qa4 (λ_ _=>rfl)⟩ (.cons ⟨pe_ix ix_tup (pv 1) qa4 (λ_ _=>rfl)⟩ (.cons ⟨pv 2⟩ .nil rfl) rfl) rfl)))⟩,?_⟩
  refine lastE ⟨_,⟨ps_ret (pe_call GS hr15 (by rfl) hS FS.kp bS .nil pass0 (Ars2.go (.cons ⟨pe_ix ix_tup (pv 0) qa4 (λ_ _=>rfl)⟩ (.cons ⟨pe_meth (pv 3) TD.cl MN (GL n) hrn bL .nil pass0 (Ars2.go (.cons ⟨pe_ix ix_tup (pv 0) qa4 (λ_ _=>rfl)⟩ (.cons ⟨pe_ix ix_tup (pv 1) qa4 (λ_ _=>rfl)⟩ .nil rfl) rfl))⟩ (.cons ⟨pe_fld (pe_fld (pv 3) rfl) rfl⟩ .nil rfl) rfl) rfl)))⟩,?_⟩
  refine⟨_,rfl,_,rfl,t,t',n,tp,tp',rows,orows,rfl,h1,h2,λH1 s1=>?_⟩
  have sh1:=same_sh h1 s1
  have sh2:=same_sh h2 s1
  obtain⟨⟨rp,ht1,hR1⟩,c1,hl1⟩:=id sh1
  obtain⟨⟨op,ht2,hR2⟩,c2,hl2⟩:=id sh2
  refine⟨_,rfl,t,_,2,.ref rp,rfl,rfl,SqT.of ht1,rfl,_,rfl,t',_,2,.ref op,rfl,rfl,SqT.of ht2,rfl,_,rfl,?_⟩
  intro p dx hp hdx hne2
  have S2:Same H1 (upd (upd H1 dx (.own p)) p (.ins C dx [])):=λx o e=>by rw[upd_ne (qa2 e hp),upd_ne (qa2 e hdx)];exact e
  have N1:∀x,upd (upd H1 dx (.own p)) p (.ins C dx []) x=none->H1 x=none:=λx e=>S2.free e
  refine⟨p,dx,rp,op,oc,rows,orows,rfl,qa1,hR1.same S2,hR2.same S2,c1.rok,c2.rok,c1.unplain,c2.unplain,by lia,λb kk dd w1 w2 g G L H3 hb hkk hdd hg hA3 hL3 B3=>⟨rfl,?_⟩⟩
  have S3:Same H1 H3:=λx o e=>B3 _ _ (S2 _ _ e) (qa2 e hp)
  have ht13:=S3 _ _ ht1
  have ht23:=S3 _ _ ht2
  obtain⟨⟨dx3,hob3⟩,_⟩:=id hA3
  refine⟨_,rfl,t,_,0,.int (n:Nat),rfl,rfl,SqT.of ht13,rfl,?_⟩
  refine⟨_,rfl,p,dx3,_,rfl,hob3,dF_pair _ _ _ _ _ _ _,_,rfl,t,_,1,.int (tp:Nat),rfl,rfl,SqT.of ht13,rfl,_,rfl,t',_,1,.int (tp':Nat),rfl,rfl,SqT.of ht23,rfl,?_⟩
  refine⟨p,rp,op,oc,b,kk,dd,w1,w2,g,G,u,tp,tp',L,L,[],rows,orows,rfl,hA3,hout,hu,c1.rok,c2.rok,c1.unplain,c2.unplain,c1.inn,c2.inn,c1.deep,DOk.nil,by lia,λH4 L4 kv4 B4 hA4 hx4 hi4 hD4=>?_⟩
  have S4:Same H1 H4:=λx o e=>B4 _ _ (S3 _ _ e) (qa2 e (N1 _ hkk)) (qa2 e (N1 _ hdd)) (qa2 e (N1 _ hg))
  obtain⟨⟨dx4,hob4⟩,⟨⟨dxb,hb4⟩,hk4',hd4,od4⟩,_⟩:=id hA4
  have hred:Tr.Red (bring u (T rows tp) (T orows tp')):=bring_red u _ _ (canon_red c1) (canon_red c2)
  have hdep:Tr.dep (bring u (T rows tp) (T orows tp'))<=n:=bring_dep u n _ _ (canon_dep c1) (canon_dep c2)
  refine⟨_,rfl,p,C,dx4,_,_,rfl,hob4,TD.cl,TD.nB,dF_book _ _ _ _ _ _ _,b,CB,dxb,_,_,rfl,hb4,TB.cl,TB.nK,bFlds_kept _ _,?_⟩
  have hxL:Tr.name L4 (bring u (T rows tp) (T orows tp'))<(Tr.rowsOf L4).length+2:=by
   rw[Tr.rowsOf_len]
   rcases Tr.name_in od4 hi4 with ⟨_,e⟩|⟨_,e⟩|⟨i,hi,e⟩
   ·lia
   ·lia
   ·have:=(gS_ hi).1
    lia
  have hlen:=hD4.len od4
  have hL900:(Tr.rowsOf L4).length<=1190900:=by rw[Tr.rowsOf_len];lia
  have hdpL:dp (Tr.rowsOf L4) (Tr.name L4 (bring u (T rows tp) (T orows tp')))<=n:=by rw[dp_name od4 _ hi4];exact hdep
  have hokL:=Tr.rowsOf_ok od4
  obtain⟨cn2,hT2⟩:=told_shape (n:=n) hn hokL hxL hdpL (rowsOf_unplain od4 hA4.rd) (Tr.rowsOf_nodup od4)
  have hel:=post_len (dfs_post hokL n [] _ (post_nil _) hxL hdpL).1
  obtain⟨bs4,hks,hbl4,hrow4⟩:=hk4'
  refine⟨kk,n,_,Tr.rowsOf L4,rfl,⟨bs4,.inr hks,hbl4,hrow4⟩,hokL,hL900,hxL,hn,hdpL,λH5 t5 s5 tell=>?_⟩
  exact q H5 t5 _ _ (s1.trans (S4.trans s5)) ⟨tell,cn2,by rw[told_len];lia⟩ (hT2.trans (T_name od4 _ hi4)) (by rw[told_len];rw[Tr.rowsOf_len] at hel;lia)
def spDeed (u:Nat->Nat->Nat):Sp:=λvs H Q _=>∃(t t':Addr) (n tp tp':Nat) (rows orows:List Row),vs=[.ref t,.ref t']/\ShapeAt H t n tp rows/\ShapeAt H t' n tp' orows/\2*rows.length+2*orows.length+rows.length*orows.length<=1190890 /\
 ∀(H':Hp) (t2:Addr) (tp2:Nat) (rws:List Row),Same H H'->ShapeB H' t2 n tp2 rws->T rws tp2=bring u (T rows tp) (T orows tp')->rws.length<=1190890->Q (.ref t2) H'
def un (a b c d:Nat):Nat->Nat->Nat:=λi j=>if i=0 then (if j=0 then a else b) else (if j=0 then c else d)
theorem un_oc {a b c d:Nat}(h:a<2/\b<2/\c<2/\d<2):Oc (un a b c d):=λi j=>by
 unfold un
 obtain⟨h1,h2,h3,h4⟩:=h
 split<;>split<;>assumption
theorem ok_without {f fB oc:Addr}{fd fdB:FuncData}(F:Fun K "without" "without" sWithout f fd) (hB:mg "brought_together" = some (.ref fB)) (FB:Fun K "brought_together" "brought_together" sBrought fB fdB) (bB:Binds K fdB ["one", "other", "outcomes"] []) (GB:FnOk P w K mg base CX0 18 fB fdB ["one", "other", "outcomes"] (spBT K))
  (hc:mg "WITHOUT" = some (.ref oc)) (hout:KTup K oc (vN [0,0,1,0])):FnOk P w K mg base CX0 19 f fd ["one", "other"] (spDeed (un 0 0 1 0)):=by
 refine F.ok ⟨rfl,rfl,rfl,by decide +kernel,rfl,by decide +kernel,by decide +kernel⟩ (N:=["one", "other"]) (λvs H Q E h=>?_) (λcdv A outer s H vs Q E hr h=>?_)
 ·obtain⟨t,t',n,tp,tp',rows,orows,rfl,_⟩:=h
  rfl
 ·obtain⟨t,t',n,tp,tp',rows,orows,rfl,h1,h2,hl,q⟩:=h
  refine lastE ⟨_,⟨ps_ret (pe_call GB hr (by rfl) hB FB.kp bB .nil pass0 (qa0 (pv 0) (qa0 (pv 1) (qa0 (pe_glob (v:=.ref oc) (by rfl) hc rfl) qa3))))⟩,?_⟩
  exact⟨_,rfl,_,rfl,t,t',oc,un 0 0 1 0,n,tp,tp',rows,orows,rfl,h1,h2,hout,un_oc (by decide),hl,q⟩
theorem ok_unlike {f fB oc:Addr}{fd fdB:FuncData}(F:Fun K "unlike" "unlike" sUnlike f fd) (hB:mg "brought_together" = some (.ref fB)) (FB:Fun K "brought_together" "brought_together" sBrought fB fdB) (bB:Binds K fdB ["one", "other", "outcomes"] []) (GB:FnOk P w K mg base CX0 18 fB fdB ["one", "other", "outcomes"] (spBT K))
  (hc:mg "UNLIKE" = some (.ref oc)) (hout:KTup K oc (vN [0,1,1,0])):FnOk P w K mg base CX0 19 f fd ["one", "other"] (spDeed (un 0 1 1 0)):=by
 refine F.ok ⟨rfl,rfl,rfl,by decide +kernel,rfl,by decide +kernel,by decide +kernel⟩ (N:=["one", "other"]) (λvs H Q E h=>?_) (λcdv A outer s H vs Q E hr h=>?_)
 ·obtain⟨t,t',n,tp,tp',rows,orows,rfl,_⟩:=h
  rfl
 ·obtain⟨t,t',n,tp,tp',rows,orows,rfl,h1,h2,hl,q⟩:=h
  refine lastE ⟨_,⟨ps_ret (pe_call GB hr (by rfl) hB FB.kp bB .nil pass0 (qa0 (pv 0) (qa0 (pv 1) (qa0 (pe_glob (v:=.ref oc) (by rfl) hc rfl) qa3))))⟩,?_⟩
  exact⟨_,rfl,_,rfl,t,t',oc,un 0 1 1 0,n,tp,tp',rows,orows,rfl,h1,h2,hout,un_oc (by decide),hl,q⟩
end
abbrev KS (kv:List (List Key×V)):List (List Key):=kv.map (·.1)
structure PK (R1 R2:List Row) (t1 t2:Nat) (kv:List (List Key×V)):Prop where
 nd:(KS kv).Nodup
 rc:∀k∈KS kv,∃x y,Rch R1 R2 t1 t2 x y/\2<=x/\2<=y/\k=keyN [x,y]
def ClsP (R1 R2:List Row) (kv kv':List (List Key×V)):Prop:=∀x y,keyN [x,y]∈KS kv'->keyN [x,y]∉KS kv->∀i,i<4->2<=kd R1 x i->2<=kd R2 y i->keyN [kd R1 x i,kd R2 y i]∈KS kv'
theorem PK.len {R1 R2:List Row}{t1 t2:Nat}{kv:List (List Key×V)}(o1:RowsOk R1) (o2:RowsOk R2) (h1:t1<R1.length+2) (h2:t2<R2.length+2) (h:PK R1 R2 t1 t2 kv):kv.length<=R1.length*R2.length:=by
 have:=few (L0:=[]) (r1:=R1.length) (r2:=R2.length) (f:=λx y=>keyN [x+2,y+2]) h.nd λk hk=>by
  obtain⟨x,y,hr,hx,hy,rfl⟩:=h.rc k hk
  obtain⟨lx,ly⟩:=hr.lt o1 o2 h1 h2
  exact .inr ⟨x-2,y-2,by lia,by lia,by rw[show x-2+2=x by lia,show y-2+2=y by lia]⟩
 rw[List.length_map] at this
 simpa using this
theorem PK.put {R1 R2:List Row}{t1 t2 x y:Nat}{kv:List (List Key×V)}{v:V}(h:PK R1 R2 t1 t2 kv) (hn:valV kv (keyN [x,y])=none) (hr:Rch R1 R2 t1 t2 x y) (hx:2<=x) (hy:2<=y):PK R1 R2 t1 t2 (kv++[(keyN [x,y],v)]):=by
 have e:KS (kv++[(keyN [x,y],v)])=KS kv++[keyN [x,y]]:=by show List.map _ _=_;rw[List.map_append];rfl
 refine⟨?_,λk hk=>?_⟩
 ·rw[e,List.nodup_append]
  refine⟨h.nd,by simp,λa ha b hb e'=>?_⟩
  have:b=keyN [x,y]:=by simpa using hb
  exact valV_none hn (by rw[<- this,<- e'];exact ha)
 ·rw[e] at hk
  rcases List.mem_append.mp hk with z|z
  ·exact h.rc k z
  ·have:k=keyN [x,y]:=by simpa using z
   exact⟨x,y,hr,hx,hy,this⟩
theorem valV_some {kv:List (List Key×V)}{k:List Key}{v:V}(h:valV kv k=some v):k∈KS kv:=by
 unfold valV at h
 obtain⟨p,hp,_⟩:=Option.map_eq_some_iff.mp h
 have h1:=List.mem_of_find?_eq_some hp
 have h2:=List.find?_some hp
 exact List.mem_map.mpr ⟨p,h1,by simpa using h2⟩
theorem PK.cnt {R1 R2:List Row}{t1 t2:Nat}{kv:List (List Key×V)}(h:PK R1 R2 t1 t2 kv) (h0:t1<2\/t2<2\/keyN [t1,t2]∈KS kv) (hc:ClsP R1 R2 [] kv):Cnt R1 R2 t1 t2 kv.length:=by
 have all:∀{x y},Rch R1 R2 t1 t2 x y->2<=x->2<=y->keyN [x,y]∈KS kv:=λ{x y} hr=>by
  induction hr with
  |base=>intro hx hy;rcases h0 with h|h|h;lia;lia;exact h
  |step _ hx hy hi ih=>intro gx gy;exact hc _ _ (ih hx hy) (by simp[KS]) _ hi gx gy
 let un:List Key->Nat×Nat:=λk=>match k with
  |[Sum.inl a,Sum.inl b]=>(a.toNat,b.toNat)
  |_=>(0,0)
 have eu:∀x y:Nat,un (keyN [x,y])=(x,y):=λx y=>rfl
 refine⟨(KS kv).map un,?_,λx y=>⟨λhm=>?_,λ⟨hr,hx,hy⟩=>?_⟩,by simp[KS]⟩
 ·refine (List.pairwise_map.mpr ?_)
  refine List.Pairwise.imp_of_mem ?_ h.nd
  intro a b ha hb hab hz
  obtain⟨x,y,_,_,_,rfl⟩:=h.rc a ha
  obtain⟨x',y',_,_,_,rfl⟩:=h.rc b hb
  rw[eu,eu] at hz
  injection hz with z1 z2
  exact hab (by rw[z1,z2])
 ·obtain⟨k,hk,e⟩:=List.mem_map.mp hm
  obtain⟨x',y',hr,hx,hy,rfl⟩:=h.rc k hk
  rw[eu] at e
  injection e with z1 z2
  rw[<- z1,<- z2]
  exact⟨hr,hx,hy⟩
 ·exact List.mem_map.mpr ⟨_,all hr hx hy,eu x y⟩
section
variable {P:Program}{w:World}{K:PySem.W.Frag}{mg:Str->Option Value}{base:Heap}
abbrev nGP:List Str:=["rows", "other_rows", "pair", "found", "number", "other", "below"]
abbrev nGP4:List Str:=["rows", "other_rows", "pair", "found"]
theorem scGP:FnScope nGP nGP4 (defScope sGather):=⟨rfl,rfl,rfl,by decide +kernel,rfl,by decide +kernel,by decide +kernel⟩
def spGP (d:Nat):Sp:=λvs H Q _=>∃(rp op pr fo:Addr) (t1 t2 x y:Nat) (R1 R2:List Row) (kv:List (List Key×V)),vs=[.ref rp,.ref op,.ref pr,.ref fo]/\RowsAt H rp R1/\RowsAt H op R2/\RowsOk R1/\RowsOk R2/\t1<R1.length+2/\t2<R2.length+2/\R1.length*R2.length<=1000000/\H pr=some (.tup (vN [x,y]))/\H fo=some (.dT kv)/\dp R1 x<=d/\Rch R1 R2 t1 t2 x y/\PK R1 R2 t1 t2 kv /\
 ∀(H':Hp) (kv':List (List Key×V)),But fo H H'->H' fo=some (.dT kv')->(∀k∈KS kv,k∈KS kv')->PK R1 R2 t1 t2 kv'->(x<2\/y<2\/keyN [x,y]∈KS kv')->ClsP R1 R2 kv kv'->Q .non H'
theorem ok_GP {f:Addr}{fd:FuncData}(F:Fun K "gather_pairs" "gather_pairs" sGather f fd) (Tc:Cst mg) (hzip:mg "zip" = none) (hG:mg "gather_pairs" = some (.ref f)) (bG:Binds K fd nGP4 []):∀d,FnOk P w K mg base CX0 (d+1) f fd nGP4 (spGP d):=by
 obtain⟨tf,hfi⟩:=Tc.first
 intro d
 induction d with
 |zero=>
  refine F.ok scGP (λvs H Q E h=>?_) (λcdv A outer s H vs Q E hr h=>?_)
  ·obtain⟨rp,op,pr,fo,t1,t2,x,y,R1,R2,kv,rfl,_⟩:=h
   rfl
  ·obtain⟨rp,op,pr,fo,t1,t2,x,y,R1,R2,kv,rfl,hR1,hR2,o1,o2,ht1,ht2,hN,hpr,hfo,hdx,hrc,hpk,q⟩:=h
   have hu:A.units+3+1<cLine:=by
    have h2:A.units+3+16*0+200<cLine:=hr.un
    lia
   obtain⟨lx,ly⟩:=hrc.lt o1 o2 ht1 ht2
   have x2:=dp_pos o1 lx hdx
   refine seqE ⟨_,⟨ps_asg (pv 2) (pg_tup rfl (pgs_cons (pg_name (i:=4) scGP.nd rfl (by first|left;rfl|right;rfl)) (pgs_cons (pg_name (i:=5) scGP.nd rfl (by first|left;rfl|right;rfl)) pgs_nil)))⟩,?_⟩
   refine seqE ⟨_,⟨ps_if (PW.pt (pw_or (pt_cmpR op_lt (pv 4) (pe_glob (v:=.int 2) (by rfl) hfi ⟨_,rfl⟩) (nomark _)) (pw_or (pt_cmpR op_lt (pv 5) (pe_glob (v:=.int 2) (by rfl) hfi ⟨_,rfl⟩) (nomark _)) (pw_or1 (pt_cmp (pc_din hu (pv 2) (pv 3))))))) (pss_one ps_retN) pss_nil⟩,?_⟩
   refine⟨_,pss_never,?_⟩
   refine⟨_,rfl,pr,_,rfl,SqT.of hpr,rfl,_,_,rfl,_,_,rfl,rfl,?_⟩
   refine⟨_,rfl,_,_,rfl,rfl,_,rfl,?_⟩
   rw[decide_eq_true (show (x:Int)<2 by lia)]
   refine iteT (iteT ?_)
   exact q H kv (But.refl _ _) hfo (λk h=>h) hpk (.inl x2) (λx y h1 h2=>absurd h1 h2)
 |succ d ih=>
  refine F.ok scGP (λvs H Q E h=>?_) (λcdv A outer s H vs Q E hr h=>?_)
  ·obtain⟨rp,op,pr,fo,t1,t2,x,y,R1,R2,kv,rfl,_⟩:=h
   rfl
  ·obtain⟨rp,op,pr,fo,t1,t2,x,y,R1,R2,kv,rfl,hR1,hR2,o1,o2,ht1,ht2,hN,hpr,hfo,hdx,hrc,hpk,q⟩:=h
   have hu:A.units+3+1<cLine:=by
    have h2:A.units+3+16*(d+1)+200<cLine:=hr.un
    lia
   obtain⟨lx,ly⟩:=hrc.lt o1 o2 ht1 ht2
   refine seqE ⟨_,⟨ps_asg (pv 2) (pg_tup rfl (pgs_cons (pg_name (i:=4) scGP.nd rfl (by first|left;rfl|right;rfl)) (pgs_cons (pg_name (i:=5) scGP.nd rfl (by first|left;rfl|right;rfl)) pgs_nil)))⟩,?_⟩
   refine seqE ⟨_,⟨ps_if (PW.pt (pw_or (pt_cmpR op_lt (pv 4) (pe_glob (v:=.int 2) (by rfl) hfi ⟨_,rfl⟩) (nomark _)) (pw_or (pt_cmpR op_lt (pv 5) (pe_glob (v:=.int 2) (by rfl) hfi ⟨_,rfl⟩) (nomark _)) (pw_or1 (pt_cmp (pc_din hu (pv 2) (pv 3))))))) (pss_one ps_retN) pss_nil⟩,?_⟩
   refine seqE ⟨_,⟨ps_dput hu (pv 3) (pv 2) pe_bl (by rfl)⟩,?_⟩
   refine lastE ⟨_,⟨ps_for PassesOwn.never rfl (pi_zipN (by rfl) hzip (Ars2.go (.cons ⟨pe_ix ix_tup (pv 0) (pe_op op_sub (pv 4) (pe_glob (v:=.int 2) (by rfl) hfi ⟨_,rfl⟩)) (λ_ _=>rfl)⟩ (.cons ⟨pe_ix ix_tup (pv 1) (pe_op op_sub (pv 5) (pe_glob (v:=.int 2) (by rfl) hfi ⟨_,rfl⟩)) (λ_ _=>rfl)⟩ .nil rfl) rfl))) (pg_name (i:=6) scGP.nd rfl (by first|left;rfl|right;rfl))
    (StB.go (.one ⟨ps_expr (pe_call ih hr (by rfl) hG F.kp bG .nil pass0 (qa0 (pv 0) (qa0 (pv 1) (qa0 (pv 6) (qa0 (pv 3) qa3)))))⟩))⟩,?_⟩
   refine⟨_,rfl,pr,_,rfl,SqT.of hpr,rfl,_,_,rfl,_,_,rfl,rfl,?_⟩
   have early:(x<2\/y<2\/keyN [x,y]∈KS kv)->Q .non H:=λh=>q H kv (But.refl _ _) hfo (λk h=>h) hpk h (λx y h1 h2=>absurd h1 h2)
   have hkey:H pr=some (.tup ((keyN [x,y]).map kV)):=by rw[keyN_V];exact hpr
   refine⟨_,rfl,_,_,rfl,rfl,_,rfl,?_⟩
   refine ite2 (λhc=>iteT (early (.inl (by have:=of_decide_eq_true hc;lia)))) (λhc=>?_)
   have x2:¬x<2:=λz=>hc (decide_eq_true (by lia))
   refine⟨_,rfl,_,_,rfl,rfl,_,rfl,?_⟩
   refine ite2 (λhc=>iteT (early (.inr (.inl (by have:=of_decide_eq_true hc;lia))))) (λhc=>?_)
   have y2:¬y<2:=λz=>hc (decide_eq_true (by lia))
   refine⟨_,rfl,_,rfl,fo,_,rfl,DGet.t hfo hkey,_,rfl,?_⟩
   cases hkv:valV kv (keyN [x,y]) with
   |some v=>exact iteT (early (.inr (.inr (valV_some hkv))))
   |none=>
    refine iteF ?_
    have hlen:=hpk.len o1 o2 ht1 ht2
    refine⟨_,rfl,_,rfl,fo,_,rfl,DPut.t (v:=.bl true) hfo hkey (Nat.lt_of_le_of_lt (Nat.le_trans hlen hN) (by decide)),?_⟩
    rw[putK_new hkv]
    have pk1:=hpk.put (v:=.bl true) hkv hrc (by lia) (by lia)
    have ks1:KS (kv++[(keyN [x,y],V.bl true)])=KS kv++[keyN [x,y]]:=by show List.map _ _=_;rw[List.map_append];rfl
    have hf1:upd H fo (.dT (kv++[(keyN [x,y],V.bl true)])) fo=some (.dT (kv++[(keyN [x,y],V.bl true)])):=qa1
    have B1:But fo H (upd H fo (.dT (kv++[(keyN [x,y],V.bl true)]))):=But.upd
    generalize kv++[(keyN [x,y],V.bl true)]=kv1 at pk1 ks1 hf1 B1 ⊢
    generalize upd H fo (.dT kv1)=H1 at hf1 B1 ⊢
    have T1:Tups H H1:=B1.tups hfo (λu z=>by cases z)
    obtain⟨pl,a0,a1,a2,a3,rfl,hpl⟩:=row_at o1 lx x2
    obtain⟨ql,b0,b1,b2,b3,rfl,hql⟩:=row_at o2 ly y2
    have hR1':=hR1.mono T1
    have hR2':=hR2.mono T1
    obtain⟨bs,hrp,hbl,hrow⟩:=id hR1'
    obtain⟨cs,hop,hcl,hcow⟩:=id hR2'
    have hpr1:=(gS_ hpl).1
    have hqr1:=(gS_ hql).1
    have hbp:bs[pl]?=some (bs[pl]'(by lia)):=List.getElem?_eq_getElem (by lia)
    have hcp:cs[ql]?=some (cs[ql]'(by lia)):=List.getElem?_eq_getElem (by lia)
    have hra:=hrow pl _ _ hbp hpl
    have hrb:=hcow ql _ _ hcp hql
    generalize bs[pl]'(by lia)=ra at hbp hra
    generalize cs[ql]'(by lia)=rb at hcp hrb
    refine⟨_,rfl,_,rfl,_,_,rfl,rfl,rp,_,((pl:Nat):Int),.ref ra,rfl,congrArg V.int (by lia),SqT.of hrp,atI_nat (by rw[List.getElem?_map,hbp];rfl),_,rfl,_,rfl,_,_,rfl,rfl,op,_,((ql:Nat):Int),.ref rb,rfl,congrArg V.int (by lia),SqT.of hop,atI_nat (by rw[List.getElem?_map,hcp];rfl),ra,rb,rfl,⟨_,SqT.of hra⟩,⟨_,SqT.of hrb⟩,?_⟩
    refine for_zipt (K:=K) (a:=ra) (b:=rb) (xs:=vN [a0,a1,a2,a3]) (ys:=vN [b0,b1,b2,b3]) rfl (λi σ H2=>∃(kvi:List (List Key×V)) (v6:Option V),σ=[some (.ref rp),some (.ref op),some (.ref pr),some (.ref fo),some (.int ((pl+2:Nat):Int)),some (.int ((ql+2:Nat):Int)),v6]/\But fo H1 H2/\H2 fo=some (.dT kvi)/\(∀k∈KS kv1,k∈KS kvi)/\PK R1 R2 t1 t2 kvi/\ClsP R1 R2 kv1 kvi/\∀j,j<i->2<=kd R1 (pl+2) j->2<=kd R2 (ql+2) j->keyN [kd R1 (pl+2) j,kd R2 (ql+2) j]∈KS kvi) ?_ ?_ ?_ ?_
    ·exact⟨kv1,_,rfl,But.refl _ _,hf1,λk h=>h,pk1,λx y h1 h2=>absurd h1 h2,λj hj=>absurd hj (by lia)⟩
    ·rintro i σ H2 ⟨kvi,v6,rfl,B2,hf2,_⟩
     have T2:Tups H1 H2:=B2.tups hf1 (λu z=>by cases z)
     exact⟨SqT.of (T2 _ _ hra),SqT.of (T2 _ _ hrb)⟩
    ·rintro i x' y' t σ H2 hx' hy' ht ⟨kvi,v6,rfl,B2,hf2,sub2,pk2,cls2,ch2⟩
     have T2:Tups H1 H2:=B2.tups hf1 (λu z=>by cases z)
     have U:=sameU (o:=.tup [x',y']) ht
     have hi4:i<4:=(gS_ hx').1
     obtain⟨m,hm,rfl⟩:=vN_get hx'
     obtain⟨m',hm',rfl⟩:=vN_get hy'
     have e1:kd R1 (pl+2) i=m:=by rw[kd_at hpl,List.getD_eq_getElem?_getD,hm];rfl
     have e2:kd R2 (ql+2) i=m':=by rw[kd_at hql,List.getD_eq_getElem?_getD,hm'];rfl
     have hrc':Rch R1 R2 t1 t2 m m':=by rw[<- e1,<- e2];exact .step hrc (by lia) (by lia) hi4
     have hdm:dp R1 m<=d:=by
      obtain⟨g1,g2,g3,g4⟩:=kids_dp o1 hpl hdx
      match i,hi4,hm with
      |0,_,hm=>cases hm;exact g1
      |1,_,hm=>cases hm;exact g2
      |2,_,hm=>cases hm;exact g3
      |3,_,hm=>cases hm;exact g4
     have T3:=T2.trans U.tups
     refine⟨_,rfl,_,rfl,_,rfl,_,rfl,rp,op,t,fo,t1,t2,m,m',R1,R2,kvi,rfl,hR1'.mono T3,hR2'.mono T3,o1,o2,ht1,ht2,hN,qa1,U _ _ hf2,hdm,hrc',pk2,λH3 kv3 B3 hf3 sub3 pk3 in3 cls3=>?_⟩
     refine⟨kv3,_,rfl,(B2.trans (But.of U)).trans B3,hf3,λk h=>sub3 k (sub2 k h),pk3,λx y h1 h2=>?_,λj hj g1 g2=>?_⟩
     ·by_cases hm:keyN [x,y]∈KS kvi
      ·exact λj hj g1 g2=>sub3 _ (cls2 x y hm h2 j hj g1 g2)
      ·exact cls3 x y h1 hm
     ·by_cases hji:j<i
      ·exact sub3 _ (ch2 j hji g1 g2)
      ·have:j=i:=by lia
       subst this
       rw[e1] at g1 ⊢
       rw[e2] at g2 ⊢
       rcases in3 with h|h|h
       ·lia
       ·lia
       ·exact h
    ·rintro σ H2 ⟨kvi,v6,rfl,B2,hf2,sub2,pk2,cls2,ch2⟩
     have hin:keyN [pl+2,ql+2]∈KS kvi:=sub2 _ (by rw[ks1];simp)
     refine q H2 kvi (B1.trans B2) hf2 (λk h=>sub2 k (by rw[ks1];exact List.mem_append_left _ h)) pk2 (.inr (.inr hin)) (λx y h1 h2=>?_)
     by_cases hm:keyN [x,y]∈KS kv1
     ·rw[ks1] at hm
      rcases List.mem_append.mp hm with h|h
      ·exact absurd h h2
      ·have:keyN [x,y]=keyN [pl+2,ql+2]:=by simpa using h
       have:=keyN_inj this
       injection this with z1 z2
       injection z2 with z2 _
       subst z1
       subst z2
       exact ch2
     ·exact cls2 x y h1 hm
end
end Pr
namespace L2
open PySem PySem.Spec PyProof.Rows
section
variable {X:Cx}
end
end L2
namespace Pr
open PySem L2 Qf
theorem triples_data {H:Hp}{bs:List Addr}{ts:List Row}(h1:bs.length=ts.length) (h2:∀(i:Nat) b r,bs[i]?=some b->ts[i]?=some r->H b=some (.tup (vN r))):DatasAt H (bs.map V.ref) (dRows ts):=datas_rows h1 h2
theorem eqvL_nil (ds:List PyData):PyData.eqv (.list ds) (.list [])=decide (ds=[]):=by
 cases ds with
 |nil=>rfl
 |cons a l=>simp[PyData.eqv,PyData.eqvAll]
theorem RowsL.push {H:Hp}{p k:Addr}{rows:List Row}{r:Row}{bs:List Addr}(h0:H p=some (.lst (bs.map V.ref))) (h1:bs.length=rows.length) (h2:∀(i:Nat) b r,bs[i]?=some b->rows[i]?=some r->H b=some (.tup (vN r))) (hk:H k=none):RowsL (upd (upd H k (.tup (vN r))) p (.lst (bs.map V.ref++[.ref k]))) p (rows++[r]):=by
 have npk:p≠k:=qa2 h0 hk
 have tp:∀{b:Addr}{x:List V},H b=some (.tup x)->upd (upd H k (.tup (vN r))) p (.lst (bs.map V.ref++[.ref k])) b=some (.tup x):=λ{b x} e=>by
  rw[upd_ne (λz=>by rw[z,h0] at e;cases e),upd_ne (qa2 e hk)];exact e
 refine⟨bs++[k],by rw[qa1,List.map_append];rfl,by rw[List.length_append,List.length_append,h1];rfl,λi b x e1 e2=>?_⟩
 by_cases hi:i<bs.length
 ·rw[List.getElem?_append_left hi] at e1
  rw[List.getElem?_append_left (by lia)] at e2
  exact tp (h2 i b x e1 e2)
 ·rw[List.getElem?_append_right (by lia)] at e1
  rw[List.getElem?_append_right (by lia),<- h1] at e2
  have hi0:i-bs.length=0:=by
   have:=(gS_ e1).1
   simp at this
   lia
  rw[hi0] at e1 e2
  cases e1
  cases e2
  rw[upd_ne (Ne.symm npk),qa1]
section
variable {P:Program}{w:World}{K:PySem.W.Frag}{mg:Str->Option Value}{base:Heap}
theorem scPairs:FnScope ["one", "other", "found"] ["one", "other"] (defScope sPairs):=⟨rfl,rfl,rfl,by decide +kernel,rfl,by decide +kernel,by decide +kernel⟩
def spPairs:Sp:=λvs H Q _=>∃(t t':Addr) (n tp tp':Nat) (rows orows:List Row),vs=[.ref t,.ref t']/\ShapeAt H t n tp rows/\ShapeAt H t' n tp' orows/\rows.length*orows.length<=1000000/\∀(H':Hp) (m:Nat),Same H H'->Cnt rows orows tp tp' m->Q (.int (m:Nat)) H'
theorem ok_pairs {f fW fG:Addr}{fd fdW fdG:FuncData}(F:Fun K "pairs" "pairs" sPairs f fd) (B:Blt mg)
  (hW:mg "want_one_floor" = some (.ref fW)) (FW:Fun K "want_one_floor" "want_one_floor" sWantO fW fdW) (bW:Binds K fdW ["one", "other"] []) (GW:FnOk P w K mg base CX0 17 fW fdW ["one", "other"] spWO)
  (hG:mg "gather_pairs" = some (.ref fG)) (FG:Fun K "gather_pairs" "gather_pairs" sGather fG fdG) (bG:Binds K fdG nGP4 []) (GG:∀d,FnOk P w K mg base CX0 (d+1) fG fdG nGP4 (spGP d)):FnOk P w K mg base CX0 18 f fd ["one", "other"] spPairs:=by
 refine F.ok scPairs (λvs H Q E h=>?_) (λcdv A outer s H vs Q E hr h=>?_)
 ·obtain⟨t,t',n,tp,tp',rows,orows,rfl,_⟩:=h
  rfl
 ·obtain⟨t,t',n,tp,tp',rows,orows,rfl,h1,h2,hN,q⟩:=h
  have hn:=h1.2.1.size
  have hrn:Room (n+1) _:=hr.mono (by lia)
  refine seqE ⟨_,⟨ps_expr (pe_call GW hr (by rfl) hW FW.kp bW .nil pass0 (qa0 (pv 0) (qa0 (pv 1) qa3)))⟩,?_⟩
  refine seqE ⟨_,⟨ps_set (i:=2) scPairs.nd rfl (by first|left;rfl|right;rfl) pe_dnewT⟩,?_⟩
  refine seqE ⟨_,⟨ps_expr (pe_call (GG n) hrn (by rfl) hG FG.kp bG .nil pass0 (Ars2.go (.cons ⟨pe_ix ix_tup (pv 0) qa4 (λ_ _=>rfl)⟩ (.cons ⟨pe_ix ix_tup (pv 1) qa4 (λ_ _=>rfl)⟩ (.cons ⟨pe_tup (Ars2.go (.cons ⟨pe_ix ix_tup (pv 0) qa4 (λ_ _=>rfl)⟩ (.cons ⟨pe_ix ix_tup (pv 1) qa4 (λ_ _=>rfl)⟩ .nil rfl) rfl))⟩ (.cons ⟨pv 2⟩ .nil rfl) rfl) rfl) rfl)))⟩,?_⟩
  refine lastE ⟨_,⟨ps_ret (pe_callB call_lenT (by rfl) B.len PySem.boot_len (qa0 (pv 2) qa3))⟩,?_⟩
  refine⟨_,rfl,_,rfl,t,t',n,tp,tp',rows,orows,rfl,h1,h2,λH1 s1=>?_⟩
  intro fo hfo
  have U:=sameU (o:=.dT []) hfo
  have sh1:=same_sh h1 (s1.trans U)
  have sh2:=same_sh h2 (s1.trans U)
  have hf1:upd H1 fo (.dT []) fo=some (.dT []):=qa1
  have hfH:H fo=none:=s1.free hfo
  have s2:=s1.trans U
  generalize upd H1 fo (.dT [])=H2 at U sh1 sh2 hf1 s2 ⊢
  obtain⟨⟨rp,ht1,hR1⟩,c1,hl1⟩:=id sh1
  obtain⟨⟨op,ht2,hR2⟩,c2,hl2⟩:=id sh2
  refine⟨_,rfl,t,_,2,.ref rp,rfl,rfl,SqT.of ht1,rfl,_,rfl,t',_,2,.ref op,rfl,rfl,SqT.of ht2,rfl,_,rfl,t,_,1,.int (tp:Nat),rfl,rfl,SqT.of ht1,rfl,_,rfl,t',_,1,.int (tp':Nat),rfl,rfl,SqT.of ht2,rfl,(by show 2<=sizeLine;decide),λpr hpr=>?_⟩
  have U2:=sameU (o:=.tup (vN [tp,tp'])) hpr
  refine⟨_,rfl,rp,op,pr,fo,tp,tp',tp,tp',rows,orows,[],rfl,hR1.same U2,hR2.same U2,c1.rok,c2.rok,c1.inn,c2.inn,hN,qa1,U2 _ _ hf1,c1.deep,.base,⟨List.nodup_nil,λk hk=>by cases hk⟩,λH3 kv b3 hf3 sub3 pk3 in3 cls3=>?_⟩
  refine⟨_,rfl,fo,kv,rfl,hf3,?_⟩
  exact q H3 kv.length (λb o e=>b3 _ _ (U2 _ _ (s2 _ _ e)) (qa2 e hfH)) (pk3.cnt in3 cls3)
abbrev nCt:List Str:=["_law_one", "_law_other", "_law_waiting", "_law_found", "_law_two_here", "_law_quarter_here"]
abbrev nCt2:List Str:=["_law_one", "_law_other"]
theorem scCt:FnScope nCt nCt2 (defScope lCount):=⟨rfl,rfl,rfl,by decide +kernel,rfl,by decide +kernel,by decide +kernel⟩
def Opn (R1 R2:List Row) (t1 t2:Nat) (kv:List (List Key×V)) (ts:List Row):Prop:=
 (t1<2\/t2<2\/keyN [t1,t2]∈KS kv\/[t1,t2]∈ts)/\∀x y,keyN [x,y]∈KS kv->∀i,i<4->2<=kd R1 x i->2<=kd R2 y i->keyN [kd R1 x i,kd R2 y i]∈KS kv\/[kd R1 x i,kd R2 y i]∈ts
theorem ok_count {f:Addr}{fd:FuncData}(F:Fun K "_law_count" "_law_count" lCount f fd) (B:Blt mg):FnOk P w K mg base CX0 2 f fd nCt2 spPairs:=by
 refine F.ok scCt (λvs H Q E h=>?_) (λcdv A outer s H vs Q E hr h=>?_)
 ·obtain⟨t,t',n,tp,tp',rows,orows,rfl,_⟩:=h
  rfl
 ·obtain⟨t,t',n,tp,tp',rows,orows,rfl,h1,h2,hN,q⟩:=h
  have hr1:Room 1 _:=hr.mono (by decide)
  have hu4:A.units+3+1<cLine:=by
   have h2:A.units+3+16*1+200<cLine:=hr1.un
   lia
  refine seqE ⟨_,⟨ps_set (i:=2) scCt.nd rfl (by first|left;rfl|right;rfl) (pe_lst (Ars2.go (.cons ⟨pe_tup (Ars2.go (.cons ⟨pe_ix ix_tup (pv 0) qa4 (λ_ _=>rfl)⟩ (.cons ⟨pe_ix ix_tup (pv 1) qa4 (λ_ _=>rfl)⟩ .nil rfl) rfl))⟩ .nil rfl)))⟩,?_⟩
  refine seqE ⟨_,⟨ps_set (i:=3) scCt.nd rfl (by first|left;rfl|right;rfl) pe_dnewT⟩,?_⟩
  refine seqE ⟨_,⟨ps_while PassesOwn.never (pt_cmpR (op_neD hr) (pv 2) (pe_lst qa3) (nomark _))
   (StB.go (.cons ⟨ps_set (i:=4) scCt.nd rfl (by first|left;rfl|right;rfl) (pe_bm0 PySem.F.plainAttrs_list PySem.F.slot_list_pop PySem.F.type_list_pop mt_pop (pv 2))⟩
   (.one ⟨ps_if (PW.pt (pw_and (pt_cmpR op_gt (pe_ix ix_tup (pv 4) qa4 (λ_ _=>rfl)) qa4 (nomark _)) (pw_and (pt_cmpR op_gt (pe_ix ix_tup (pv 4) qa4 (λ_ _=>rfl)) qa4 (nomark _)) (pw_and1 (pt_cmp (pc_dnotin hu4 (pv 4) (pv 3)))))))
    (StB.go (.cons ⟨ps_dput hu4 (pv 3) (pv 4) pe_bl (by rfl)⟩
    (.one ⟨ps_for PassesOwn.never rfl (pi_range1 (by rfl) B.range (qa0 qa4 qa3)) (pg_name (i:=5) scCt.nd rfl (by first|left;rfl|right;rfl))
     (StB.go (.one ⟨ps_expr (PEb.go (pe_bmb PySem.F.plainAttrs_list PySem.F.slot_list_append PySem.F.type_list_append mt_append ⟨pv 2⟩ (.cons ⟨pe_tup (Ars2.go (.cons ⟨pe_ix ix_tup (PEb.go ⟨pe_ix ix_tup (pe_ix ix_tup (pv 0) qa4 (λ_ _=>rfl)) (PEb.go ⟨pe_op op_sub (pe_ix ix_tup (pv 4) qa4 (λ_ _=>rfl)) qa4⟩) (λ_ _=>rfl)⟩) (pv 5) (λ_ _=>rfl)⟩ (.cons ⟨pe_ix ix_tup (PEb.go ⟨pe_ix ix_tup (pe_ix ix_tup (pv 1) qa4 (λ_ _=>rfl)) (PEb.go ⟨pe_op op_sub (pe_ix ix_tup (pv 4) qa4 (λ_ _=>rfl)) qa4⟩) (λ_ _=>rfl)⟩) (pv 5) (λ_ _=>rfl)⟩ .nil rfl) rfl))⟩ .nil rfl)))⟩))⟩))) pss_nil⟩)))⟩,?_⟩
  refine lastE ⟨_,⟨ps_ret (pe_callB call_lenT (by rfl) B.len PySem.boot_len (qa0 (pv 3) qa3))⟩,?_⟩
  obtain⟨⟨rp1,ht1,hR1⟩,c1,hl1⟩:=id h1
  obtain⟨⟨rp2,ht2,hR2⟩,c2,hl2⟩:=id h2
  refine⟨_,rfl,t,_,1,.int (tp:Nat),rfl,rfl,SqT.of ht1,rfl,_,rfl,t',_,1,.int (tp':Nat),rfl,rfl,SqT.of ht2,rfl,(by show 2<=sizeLine;decide),λk0 hk0=>⟨(by show 1<=sizeLine;decide),λWa hWa=>?_⟩⟩
  intro Sa hSa
  have U0:=sameU (o:=.tup (vN [tp,tp'])) hk0
  have U1:=sameU (o:=.lst [V.ref k0]) hWa
  have U2:=sameU (o:=.dT []) hSa
  have hWH:H Wa=none:=U0.free hWa
  have hSH:H Sa=none:=(U0.trans U1).free hSa
  have w0:RowsL (upd (upd (upd H k0 (.tup (vN [tp,tp']))) Wa (.lst [V.ref k0])) Sa (.dT [])) Wa [[tp,tp']]:=⟨[k0],U2 _ _ qa1,rfl,λi b r e1 e2=>by
   match i with
   |0=>cases e1;cases e2;exact U2 _ _ (U1 _ _ qa1)
   |i+1=>simp at e1⟩
  have S0:Same H (upd (upd (upd H k0 (.tup (vN [tp,tp']))) Wa (.lst [V.ref k0])) Sa (.dT [])):=(U0.trans U1).trans U2
  have d0:(upd (upd (upd H k0 (.tup (vN [tp,tp']))) Wa (.lst [V.ref k0])) Sa (.dT [])) Sa=some (.dT []):=qa1
  show tWhile _ _ _ _ (upd (upd (upd H k0 (.tup (vN [tp,tp']))) Wa (.lst [V.ref k0])) Sa (.dT []))
  generalize upd (upd (upd H k0 (.tup (vN [tp,tp']))) Wa (.lst [V.ref k0])) Sa (.dT [])=H0 at w0 S0 d0 ⊢
  clear U0 U1 U2 hk0 hWa hSa
  refine⟨λm σ H2=>∃(ts:List Row) (kv:List (List Key×V)) (v4 v5:Option V),σ=[some (.ref t),some (.ref t'),some (.ref Wa),some (.ref Sa),v4,v5]/\RowsL H2 Wa ts/\(∀r∈ts,∃x y,r=[x,y]/\Rch rows orows tp tp' x y)/\H2 Sa=some (.dT kv)/\PK rows orows tp tp' kv/\Opn rows orows tp tp' kv ts/\ts.length<=1+3*kv.length /\
   m=5*(rows.length*orows.length-kv.length)+ts.length/\Same H H2,⟨_,[[tp,tp']],[],none,none,rfl,w0,λr hr=>?_,d0,⟨List.nodup_nil,λk hk=>by cases hk⟩,⟨.inr (.inr (.inr (by simp))),λx y h=>by cases h⟩,(by show 1<=1+3*0;decide),rfl,S0⟩,?_⟩
  ·have:r=[tp,tp']:=by simpa using hr
   exact⟨tp,tp',this,.base⟩
  clear w0 S0 d0
  rintro m σ H2 ⟨ts,kv,v4,v5,rfl,hW2,hg,hS2,pk,op,hlen,rfl,s2⟩
  obtain⟨bs,hbW,hbl,hbr⟩:=id hW2
  refine⟨_,rfl,(by show 0<=sizeLine;decide),λe he=>?_⟩
  have Ue:=sameU (o:=.lst []) he
  refine⟨.list (dRows ts),.list [],.lst (Ue _ _ hbW) (triples_data hbl λi b r e1 e2=>Ue _ _ (hbr i b r e1 e2)),.lst qa1 .nil,rows_lay ts,by simp[PyData.canLay0,PyData.canLayAll0],?_,_,rfl,?_⟩
  ·have:PyData.depthAll (dRows ts)<=1:=rows_depth ts
   show PyData.depthAll (dRows ts)+1<=60
   lia
  rw[eqvL_nil]
  rcases List.eq_nil_or_concat ts with rfl|⟨ts0,r,rfl⟩
  ·refine iteF ⟨_,rfl,Sa,kv,rfl,Ue _ _ hS2,q _ kv.length (s2.trans Ue) (pk.cnt ?_ λx y h1 _ i hi g1 g2=>?_)⟩
   ·rcases op.1 with h|h|h|h
    ·exact .inl h
    ·exact .inr (.inl h)
    ·exact .inr (.inr h)
    ·cases h
   ·rcases op.2 x y h1 i hi g1 g2 with h|h
    ·exact h
    ·cases h
  rw[List.concat_eq_append] at *
  have hne:(!decide (dRows (ts0++[r])=[]))=true:=by simp[dRows]
  rw[hne]
  refine iteT ⟨λσ' H'=>∃m',m'<5*(rows.length*orows.length-kv.length)+(ts0++[r]).length/\∃(ts:List Row) (kv:List (List Key×V)) (v4 v5:Option V),σ'=[some (.ref t),some (.ref t'),some (.ref Wa),some (.ref Sa),v4,v5]/\RowsL H' Wa ts/\(∀r∈ts,∃x y,r=[x,y]/\Rch rows orows tp tp' x y)/\H' Sa=some (.dT kv)/\PK rows orows tp tp' kv/\Opn rows orows tp tp' kv ts/\ts.length<=1+3*kv.length /\
   m'=5*(rows.length*orows.length-kv.length)+ts.length/\Same H H',λ_ _ h=>h,?_⟩
  rcases List.eq_nil_or_concat bs with rfl|⟨bs0,b,rfl⟩
  ·rw[List.length_append] at hbl;simp at hbl
  rw[List.concat_eq_append] at *
  have hbl0:bs0.length=ts0.length:=by rw[List.length_append,List.length_append] at hbl;simp at hbl;exact hbl
  obtain⟨x,y,rfl,hrc⟩:=hg r (by simp)
  obtain⟨lx,ly⟩:=hrc.lt c1.rok c2.rok c1.inn c2.inn
  have hg0:∀r'∈ts0,∃x y,r'=[x,y]/\Rch rows orows tp tp' x y:=λr' h=>hg r' (List.mem_append_left _ h)
  have hr0:∀(i:Nat) c x,bs0[i]?=some c->ts0[i]?=some x->H2 c=some (.tup (vN x)):=λi c x e1 e2=>by
   have h1:=(gS_ e1).1
   have h2:=(gS_ e2).1
   exact hbr i c x (by rw[List.getElem?_append_left h1];exact e1) (by rw[List.getElem?_append_left h2];exact e2)
  have hbt:H2 b=some (.tup (vN [x,y])):=hbr bs0.length b _ (by simp) (by rw[hbl0];simp)
  have hW3:=Ue _ _ hbW
  have hS3:=Ue _ _ hS2
  have hb3:=Ue _ _ hbt
  have s3:=s2.trans Ue
  have hr3:∀(i:Nat) c x,bs0[i]?=some c->ts0[i]?=some x->upd H2 e (.lst []) c=some (.tup (vN x)):=λi c x e1 e2=>Ue _ _ (hr0 i c x e1 e2)
  generalize upd H2 e (.lst [])=H3 at hW3 hS3 hb3 s3 hr3 ⊢
  refine⟨_,rfl,.inl ⟨rfl,_,SqL.of hW3⟩,Wa,_,.ref b,rfl,rfl,hW3,by rw[List.map_append,List.length_append];simp,?_⟩
  have edl:((bs0++[b]).map V.ref).dropLast=bs0.map V.ref:=by rw[List.map_append];simp
  rw[edl]
  have nW:∀{c:Addr}{o:HO},H3 c=some o->(∀l,o≠.lst l)->upd H3 Wa (.lst (bs0.map V.ref)) c=some o:=λ{c o} e n=>by
   rw[upd_ne (λz=>by rw[z,hW3] at e;exact n _ (Option.some.inj e).symm)];exact e
  have hS4:=nW hS3 (λ_ z=>by cases z)
  have hb4:=nW hb3 (λ_ z=>by cases z)
  have hr4:∀(i:Nat) c x,bs0[i]?=some c->ts0[i]?=some x->upd H3 Wa (.lst (bs0.map V.ref)) c=some (.tup (vN x)):=λi c x e1 e2=>nW (hr3 i c x e1 e2) (λ_ z=>by cases z)
  have hW4:upd H3 Wa (.lst (bs0.map V.ref)) Wa=some (.lst (bs0.map V.ref)):=qa1
  have s4:Same H (upd H3 Wa (.lst (bs0.map V.ref))):=sameW s3 hWH
  generalize upd H3 Wa (.lst (bs0.map V.ref))=H4 at hS4 hb4 hr4 hW4 s4 ⊢
  have hbk:H4 b=some (.tup ((keyN [x,y]).map kV)):=by rw[keyN_V];exact hb4
  have hl1:(ts0++[[x,y]]).length=ts0.length+1:=by rw[List.length_append];rfl
  have drop:(x<2\/y<2\/keyN [x,y]∈KS kv)->Opn rows orows tp tp' kv ts0:=λhd=>by
   have mv:∀{a c:Nat},2<=a->2<=c->keyN [a,c]∈KS kv\/[a,c]∈ts0++[[x,y]]->keyN [a,c]∈KS kv\/[a,c]∈ts0:=λ{a c} ha hc h=>by
    rcases h with h|h
    ·exact .inl h
    ·rcases List.mem_append.mp h with h|h
     ·exact .inr h
     ·have h:[a,c]=[x,y]:=by simpa using h
      injection h with z1 z2
      injection z2 with z2 _
      subst z1
      subst z2
      rcases hd with h|h|h
      ·lia
      ·lia
      ·exact .inl h
   refine⟨?_,λx y h i hi g1 g2=>mv g1 g2 (op.2 x y h i hi g1 g2)⟩
   by_cases h1:tp<2
   ·exact .inl h1
   ·by_cases h2:tp'<2
    ·exact .inr (.inl h2)
    ·rcases op.1 with h|h|h
     ·exact .inl h
     ·exact .inr (.inl h)
     ·exact .inr (.inr (mv (by lia) (by lia) h))
  have skip:Opn rows orows tp tp' kv ts0->∃m',m'<5*(rows.length*orows.length-kv.length)+(ts0++[[x,y]]).length/\∃(ts:List Row) (kv:List (List Key×V)) (w4 w5:Option V),[some (V.ref t),some (V.ref t'),some (V.ref Wa),some (V.ref Sa),some (V.ref b),v5]=[some (.ref t),some (.ref t'),some (.ref Wa),some (.ref Sa),w4,w5]/\RowsL H4 Wa ts/\(∀r∈ts,∃x y,r=[x,y]/\Rch rows orows tp tp' x y)/\H4 Sa=some (.dT kv)/\PK rows orows tp tp' kv/\Opn rows orows tp tp' kv ts/\ts.length<=1+3*kv.length /\
   m'=5*(rows.length*orows.length-kv.length)+ts.length/\Same H H4:=λho=>⟨_,by lia,ts0,kv,_,_,rfl,⟨bs0,hW4,hbl0,hr4⟩,hg0,hS4,pk,ho,by lia,rfl,s4⟩
  refine⟨_,rfl,b,_,0,.int (x:Nat),rfl,rfl,SqT.of hb4,rfl,_,_,rfl,rfl,_,rfl,?_⟩
  refine ite2 (λhc=>?_) (λhc=>iteF (skip (drop (.inl ?_))))
  rotate_left
  ·have:¬(1:Int)<(x:Int):=λz=>hc (decide_eq_true z)
   lia
  have x2:2<=x:=by have:=of_decide_eq_true hc;lia
  refine⟨_,rfl,b,_,1,.int (y:Nat),rfl,rfl,SqT.of hb4,rfl,_,_,rfl,rfl,_,rfl,?_⟩
  refine ite2 (λhc=>?_) (λhc=>iteF (skip (drop (.inr (.inl ?_)))))
  rotate_left
  ·have:¬(1:Int)<(y:Int):=λz=>hc (decide_eq_true z)
   lia
  have y2:2<=y:=by have:=of_decide_eq_true hc;lia
  refine⟨_,rfl,_,rfl,Sa,_,rfl,DGet.t hS4 hbk,_,rfl,?_⟩
  cases hkv:valV kv (keyN [x,y]) with
  |some v=>exact iteF (skip (drop (.inr (.inr (valV_some hkv)))))
  |none=>
   refine iteT ?_
   have hfew:=pk.len c1.rok c2.rok c1.inn c2.inn
   have dp4:=DPut.t (v:=.bl true) hS4 hbk (Nat.lt_of_le_of_lt (Nat.le_trans hfew hN) (by decide))
   refine⟨_,rfl,_,rfl,Sa,_,rfl,dp4,?_⟩
   rw[putK_new hkv]
   have pk5:=pk.put (v:=.bl true) hkv hrc x2 y2
   have ks5:KS (kv++[(keyN [x,y],V.bl true)])=KS kv++[keyN [x,y]]:=by show List.map _ _=_;rw[List.map_append];rfl
   have hfew5:=pk5.len c1.rok c2.rok c1.inn c2.inn
   have kl5:(kv++[(keyN [x,y],V.bl true)]).length=kv.length+1:=by rw[List.length_append];rfl
   generalize kv++[(keyN [x,y],V.bl true)]=kv5 at pk5 ks5 hfew5 kl5 ⊢
   have nS:∀{c:Addr}{o:HO},H4 c=some o->(∀l,o≠.dT l)->upd H4 Sa (.dT kv5) c=some o:=λ{c o} e n=>by
    rw[upd_ne (λz=>by rw[z,hS4] at e;exact n _ (Option.some.inj e).symm)];exact e
   have hb5:=nS hb4 (λ_ z=>by cases z)
   have hW5:=nS hW4 (λ_ z=>by cases z)
   have hr5:∀(i:Nat) c x,bs0[i]?=some c->ts0[i]?=some x->upd H4 Sa (.dT kv5) c=some (.tup (vN x)):=λi c x e1 e2=>nS (hr4 i c x e1 e2) (λ_ z=>by cases z)
   have hS5:upd H4 Sa (.dT kv5) Sa=some (.dT kv5):=qa1
   have s5:Same H (upd H4 Sa (.dT kv5)):=sameW s4 hSH
   generalize upd H4 Sa (.dT kv5)=H5 at hb5 hW5 hr5 hS5 s5 ⊢
   obtain⟨pl,a0,a1,a2,a3,rfl,hpl⟩:=row_at c1.rok lx (by lia)
   obtain⟨ql,b0,b1,b2,b3,rfl,hql⟩:=row_at c2.rok ly (by lia)
   obtain⟨rs,hrp,hrl,hrow⟩:=id hR1
   obtain⟨qs,hop,hql',hqow⟩:=id hR2
   have hpr1:=(gS_ hpl).1
   have hqr1:=(gS_ hql).1
   have hrpl:rs[pl]?=some (rs[pl]'(by lia)):=List.getElem?_eq_getElem (by lia)
   have hqql:qs[ql]?=some (qs[ql]'(by lia)):=List.getElem?_eq_getElem (by lia)
   have hra:=hrow pl _ _ hrpl hpl
   have hrb:=hqow ql _ _ hqql hql
   generalize rs[pl]'(by lia)=ra at hrpl hra
   generalize qs[ql]'(by lia)=rb at hqql hrb
   refine⟨_,rfl,by decide,by decide,for_range (lo:=0) (n:=4) (λi σ' H8=>∃(ts':List Row) (v5:Option V),ts'.length=ts0.length+i/\(∀r∈ts',∃x y,r=[x,y]/\Rch rows orows tp tp' x y)/\(∀r∈ts0,r∈ts')/\(∀j,j<i->[kd rows (pl+2) j,kd orows (ql+2) j]∈ts')/\RowsL H8 Wa ts'/\H8 Sa=some (.dT kv5)/\H8 b=some (.tup (vN [pl+2,ql+2]))/\Same H H8/\σ'=[some (.ref t),some (.ref t'),some (.ref Wa),some (.ref Sa),some (.ref b),v5]) ⟨ts0,v5,rfl,hg0,λr h=>h,λj hj=>absurd hj (by lia),⟨bs0,hW5,hbl0,hr5⟩,hS5,hb5,s5,rfl⟩ ?_ ?_⟩
   ·rintro i σ' H8 hi ⟨ts',w5,hlt,hg',hsub,hch,hW8,hS8,hb8,s8,rfl⟩
    obtain⟨bs8,hbW8,hbl8,hbr8⟩:=id hW8
    have hm:[a0,a1,a2,a3][i]?=some (kd rows (pl+2) i):=by rw[kd_at hpl,List.getD_eq_getElem?_getD,List.getElem?_eq_getElem (show i<[a0,a1,a2,a3].length from hi)];rfl
    have hm':[b0,b1,b2,b3][i]?=some (kd orows (ql+2) i):=by rw[kd_at hql,List.getD_eq_getElem?_getD,List.getElem?_eq_getElem (show i<[b0,b1,b2,b3].length from hi)];rfl
    have hrc':Rch rows orows tp tp' (kd rows (pl+2) i) (kd orows (ql+2) i):=.step hrc x2 y2 hi
    generalize kd rows (pl+2) i=m1 at hm hrc'
    generalize kd orows (ql+2) i=m2 at hm' hrc'
    have ei:(0:Int)+(i:Int)=((i:Nat):Int):=Int.zero_add _
    refine⟨_,rfl,.inl ⟨rfl,_,SqL.of hbW8⟩,_,rfl,t,_,2,.ref rp1,rfl,rfl,SqT.of (s8 _ _ ht1),rfl,_,rfl,b,_,0,.int ((pl+2:Nat):Int),rfl,rfl,SqT.of hb8,rfl,_,_,rfl,rfl,rp1,_,((pl:Nat):Int),.ref ra,rfl,congrArg V.int (by lia),SqT.of (s8 _ _ hrp),atI_nat (by rw[List.getElem?_map,hrpl];rfl),_,rfl,ra,_,((i:Nat):Int),.int (m1:Nat),rfl,congrArg V.int ei,SqT.of (s8 _ _ hra),vN_atI hm,_,rfl,t',_,2,.ref rp2,rfl,rfl,SqT.of (s8 _ _ ht2),rfl,_,rfl,b,_,1,.int ((ql+2:Nat):Int),rfl,rfl,SqT.of hb8,rfl,_,_,rfl,rfl,rp2,_,((ql:Nat):Int),.ref rb,rfl,congrArg V.int (by lia),SqT.of (s8 _ _ hop),atI_nat (by rw[List.getElem?_map,hqql];rfl),_,rfl,rb,_,((i:Nat):Int),.int (m2:Nat),rfl,congrArg V.int ei,SqT.of (s8 _ _ hrb),vN_atI hm',(by show 2<=sizeLine;decide),λk1 hk1=>?_⟩
    have U8:=sameU (o:=.tup (vN [m1,m2])) hk1
    refine⟨Wa,_,.ref k1,rfl,rfl,U8 _ _ hbW8,?_,?_⟩
    ·rw[List.length_map,hbl8]
     exact Nat.lt_of_le_of_lt (m:=4000005) (by lia) (by decide)
    have kpW:∀{c:Addr}{o:HO},H8 c=some o->(∀l,o≠.lst l)->upd (upd H8 k1 (.tup (vN [m1,m2]))) Wa (.lst (bs8.map V.ref++[.ref k1])) c=some o:=λ{c o} e n=>by
     rw[upd_ne (λz=>by rw[z,hbW8] at e;exact n _ (Option.some.inj e).symm)];exact U8 _ _ e
    refine⟨ts'++[[m1,m2]],_,by rw[List.length_append,hlt];rfl,λr hr=>?_,λr h=>List.mem_append_left _ (hsub r h),λj hj=>?_,RowsL.push (r:=[m1,m2]) hbW8 hbl8 hbr8 hk1,kpW hS8 (λ_ z=>by cases z),kpW hb8 (λ_ z=>by cases z),sameW (s8.trans U8) hWH,rfl⟩
    ·rcases List.mem_append.mp hr with h|h
     ·exact hg' r h
     ·have:r=[m1,m2]:=by simpa using h
      exact⟨m1,m2,this,hrc'⟩
    ·by_cases hji:j<i
     ·exact List.mem_append_left _ (hch j hji)
     ·have:j=i:=by lia
      subst this
      have e1:kd rows (pl+2) j=m1:=by rw[kd_at hpl,List.getD_eq_getElem?_getD,hm];rfl
      have e2:kd orows (ql+2) j=m2:=by rw[kd_at hql,List.getD_eq_getElem?_getD,hm'];rfl
      rw[e1,e2]
      simp
   ·rintro σ' H8 ⟨ts',w5,hlt,hg',hsub,hch,hW8,hS8,hb8,s8,rfl⟩
    refine⟨_,by lia,ts',kv5,_,_,rfl,hW8,hg',hS8,pk5,?_,by lia,rfl,s8⟩
    have mv:∀{a c:Nat},keyN [a,c]∈KS kv\/[a,c]∈ts0++[[pl+2,ql+2]]->keyN [a,c]∈KS kv5\/[a,c]∈ts':=λ{a c} h=>by
     rcases h with h|h
     ·exact .inl (by rw[ks5];exact List.mem_append_left _ h)
     ·rcases List.mem_append.mp h with h|h
      ·exact .inr (hsub _ h)
      ·have h:[a,c]=[pl+2,ql+2]:=by simpa using h
       rw[h,ks5]
       exact .inl (by simp)
    refine⟨?_,λx y h i hi g1 g2=>?_⟩
    ·rcases op.1 with h|h|h
     ·exact .inl h
     ·exact .inr (.inl h)
     ·exact .inr (.inr (mv h))
    ·rw[ks5] at h
     rcases List.mem_append.mp h with h|h
     ·exact mv (op.2 x y h i hi g1 g2)
     ·have:keyN [x,y]=keyN [pl+2,ql+2]:=by simpa using h
      have:=keyN_inj this
      injection this with z1 z2
      injection z2 with z2 _
      subst z1
      subst z2
      exact .inr (hch i hi)
end
end Pr
namespace Qf
open Tr
theorem canon_deps {n top:Nat}{rows:List Row}(c:Canon n top rows):∀x,x<rows.length+2->dp rows x<=n:=λx hx=>by
 by_cases h2:x<2
 ·rw[dp_low h2];exact Nat.zero_le _
 ·have er:=(canon_rows c).1
  have od:=(post_ord (T rows top) [] ord_nil).1
  have all:=post_all (Pd:=λs=>dep s<=n) (λa b c d h=>by
   cases n with
   |zero=>exact absurd h (by show ¬1+_<=0;lia)
   |succ k=>
    obtain⟨h1,h2,h3,h4⟩:=dep_kid h
    exact⟨by lia,by lia,by lia,by lia⟩) (T rows top) [] (canon_dep c) (λs hs=>by cases hs)
  generalize post (T rows top) []=L at er od all
  have el:rows.length=L.length:=by
   have:=congrArg List.length er
   rw[rowsOf_len] at this
   exact this
  obtain⟨i,rfl⟩:∃i,x=i+2:=⟨x-2,by lia⟩
  have hi:L[i]?=some (L[i]'(by lia)):=List.getElem?_eq_getElem (by lia)
  have hm:=List.mem_of_getElem? hi
  generalize L[i]'(by lia)=t at hi hm
  have:=dp_name od t (.inr (.inr hm))
  rw[name_at od hi] at this
  rw[er,this]
  exact all t hm
end Qf
namespace Pr
open PySem L2 Qf
section
variable {P:Program}{w:World}{K:PySem.W.Frag}{mg:Str->Option Value}{base:Heap}
theorem scPurse:FnScope ["_law_script", "_law_k", "_law_cell", "_law_seed", "_law_other"] ["_law_script", "_law_k"] (defScope lPurse):=⟨rfl,rfl,rfl,by decide +kernel,rfl,by decide +kernel,by decide +kernel⟩
def spPurse (K:PySem.W.Frag):Sp:=λvs H Q _=>∃(a:Addr) (k:Int) (ns:List Int),vs=[.ref a,.int k]/\SqL K H a (ns.map V.int)/\ns.length<=63/\0<=k/\k<=1000/\∀(H':Hp) (p:Addr),Same H H'->H p=none->PurseAt H' p->Q (.ref p) H'
theorem cut_int {ns:List Int}{lo hi:Option Int}{i:Nat}{y:V}(h:(cutV (ns.map V.int) lo hi)[i]?=some y):∃n:Int,y=.int n:=by
 have hm:=List.mem_of_getElem? h
 unfold cutV at hm
 have h2:=List.mem_of_mem_drop (List.mem_of_mem_take hm)
 obtain⟨n,_,e⟩:=List.mem_map.mp h2
 exact⟨n,e.symm⟩
theorem purse_rest {a:Addr}{k:Int}{ns:List Int}{H:Hp}{Q:VK}(hS:SqL K H a (ns.map V.int)) (h0:0<=k) (h1:k<=1000) (q:∀(H':Hp) (p:Addr),Same H H'->H p=none->PurseAt H' p->Q (.ref p) H') (c:Int) :
  tSeq (tFor (iList K (tSl (rSlL K) (tVar 0) tNoPart (tPart (tC (.int 30))))) (gName 4) (tAsg (tOp (rI (λ_ j=>0<j) λi j=>.int (i%j)) (tOp (rI0 λi j=>.int (i+j)) (tOp (rI CMul λi j=>.int (i*j)) (tVar 3) (tC (.int 48271))) (tVar 4)) (tC (.int 2147483647))) (gName 3)))
   (tRet (tLst (tCons (tOp (rI CMul λi j=>.int (i*j)) (tVar 2) (tCB (λxs H Q=>(∃i,xs=[V.int i]/\Q (.int i) H)\/∃k,xs=[V.bl k]/\Q (.int (if k then 1 else 0)) H) (tCons (tOp (rI0 λi j=>.bl (decide (j<=i))) (tVar 2) (tOp (rI CPow λi j=>.int (i^j.toNat)) (tC (.int 10)) (tC (.int 18)))) tNil))) (tCons (tVar 3) tNil))))
   { nx:=λ_ H'=>Q .non H',rt:=Q } [some (.ref a),some (.int k),some (.int c),some (.int (97+6007*k)),none] H:=by
 refine⟨_,rfl,_,rfl,a,_,rfl,hS,λp hp=>⟨p,rfl,⟨_,SqL.of qa1⟩,for_list (K:=K) (a:=p) (xs:=cutV (ns.map V.int) none (some 30)) (λi σ H2=>H2=upd H p (.lst (cutV (ns.map V.int) none (some 30)))/\∃(y:Int) (v4:Option V),σ=[some (.ref a),some (.int k),some (.int c),some (.int y),v4]/\0<=y/\y<2^40)
  ⟨rfl,_,_,rfl,by lia,by lia⟩ (λi σ H2 _ ⟨e,_⟩=>by rw[e];exact SqL.of qa1) ?_ ?_⟩⟩
 ·rintro i y σ H2 hy ⟨rfl,z,v4,rfl,z0,z1⟩
  obtain⟨n,rfl⟩:=cut_int hy
  refine⟨_,rfl,_,_,rfl,rfl,.inl ⟨by lia,by lia⟩,_,rfl,_,_,rfl,rfl,_,_,rfl,rfl,(by show (0:Int)<2147483647;decide),rfl,_,_,rfl,?_,?_⟩
  ·exact Int.emod_nonneg _ (by decide)
  ·have:(z*48271+n)%2147483647<2147483647:=Int.emod_lt_of_pos _ (by decide)
   show (z*48271+n)%2147483647<2^40
   lia
 ·rintro σ H2 ⟨rfl,z,v4,rfl,z0,z1⟩
  refine⟨_,rfl,_,rfl,_,_,rfl,rfl,⟨by decide,by decide,by decide⟩,_,_,rfl,rfl,.inr ⟨_,rfl,_,_,rfl,rfl,.inr ?_,_,rfl,(by show 2<=sizeLine;decide),λp2 hp2=>?_⟩⟩
  ·constructor<;>split<;>decide
  ·refine q _ p2 ((sameU hp).trans (sameU hp2)) ?_ ⟨_,_,qa1,?_,z0,z1⟩
   ·exact (sameU hp).free hp2
   ·by_cases hc:(10:Int)^(18:Int).toNat<=c
    ·rw[decide_eq_true hc]
     show 0<=c*1
     have:(0:Int)<=10^(18:Int).toNat:=by decide
     lia
    ·rw[decide_eq_false hc]
     show 0<=c*0
     lia
theorem ok_purse {f:Addr}{fd:FuncData}(F:Fun K "_law_purse" "_law_purse" lPurse f fd) (B:Blt mg):FnOk P w K mg base CX0 1 f fd ["_law_script", "_law_k"] (spPurse K):=by
 refine F.ok scPurse (λvs H Q E h=>?_) (λcdv A outer s H vs Q E hr h=>?_)
 ·obtain⟨a,k,ns,rfl,_⟩:=h
  rfl
 ·obtain⟨a,k,ns,rfl,hS,hl,h0,h1,q⟩:=h
  refine⟨_,pss_cons (ps_set (i:=2) scPurse.nd rfl (Or.inl rfl) (pe_ifExp (pt_cmpR op_lt (pv 1) (pe_callB call_len_seq (by rfl) B.len PySem.boot_len (qa0 (pv 0) qa3)) (nomark _)) (pe_ix ix_list (pv 0) (pv 1) (λ_ _=>rfl)) qa4))
   (pss_cons (ps_set (i:=3) scPurse.nd rfl (Or.inl rfl) (pe_op op_add qa4 (pe_op op_mul qa4 (pv 1))))
   (pss_cons (ps_for PassesOwn.never rfl (pi_list (pe_slice sl_list (pv 0) po_none (po_some qa4))) (pg_name (i:=4) scPurse.nd rfl (Or.inl rfl))
    (pss_one (ps_set (i:=3) scPurse.nd rfl (Or.inl rfl) (pe_op op_mod (pe_op op_add (pe_op op_mul (pv 3) qa4) (pv 4)) qa4))))
   (pss_one (ps_ret (pe_lst (qa0 (pe_op op_mul (pv 2) (pe_callTy call_int1 (by rfl) B.int PyProof.Rows.boot_int (qa0 (pe_cmpR op_ge (pv 2) (pe_op op_pow qa4 qa4) (nomark _)) qa3))) (qa0 (pv 3) qa3))))))),?_⟩
  refine⟨_,rfl,_,rfl,a,_,rfl,.inl hS,_,_,rfl,rfl,_,rfl,?_⟩
  refine ite2 (λhc=>?_) (λhc=>?_)
  ·have hk:k<(ns.length:Int):=by
    have:=of_decide_eq_true hc
    simpa using this
   have hkn:k.toNat<ns.length:=by lia
   have hat:=atI_nat (xs:=ns.map V.int) (j:=k.toNat) (v:=.int (ns[k.toNat])) (by simp[hkn])
   rw[show ((k.toNat:Nat):Int)=k by lia] at hat
   refine⟨_,rfl,_,rfl,a,_,k,.int (ns[k.toNat]),rfl,rfl,hS,hat,?_⟩
   generalize ns[k.toNat]=c
   refine⟨_,rfl,_,_,rfl,rfl,.inl ⟨by decide,by decide⟩,_,_,rfl,rfl,?_⟩
   exact purse_rest hS h0 h1 q c
  ·refine⟨_,rfl,_,_,rfl,rfl,.inl ⟨by decide,by decide⟩,_,_,rfl,rfl,?_⟩
   exact purse_rest hS h0 h1 q 0
theorem scDraw:FnScope ["_law_purse_here", "_law_many", "_law_digit"] ["_law_purse_here", "_law_many"] (defScope lDraw):=⟨rfl,rfl,rfl,by decide +kernel,rfl,by decide +kernel,by decide +kernel⟩
def spDraw:Sp:=λvs H Q _=>∃(p:Addr) (n:Nat),vs=[.ref p,.int (n:Nat)]/\PurseAt H p/\0<n/\n<1000000/\∀(d:Nat) (H':Hp),d<n->But p H H'->PurseAt H' p->Q (.int (d:Nat)) H'
theorem ok_draw {f:Addr}{fd:FuncData}(F:Fun K "_law_draw" "_law_draw" lDraw f fd):FnOk P w K mg base CX0 1 f fd ["_law_purse_here", "_law_many"] spDraw:=by
 refine F.ok scDraw (λvs H Q E h=>?_) (λcdv A outer s H vs Q E hr h=>?_)
 ·obtain⟨p,n,rfl,_⟩:=h
  rfl
 ·obtain⟨p,n,rfl,⟨a,b,hp,ha,hb,hb2⟩,hn,hn2,q⟩:=h
  refine⟨_,pss_cons (ps_if (pt_cmpR op_gt (pe_ix ix_list (pv 0) qa4 (λ_ _=>rfl)) qa4 (nomark _))
    (pss_cons (ps_set (i:=2) scDraw.nd rfl (Or.inl rfl) (pe_op op_mod (pe_ix ix_list (pv 0) qa4 (λ_ _=>rfl)) (pv 1)))
    (pss_cons (ps_asg (pe_op op_fdiv (pe_ix ix_list (pv 0) qa4 (λ_ _=>rfl)) (pv 1)) (pg_sub (pv 0) qa4 set_list))
    (pss_one (ps_ret (pv 2))))) pss_nil)
   (pss_cons (ps_asg (pe_op op_mod (pe_op op_add (pe_op op_mul (pe_ix ix_list (pv 0) qa4 (λ_ _=>rfl)) qa4) qa4) qa4) (pg_sub (pv 0) qa4 set_list))
   (pss_one (ps_ret (pe_op op_mod (pe_op op_fdiv (pe_op op_mod (pe_op op_mul (pe_ix ix_list (pv 0) qa4 (λ_ _=>rfl)) (pe_ix ix_list (pv 0) qa4 (λ_ _=>rfl))) qa4) qa4) (pv 1))))),?_⟩
  have sq:∀{H':Hp}{xs:List V},H' p=some (.lst xs)->SqL K H' p xs:=λh=>SqL.of h
  have fin:∀(d x y:Int),0<=d->d<(n:Int)->0<=x->0<=y->y<2^40->Q (.int d) (upd H p (.lst [.int x,.int y])):=λd x y d0 d1 x0 y0 y1=>by
   have:=q d.toNat (upd H p (.lst [.int x,.int y])) (by lia) But.upd ⟨x,y,qa1,x0,y0,y1⟩
   rwa [show ((d.toNat:Nat):Int)=d by lia] at this
  have hn0:(0:Int)<n:=by lia
  refine⟨_,rfl,p,_,0,_,rfl,rfl,sq hp,rfl,_,_,rfl,rfl,_,rfl,?_⟩
  refine ite2 (λhc=>?_) (λhc=>?_)
  ·refine⟨_,rfl,p,_,0,_,rfl,rfl,sq hp,rfl,_,rfl,_,_,rfl,rfl,hn0,?_⟩
   refine⟨_,rfl,p,_,0,_,rfl,rfl,sq hp,rfl,_,rfl,_,_,rfl,rfl,⟨hn0,by lia⟩,_,rfl,p,_,0,0,rfl,rfl,hp,rfl,?_⟩
   refine⟨_,rfl,?_⟩
   exact fin _ _ _ (Int.emod_nonneg _ (by lia)) (Int.emod_lt_of_pos _ hn0) (Int.ediv_nonneg ha (by lia)) hb hb2
  ·refine⟨_,rfl,p,_,1,_,rfl,rfl,sq hp,rfl,_,_,rfl,rfl,.inl ⟨by lia,by lia⟩,_,_,rfl,rfl,_,_,rfl,rfl,(by show (0:Int)<2147483587;decide),_,rfl,p,_,1,1,rfl,rfl,hp,rfl,?_⟩
   have m1:0<=(b*39373+2003)%2147483587/\(b*39373+2003)%2147483587<2147483587:=⟨Int.emod_nonneg _ (by decide),Int.emod_lt_of_pos _ (by decide)⟩
   refine⟨_,rfl,p,_,1,_,rfl,rfl,sq qa1,rfl,_,rfl,p,_,1,_,rfl,rfl,sq qa1,rfl,_,_,rfl,rfl,.inl ⟨?_,?_⟩,_,_,rfl,rfl,(by show (0:Int)<2147483563;decide),_,_,rfl,rfl,⟨by decide,by decide⟩,_,rfl,_,_,rfl,rfl,hn0,?_⟩
   ·show -(2^64)<(b*39373+2003)%2147483587
    lia
   ·show (b*39373+2003)%2147483587<2^64
    lia
   ·exact fin _ _ _ (Int.emod_nonneg _ (by lia)) (Int.emod_lt_of_pos _ hn0) ha m1.1 (by lia)
theorem scQuarter:FnScope ["_law_purse_here", "_law_may"] ["_law_purse_here", "_law_may"] (defScope lQuarter):=⟨rfl,rfl,rfl,by decide +kernel,rfl,by decide +kernel,by decide +kernel⟩
def spQuarter:Sp:=λvs H Q _=>∃(p m:Addr) (ms:List Nat),vs=[.ref p,.ref m]/\PurseAt H p/\H m=some (.lst (vN ms))/\ms≠[]/\ms.length<=1000/\m≠p/\∀(x:Nat) (H':Hp),(x<2\/x∈ms)->But p H H'->PurseAt H' p->Q (.int (x:Nat)) H'
theorem ok_quarter {f fD:Addr}{fd fdD:FuncData}(F:Fun K "_law_quarter" "_law_quarter" lQuarter f fd) (B:Blt mg) (hD:mg "_law_draw" = some (.ref fD)) (FD:Fun K "_law_draw" "_law_draw" lDraw fD fdD) (bD:Binds K fdD ["_law_purse_here", "_law_many"] []) :
  FnOk P w K mg base CX0 2 f fd ["_law_purse_here", "_law_may"] spQuarter:=by
 have GD:FnOk P w K mg base CX0 1 fD fdD ["_law_purse_here", "_law_many"] spDraw:=ok_draw FD
 refine F.ok scQuarter (λvs H Q E h=>?_) (λcdv A outer s H vs Q E hr h=>?_)
 ·obtain⟨p,m,ms,rfl,_⟩:=h
  rfl
 ·obtain⟨p,m,ms,rfl,hp,hm,hne,hml,hmp,q⟩:=h
  have hpos:0<ms.length:=List.length_pos_iff.mpr hne
  refine⟨_,pss_cons (ps_if (pt_cmpR op_eq (pe_call GD hr (by rfl) hD FD.kp bD .nil pass0 (qa0 (pv 0) (qa0 qa4 qa3))) qa4 (nomark _)) (pss_one (ps_ret (pe_call GD hr (by rfl) hD FD.kp bD .nil pass0 (qa0 (pv 0) (qa0 qa4 qa3))))) pss_nil)
   (pss_one (ps_ret (pe_ix ix_list (pv 1) (pe_call GD hr (by rfl) hD FD.kp bD .nil pass0 (qa0 (pv 0) (qa0 (pe_callB call_len_seq (by rfl) B.len PySem.boot_len (qa0 (pv 1) qa3)) qa3))) (λ_ _=>rfl)))),?_⟩
  refine⟨_,rfl,p,3,rfl,hp,by decide,by decide,λd H1 hd b1 hp1=>⟨rfl,_,rfl,?_⟩⟩
  refine ite2 (λhc=>?_) (λhc=>?_)
  ·exact⟨_,rfl,p,2,rfl,hp1,by decide,by decide,λd2 H2 hd2 b2 hp2=>q d2 H2 (.inl hd2) (b1.trans b2) hp2⟩
  ·have hm1:=b1 _ _ hm hmp
   refine⟨_,rfl,_,rfl,_,rfl,m,_,rfl,.inl (SqL.of hm1),p,ms.length,by rw[vN_len];rfl,hp1,hpos,by lia,λd2 H2 hd2 b2 hp2=>?_⟩
   have hm2:=b2 _ _ hm1 hmp
   have hg:ms[d2]?=some ms[d2]:=by simp[hd2]
   exact⟨m,_,(d2:Int),.int (ms[d2]:Nat),rfl,rfl,SqL.of hm2,vN_atI hg,q _ H2 (.inr (List.getElem_mem hd2)) (b1.trans b2) hp2⟩
theorem scLDeps:FnScope ["_law_rows_here", "_law_depths_here", "_law_row"] ["_law_rows_here"] (defScope lDeps):=⟨rfl,rfl,rfl,by decide +kernel,rfl,by decide +kernel,by decide +kernel⟩
theorem RowsL.s {H:Hp}{p:Addr}{rows:List Row}(h:RowsL H p rows):RowsS H p rows:=let ⟨bs,a,b,c⟩:=h;⟨bs,.inr a,b,c⟩
def spLDeps:Sp:=λvs H Q _=>∃(p:Addr) (rows:List Row),vs=[.ref p]/\RowsS H p rows/\RowsOk rows/\rows.length<=1190900/\∀H' D,Same H H'->H' D=some (.lst (vN (deps rows)))->Q (.ref D) H'
theorem ok_lDeps {f:Addr}{fd:FuncData}(F:Fun K "_law_depths" "_law_depths" lDeps f fd) (B:Blt mg):FnOk P w K mg base CX0 1 f fd ["_law_rows_here"] spLDeps:=by
 refine F.ok scLDeps (λvs H Q E h=>?_) (λcdv A outer s H vs Q E hr h=>?_)
 ·obtain⟨p,rows,rfl,_⟩:=h
  rfl
 ·obtain⟨p,rows,rfl,hR,ok,hn,q⟩:=h
  refine⟨_,pss_cons (ps_set (i:=1) scLDeps.nd rfl (by first|left;rfl|right;rfl) (pe_lst (qa0 qa4 (qa0 qa4 qa3))))
   (pss_cons (ps_for PassesOwn.never rfl (pi_seq (pv 0)) (pg_name (i:=2) scLDeps.nd rfl (by first|left;rfl|right;rfl))
    (pss_one (ps_expr (pe_bm PySem.F.plainAttrs_list PySem.F.slot_list_append PySem.F.type_list_append mt_append (pv 1) (qa0 (pe_op op_add qa4 (pe_callB (call_maxL rfl) (by rfl) B.max PyProof.Rows.boot_max
     (qa0 (pe_compB ["_law_rows_here", "_law_depths_here", "_law_row"] (defScope lDeps) rfl rfl rfl scLDeps.nd (pi_tup (pv 2)) (λcl C fp s₀ H₀=>pe_ix (ixL K rfl) (pv 2) (pv 0) (λ_ _=>rfl))) qa3))) qa3)))))
   (pss_one (ps_ret (pv 1)))),?_⟩
  refine⟨(by show 2<=sizeLine;decide),λD hD=>?_⟩
  obtain⟨bs,hp,hlen,hrow⟩:=id hR
  have hlb:(bs.map V.ref).length=rows.length:=by rw[List.length_map];exact hlen
  refine⟨_,rfl,p,rfl,for_seq2 (K:=K) (a:=p) (xs:=bs.map V.ref) (λi σ H2=>Same H H2/\H2 D=some (.lst (vN (deps (rows.take i))))/\∃v2,σ=[some (.ref p),some (.ref D),v2])
   (hp.elim (λh=>.inr λi σ H2 ⟨s2,_⟩=>SqT.of (s2 _ _ h)) (λh=>.inl λi σ H2 ⟨s2,_⟩=>SqL.of (s2 _ _ h)))
   ⟨sameU hD,qa1,none,rfl⟩ ?_ ?_⟩
  ·rintro i y σ H2 hy ⟨s2,hd2,v2,rfl⟩
   have hi:i<rows.length:=by rw[<- hlb];exact (gS_ hy).1
   rw[List.getElem?_map] at hy
   obtain⟨b,hb,rfl⟩:=Option.map_eq_some_iff.mp hy
   have hr1:rows[i]?=some rows[i]:=by simp[hi]
   have hbt:=s2 _ _ (hrow i b rows[i] hb hr1)
   have rk:=ok i _ hr1
   have tl:(rows.take i).length=i:=by rw[List.length_take];lia
   have hds:∀x,x<i+2->(deps (rows.take i))[x]?=some (dp (rows.take i) x):=λx hx=>dp_get (by rw[tl];exact hx)
   generalize rows[i]=r at hr1 hbt rk
   refine⟨_,rfl,.inl ⟨rfl,_,SqL.of hd2⟩,_,rfl,b,rfl,⟨_,SqT.of hbt⟩,λD2 hD2=>comp_walk hD2 (λj z _=>∃x,r[j]?=some x/\z=.int (dp (rows.take i) x:Nat)) (goes_tup (K:=K) hbt) (by rw[vN_len,rk.1];decide) (λ_ _ _ _ _ _ h=>h) ?_ ?_⟩
   ·intro j x H3 hj hx s3 Q' hq
    obtain⟨m,hm,rfl⟩:=vN_get hx
    have hlt:=rk.2 m (List.mem_of_getElem? hm)
    exact⟨_,rfl,_,rfl,D,_,(m:Int),.int (dp (rows.take i) m:Nat),rfl,rfl,SqL.of (s3 _ _ hd2),vN_atI (hds m hlt),hq _ _ (Same.refl _) ⟨m,hm,rfl⟩⟩
   ·intro ys H3 s3 hd3 hly hys
    have ey:ys=(r.map (dp (rows.take i))).map (λn:Nat=>V.int (n:Int)):=by
     refine list_ext (by rw[hly,vN_len,List.length_map,List.length_map]) λj x hx=>?_
     obtain⟨m,hm,rfl⟩:=hys j x hx
     rw[List.getElem?_map,List.getElem?_map,hm];rfl
    have e2:ys=((r.map (dp (rows.take i))).map (λn:Nat=>(n:Int))).map V.int:=ey.trans (vN_int _)
    have hne:r.map (dp (rows.take i))≠[]:=λz=>by
     have:=congrArg List.length z
     rw[List.length_map,rk.1] at this
     cases this
    refine⟨D2,(r.map (dp (rows.take i))).map (λn:Nat=>(n:Int)),rfl,e2▸hd3,λz=>hne (List.map_eq_nil_iff.mp z),_,_,rfl,rfl,?_⟩
    rw[best_all hne]
    have hd4:=s3 _ _ hd2
    refine⟨D,_,_,rfl,rfl,hd4,?_,?_⟩
    ·rw[vN_len,deps_len,tl];exact smallM (by lia)
    ·have nD:∀b o,H b=some o->b≠D:=λb o e=>qa2 e hD
     refine⟨λb o e=>by rw[upd_ne (nD b o e)];exact s3 _ _ (s2 _ _ e),?_,_,rfl⟩
     rw[qa1,deps_take hr1]
     unfold vN
     rw[List.map_append]
     rfl
  ·rintro σ H2 ⟨s2,hd2,v2,rfl⟩
   refine⟨_,rfl,q H2 D s2 ?_⟩
   rw[hlb,List.take_length] at hd2
   exact hd2
end
end Pr
namespace Qf
theorem rows_grow {rows:List Row}{n:Nat}{r:Row}(ok:RowsOk rows) (hd:∀x,x<rows.length+2->dp rows x<=n) (h4:r.length=4) (hr:∀x∈r,x<rows.length+2/\dp rows x<n) :
  RowsOk (rows++[r])/\∀x,x<(rows++[r]).length+2->dp (rows++[r]) x<=n:=by
 constructor
 ·intro p r0 hp
  by_cases h:p<rows.length
  ·rw[List.getElem?_append_left h] at hp
   exact ok p r0 hp
  ·rw[List.getElem?_append_right (by lia)] at hp
   have:p-rows.length=0:=by
    have:=(gS_ hp).1
    simp at this
    lia
   rw[this] at hp
   have e:r0=r:=by simpa using hp.symm
   subst e
   exact⟨h4,λx hx=>by have:=(hr x hx).1;lia⟩
 ·intro x hx
  rw[List.length_append] at hx
  have hx:x<rows.length+1+2:=hx
  by_cases h:x<rows.length+2
  ·rw[dp_snoc_lt h];exact hd x h
  ·have e:x=rows.length+2:=by lia
   subst e
   rw[dp_snoc_at]
   have hne:r≠[]:=λz=>by rw[z] at h4;cases h4
   obtain⟨a,ha⟩:=List.exists_mem_of_ne_nil r hne
   have h1:mx (r.map (dp rows))<=n-1:=mx_le λy hy=>by
    obtain⟨q,hq,rfl⟩:=List.mem_map.mp hy
    have:=(hr q hq).2
    lia
   have:=(hr a ha).2
   lia
end Qf
namespace Pr
open PySem L2 Qf
section
variable {P:Program}{w:World}{K:PySem.W.Frag}{mg:Str->Option Value}{base:Heap}
abbrev nRows:List Str:=["_law_purse_here", "_law_n", "_law_most", "_law_begun", "_law_rows_here", "_law_k", "_law_depths_here", "_law_may"]
theorem scLRows:FnScope nRows ["_law_purse_here", "_law_n", "_law_most", "_law_begun"] (defScope lRows):=⟨rfl,rfl,rfl,by decide +kernel,rfl,by decide +kernel,by decide +kernel⟩
def spLRows:Sp:=λvs H Q _=>∃(p b0:Addr) (n most:Nat) (rows0:List Row),vs=[.ref p,.int (n:Nat),.int (most:Nat),.ref b0]/\PurseAt H p/\RowsL H b0 rows0/\b0≠p/\RowsOk rows0/\(∀x,x<rows0.length+2->dp rows0 x<=n)/\rows0.length<=100/\most<=100/\n<=12 /\
 ∀(H':Hp) (l:Addr) (rows:List Row),But p H H'->PurseAt H' p->H l=none->RowsL H' l rows->RowsOk rows->(∀x,x<rows.length+2->dp rows x<=n)->rows.length<=rows0.length+most->Q (.ref l) H'
theorem ok_lRows {f fD fQ fX:Addr}{fd fdD fdQ fdX:FuncData}(F:Fun K "_law_rows" "_law_rows" lRows f fd) (B:Blt mg)
  (hD:mg "_law_draw" = some (.ref fD)) (FD:Fun K "_law_draw" "_law_draw" lDraw fD fdD) (bD:Binds K fdD ["_law_purse_here", "_law_many"] [])
  (hQ:mg "_law_quarter" = some (.ref fQ)) (FQ:Fun K "_law_quarter" "_law_quarter" lQuarter fQ fdQ) (bQ:Binds K fdQ ["_law_purse_here", "_law_may"] [])
  (hX:mg "_law_depths" = some (.ref fX)) (FX:Fun K "_law_depths" "_law_depths" lDeps fX fdX) (bX:Binds K fdX ["_law_rows_here"] []):FnOk P w K mg base CX0 3 f fd ["_law_purse_here", "_law_n", "_law_most", "_law_begun"] spLRows:=by
 have GD:FnOk P w K mg base CX0 1 fD fdD ["_law_purse_here", "_law_many"] spDraw:=ok_draw FD
 have GQ:FnOk P w K mg base CX0 2 fQ fdQ ["_law_purse_here", "_law_may"] spQuarter:=ok_quarter FQ B hD FD bD
 have GX:FnOk P w K mg base CX0 1 fX fdX ["_law_rows_here"] spLDeps:=ok_lDeps FX B
 refine F.ok scLRows (λvs H Q E h=>?_) (λcdv A outer s H vs Q E hr h=>?_)
 ·obtain⟨p,b0,n,most,rows0,rfl,_⟩:=h
  rfl
 ·obtain⟨p,b0,n,most,rows0,rfl,hp,hB,hbp,ok0,hd0,hl0,hm,hn,q⟩:=h
  have hr1:Room 1 _:=hr.mono (by decide)
  refine⟨_,pss_cons (ps_set (i:=4) scLRows.nd rfl (by first|left;rfl|right;rfl) (pe_callTy call_list_of (by rfl) B.list PyProof.Rows.boot_list (qa0 (pv 3) qa3)))
   (pss_cons (ps_for PassesOwn.never rfl (pi_range1 (by rfl) B.range (qa0 (pe_op op_mul (pe_call GD hr1 (by rfl) hD FD.kp bD .nil pass0 (qa0 (pv 0) (qa0 (pe_op op_add (pv 2) qa4) qa3)))
     (pe_callTy call_int1 (by rfl) B.int PyProof.Rows.boot_int (qa0 (pe_cmpR op_gt (pv 1) qa4 (nomark _)) qa3))) qa3)) (pg_name (i:=5) scLRows.nd rfl (by first|left;rfl|right;rfl))
    (pss_cons (ps_set (i:=6) scLRows.nd rfl (by first|left;rfl|right;rfl) (pe_call GX hr1 (by rfl) hX FX.kp bX .nil pass0 (qa0 (pv 4) qa3)))
    (pss_cons (ps_set (i:=7) scLRows.nd rfl (by first|left;rfl|right;rfl) (pe_compIf nRows (defScope lRows) rfl rfl rfl scLRows.nd (pi_range1 (by rfl) B.range (qa0 (pe_callB call_len_seq (by rfl) B.len PySem.boot_len (qa0 (pv 6) qa3)) qa3))
     (λcl C fp s₀ H₀=>pt_cmpR op_lt (pe_ix (ixL K rfl) (pv 7) (pv 0) (λ_ _=>rfl)) (pv 2) (nomark _)) (λcl C fp s₀ H₀=>pv 0)))
    (pss_one (ps_expr (pe_bm PySem.F.plainAttrs_list PySem.F.slot_list_append PySem.F.type_list_append mt_append (pv 4) (qa0 (pe_callTy call_tuple_of (by rfl) B.tuple PyProof.Rows.boot_tuple (qa0
     (pe_compB nRows (defScope lRows) rfl rfl rfl scLRows.nd (pi_range1 (by rfl) B.range (qa0 qa4 qa3)) (λcl C fp s₀ H₀=>pe_call GQ hr (by rfl) hQ FQ.kp bQ .nil pass0 (qa0 (pv 1) (qa0 (pv 8) qa3)))) qa3)) qa3)))))))
   (pss_one (ps_ret (pv 4)))),?_⟩
  obtain⟨bs0,hb0,hlen0,hrow0⟩:=id hB
  refine⟨_,rfl,b0,_,rfl,.inl (SqL.of hb0),λl hl=>?_⟩
  have sl:Same H (upd H l (.lst (bs0.map V.ref))):=sameU hl
  have npl:p≠l:=by obtain⟨a,b,e,_⟩:=hp;exact qa2 e hl
  refine⟨_,rfl,_,rfl,_,_,rfl,rfl,p,most+1,rfl,hp.same sl,by lia,by lia,λd H1 hd b1 hp1=>?_⟩
  refine⟨_,rfl,_,_,rfl,rfl,.inr ⟨_,rfl,_,_,rfl,rfl,.inr ?_,?_⟩⟩
  ·constructor<;>split<;>decide
  ·have hcnt:(d:Int)*(if decide ((0:Int)<(n:Int))=true then 1 else 0)<=d:=by split<;>lia
   have hcnt0:0<=(d:Int)*(if decide ((0:Int)<(n:Int))=true then 1 else 0):=by split<;>lia
   refine⟨_,rfl,by lia,by lia,for_range (lo:=0) (n:=((d:Int)*(if decide ((0:Int)<(n:Int))=true then 1 else 0)).toNat) (λi σ H2=>∃(rows:List Row) (v5 v6 v7:Option V),σ=[some (.ref p),some (.int (n:Nat)),some (.int (most:Nat)),some (.ref b0),some (.ref l),v5,v6,v7]/\But p H H2/\PurseAt H2 p/\RowsL H2 l rows/\RowsOk rows/\(∀x,x<rows.length+2->dp rows x<=n)/\rows.length<=rows0.length+i) ?_ ?_ ?_⟩
   ·refine⟨rows0,none,none,none,rfl,(But.of sl).trans b1,hp1,⟨bs0,b1 _ _ qa1 (Ne.symm npl),hlen0,λi b r e1 e2=>b1 _ _ (keepU (hrow0 i b r e1 e2) hl) ?_⟩,ok0,hd0,by lia⟩
    intro z
    subst z
    obtain⟨a,c,e,_⟩:=hp
    have:=hrow0 i b r e1 e2
    rw[this] at e
    cases e
   ·rintro i σ H2 hi ⟨rows,v5,v6,v7,rfl,b2,hp2,hR2,ok2,hd2,hl2⟩
    have npos:0<n:=by
     by_cases z:0<n
     ·exact z
     ·rw[decide_eq_false (by lia)] at hi
      simp at hi
    have hi':i<d:=by lia
    refine⟨_,rfl,l,rows,rfl,hR2.s,ok2,by lia,λH3 D s3 hd3=>?_⟩
    refine⟨_,rfl,D,_,rfl,.inl (SqL.of hd3),_,rfl,by lia,(by rw[vN_len,deps_len];lia),λD2 hD2=>compG_walk hD2 (λi=>decide (dp rows i<n)) (λi=>.int (i:Nat)) goes_rng (by rw[vN_len,deps_len];exact smallM (by lia)) ?_ ?_⟩
    ·rintro j x H4 hj rfl s4 os ho Q1 Q2 q1 q2
     match os,ho with
     |[o1],_=>
      have hj2:j<rows.length+2:=by
       rw[vN_len,deps_len] at hj
       lia
      refine⟨_,rfl,_,rfl,D,_,(j:Int),.int (dp rows j:Nat),rfl,rfl,SqL.of (s4 _ _ hd3),vN_atI (dp_get hj2),_,rfl,_,_,rfl,rfl,_,rfl,?_⟩
      have e:decide (((dp rows j:Nat):Int)<(n:Int))=decide (dp rows j<n):=by
       congr 1
       exact propext ⟨λz=>by lia,λz=>by lia⟩
      rw[e]
      refine ite2 (λhc=>?_) (λhc=>?_)
      ·exact⟨_,rfl,q2 hc H4 (Same.refl _)⟩
      ·exact q1 (Bool.eq_false_iff.mpr hc) H4 (Same.refl _)
    ·intro H4 s4 hd4
     have ems:(((List.range ((vN (deps rows)).length:Int).toNat).filter λi=>decide (dp rows i<n)).map λi=>V.int (i:Nat))=vN ((List.range (rows.length+2)).filter λi=>decide (dp rows i<n)):=by
      rw[vN_len,deps_len,Int.toNat_natCast];rfl
     rw[ems] at hd4
     generalize hms:(List.range (rows.length+2)).filter (λi=>decide (dp rows i<n))=ms at hd4
     have hin:∀x∈ms,x<rows.length+2/\dp rows x<n:=λx hx=>by
      rw[<- hms] at hx
      obtain⟨h1,h2⟩:=List.mem_filter.mp hx
      exact⟨List.mem_range.mp h1,of_decide_eq_true h2⟩
     have h0m:0∈ms:=by
      rw[<- hms]
      refine List.mem_filter.mpr ⟨List.mem_range.mpr (by lia),decide_eq_true ?_⟩
      rw[dp_low (by decide)];exact npos
     have hmsl:ms.length<=rows.length+2:=by
      rw[<- hms]
      exact Nat.le_trans (List.length_filter_le _ _) (by simp)
     have hp4:=(hp2.same s3).same s4
     have hR4:=(hR2.same s3).same s4
     have nD2:D2≠p:=by
      obtain⟨a,b,e,_⟩:=hp2.same s3
      exact (qa2 e hD2).symm
     obtain⟨bs,hlb,hlen,hrow⟩:=id hR4
     refine⟨_,rfl,.inl ⟨rfl,_,SqL.of hlb⟩,_,rfl,by decide,by decide,λD3 hD3=>?_⟩
     have npD3:p≠D3:=by obtain⟨a,b,e,_⟩:=hp4;exact qa2 e hD3
     refine comp_rngB (p:=p) hD3 npD3 (λH5=>PurseAt H5 p) (λ_ y=>∃x:Nat,y=.int (x:Nat)/\(x<2\/x∈ms)) (by decide) (λH5 o ⟨a,b,e,r⟩=>⟨a,b,by rw[upd_ne npD3];exact e,r⟩) hp4 ?_ ?_
     ·intro j H5 hj b5 i5 Q' hq
      refine⟨_,rfl,_,rfl,p,D2,ms,rfl,i5,b5 _ _ hd4 nD2,(λz=>by rw[z] at h0m;cases h0m),by lia,nD2,λx H6 hx b6 hp6=>hq _ _ b6 hp6 ⟨x,rfl,hx⟩⟩
     ·intro ys H5 b5 i5 hd5 hly hys
      obtain⟨r,rfl,hrr⟩:=nats_of hys
      rw[vN_len] at hly
      have hr4:r.length=4:=hly
      refine⟨D3,_,rfl,.inl ⟨SqL.of hd5,λt ht=>?_⟩⟩
      have nlp:l≠p:=Ne.symm npl
      have nbp:∀b∈bs,b≠p:=λb hb z=>by
       obtain⟨j,hj,e⟩:=List.mem_iff_getElem.mp hb
       obtain⟨a,c,ep,_⟩:=hp4
       have:=hrow j b (rows[j]'(by lia)) (by simp[hj,e]) (by simp[show j<rows.length by lia])
       rw[z,ep] at this
       cases this
      have hl6:=keepU (u:=.tup (vN r)) (b5 _ _ hlb nlp) ht
      refine⟨l,_,.ref t,rfl,rfl,hl6,by rw[List.length_map,hlen];exact smallM (by lia),?_⟩
      have ntl:t≠l:=(qa2 (b5 _ _ hlb nlp) ht).symm
      obtain⟨g1,g2⟩:=rows_grow ok2 hd2 hr4 λx hx=>by
       rcases hrr x hx with z|z
       ·exact⟨by lia,by rw[dp_low z];exact npos⟩
       ·exact hin x z
      have BB:∀b o,H b=some o->b≠p->upd (upd H5 t (.tup (vN r))) l (.lst (bs.map V.ref++[.ref t])) b=some o:=λb o e nb=>by
       rw[upd_ne (qa2 e hl)]
       exact keepU (b5 _ _ (s4 _ _ (s3 _ _ (b2 _ _ e nb))) nb) ht
      refine⟨rows++[r],_,_,_,rfl,BB,?_,⟨bs++[t],?_,?_,?_⟩,g1,g2,by rw[List.length_append];show rows.length+1<=_;lia⟩
      ·obtain⟨a,b,e,rr⟩:=i5
       exact⟨a,b,by rw[upd_ne npl];exact keepU e ht,rr⟩
      ·rw[qa1,List.map_append];rfl
      ·rw[List.length_append,List.length_append,hlen];rfl
      ·intro j b r0 e1 e2
       by_cases hj:j<rows.length
       ·rw[List.getElem?_append_left (by lia)] at e1
        rw[List.getElem?_append_left hj] at e2
        have hb:=hrow j b r0 e1 e2
        have nbl:b≠l:=λz=>by rw[z,hlb] at hb;cases hb
        rw[upd_ne nbl]
        exact keepU (b5 _ _ hb (nbp b (List.mem_of_getElem? e1))) ht
       ·rw[List.getElem?_append_right (by lia)] at e1
        rw[List.getElem?_append_right (by lia)] at e2
        have:j-rows.length=0:=by
         have:=(gS_ e2).1
         simp at this
         lia
        rw[this] at e2
        rw[hlen,this] at e1
        have eb:b=t:=by simpa using e1.symm
        have er:r0=r:=by simpa using e2.symm
        rw[eb,er,upd_ne ntl,qa1]
   ·rintro σ H2 ⟨rows,v5,v6,v7,rfl,b2,hp2,hR2,ok2,hd2,hl2⟩
    exact⟨_,rfl,q H2 l rows b2 hp2 hl hR2 ok2 hd2 (by lia)⟩
theorem scEnds:FnScope ["_law_number", "_law_kept", "_law_found", "_law_quarter_here"] ["_law_number", "_law_kept", "_law_found"] (defScope lEnds):=⟨rfl,rfl,rfl,by decide +kernel,rfl,by decide +kernel,by decide +kernel⟩
def spEnds (d:Nat):Sp:=λvs H Q _=>∃(kp e:Addr) (x:Nat) (ks:List Row) (es:List Nat),vs=[.int (x:Nat),.ref kp,.ref e]/\RowsL H kp ks/\kp≠e/\2<=ks.length/\RowsOk (ks.drop 2)/\ks.length<=1190900/\x<ks.length/\dp (ks.drop 2) x<=d/\Post (ks.drop 2) es /\
 H e=some (.dK (fK es))/\∀H',But e H H'->H' e=some (.dK (fK (dfs (ks.drop 2) d es x)))->Q .non H'
theorem ok_ends {f:Addr}{fd:FuncData}(F:Fun K "_law_ends" "_law_ends" lEnds f fd) (B:Blt mg) (hE:mg "_law_ends" = some (.ref f)) (bE:Binds K fd ["_law_number", "_law_kept", "_law_found"] []):∀d,FnOk P w K mg base CX0 (d+1) f fd ["_law_number", "_law_kept", "_law_found"] (spEnds d):=by
 intro d
 induction d with
 |zero=>
  refine F.ok scEnds (λvs H Q E h=>?_) (λcdv A outer s H vs Q E hr h=>?_)
  ·obtain⟨kp,e,x,ks,es,rfl,_⟩:=h
   rfl
  ·obtain⟨kp,e,x,ks,es,rfl,hR,hke,h2,ok,hn,hx,hd,pe,he,q⟩:=h
   have hu:A.units+3+1<cLine:=by
    have h2:A.units+3+16*0+200<cLine:=hr.un
    lia
   have x2:=dp_pos ok (by rw[List.length_drop];lia) hd
   refine⟨_,pss_one (ps_if (PW.pt (pw_and (pt_cmpR op_gt (pv 0) qa4 (nomark _)) (pw_and1 (pt_cmp (pc_dnotin hu (pv 0) (pv 2)))))) pss_never pss_nil),?_⟩
   refine⟨_,rfl,_,_,rfl,rfl,_,rfl,?_⟩
   rw[decide_eq_false (show ¬(1:Int)<(x:Int) by lia)]
   exact iteF (iteF (q H (But.refl e H) he))
 |succ d ih=>
  refine F.ok scEnds (λvs H Q E h=>?_) (λcdv A outer s H vs Q E hr h=>?_)
  ·obtain⟨kp,e,x,ks,es,rfl,_⟩:=h
   rfl
  ·obtain⟨kp,e,x,ks,es,rfl,hR,hke,h2,ok,hn,hx,hd,pe,he,q⟩:=h
   have hu:A.units+3+1<cLine:=by
    have h2:A.units+3+16*(d+1)+200<cLine:=hr.un
    lia
   refine⟨_,pss_one (ps_if (PW.pt (pw_and (pt_cmpR op_gt (pv 0) qa4 (nomark _)) (pw_and1 (pt_cmp (pc_dnotin hu (pv 0) (pv 2))))))
    (pss_cons (ps_for PassesOwn.never rfl (pi_tup (pe_ix ix_list (pv 1) (pv 0) (λ_ _=>rfl))) (pg_name (i:=3) scEnds.nd rfl (Or.inl rfl))
     (pss_one (ps_expr (pe_call ih hr (by rfl) hE F.kp bE .nil pass0 (qa0 (pv 3) (qa0 (pv 1) (qa0 (pv 2) qa3)))))))
    (pss_one (ps_dput hu (pv 2) (pv 0) (pe_op op_add (pe_callB call_lenD (by rfl) B.len PySem.boot_len (qa0 (pv 2) qa3)) qa4) (by rfl)))) pss_nil),?_⟩
   refine⟨_,rfl,_,_,rfl,rfl,_,rfl,?_⟩
   have hx':x<(ks.drop 2).length+2:=by rw[List.length_drop];lia
   have uf:dfs (ks.drop 2) (d+1) es x=if x<2\/x-2∈es then es else ((ks.drop 2).getD (x-2) []).foldl (dfs (ks.drop 2) d) es++[x-2]:=rfl
   refine ite2 (λhc=>?_) (λhc=>?_)
   ·have x2:¬x<2:=λz=>by have:=of_decide_eq_true hc;lia
    have ek:(Sum.inl (x:Int):Key)=fKey (x-2):=by
     show (Sum.inl (x:Int):Key)=Sum.inl ((x-2+2:Nat):Int)
     rw[show x-2+2=x by lia]
    have dg:DGet H e (.int (x:Int)) (valV (fK es) (Sum.inl (x:Int))):=DGet.k (k:=Sum.inl (x:Int)) he
    refine⟨_,rfl,_,rfl,e,_,rfl,dg,_,rfl,?_⟩
    unfold fK
    rw[ek,tabl_val fKey_inj]
    by_cases hm:x-2∈es
    ·rw[if_pos hm]
     rw[uf,if_pos (.inr hm)] at q
     exact iteF (q H (But.refl e H) he)
    ·rw[if_neg hm]
     rw[uf,if_neg (by rintro (z|z);exact x2 z;exact hm z)] at q
     refine iteT ?_
     have hlt:x-2<(ks.drop 2).length:=by lia
     have hg:=getD_at hlt
     have eg0:(ks.drop 2).getD (x-2) []=(ks.drop 2).getD (x-2) []:=rfl
     generalize hr0:(ks.drop 2).getD (x-2) []=r at q hg
     have hgk:ks[x]?=some r:=by
      rw[List.getElem?_drop,show 2+(x-2)=x by lia] at hg
      exact hg
     obtain⟨bs,hkp,hlen,hrow⟩:=id hR
     have hdx:dp (ks.drop 2) (x-2+2)<=d+1:=by rw[show x-2+2=x by lia];exact hd
     have hbx:bs[x]?=some (bs[x]'(by lia)):=by simp[show x<bs.length by lia]
     have hbt:=hrow x _ r hbx hgk
     refine⟨_,rfl,_,rfl,kp,_,(x:Int),.ref (bs[x]'(by lia)),rfl,rfl,SqL.of hkp,atI_nat (by rw[List.getElem?_map,hbx];rfl),_,rfl,⟨_,SqT.of hbt⟩,
      for_tup (K:=K) (xs:=vN r) (λi σ H2=>But e H H2/\H2 e=some (.dK (fK ((r.take i).foldl (dfs (ks.drop 2) d) es)))/\∃v3,σ=[some (.int (x:Nat)),some (.ref kp),some (.ref e),v3])
      ⟨But.refl e H,he,none,rfl⟩ (λi σ H2 _ ⟨s2,_⟩=>SqT.of (s2.tups he (λu z=>by cases z) _ _ hbt)) ?_ ?_⟩
     ·rintro i y σ H2 hy ⟨s2,he2,v3,rfl⟩
      obtain⟨m,hm',rfl⟩:=vN_get hy
      obtain⟨b1,b2⟩:=dp_quarter ok hg hdx (List.mem_of_getElem? hm')
      refine⟨_,rfl,_,rfl,_,rfl,kp,e,m,ks,(r.take i).foldl (dfs (ks.drop 2) d) es,rfl,hR.but s2 hke he (λu z=>by cases z),hke,h2,ok,hn,by rw[List.length_drop] at b1;lia,b2,fold_post ok hg hdx _ es (λz hz=>List.mem_of_mem_take hz) pe,he2,λH3 s3 he3=>⟨s2.trans s3,?_,_,rfl⟩⟩
      have hml:=(gS_ hm').1
      have hme:=(gS_ hm').2
      rw[<- List.take_append_getElem hml,List.foldl_append,hme]
      exact he3
     ·rintro σ H2 ⟨s2,he2,v3,rfl⟩
      rw[vN_len,List.take_length] at he2
      have pf:=fold_post ok hg hdx r es (λz hz=>hz) pe
      have fin:=(dfs_post ok (d+1) es x pe hx' hd).1
      rw[uf,if_neg (by rintro (z|z);exact x2 z;exact hm z),hr0] at fin
      have hni:x-2∉r.foldl (dfs (ks.drop 2) d) es:=λz=>(List.nodup_append.mp fin.nd).2.2 (x-2) z (x-2) (by simp) rfl
      have hpl:=post_len pf
      rw[List.length_drop] at hpl
      have el:((fK (r.foldl (dfs (ks.drop 2) d) es)).length:Int)+2=((2+(r.foldl (dfs (ks.drop 2) d) es).length:Nat):Int):=by
       unfold fK
       rw[tabl_len]
       lia
      have dq:DPut H2 e (.int (x:Int)) (.int (((fK (r.foldl (dfs (ks.drop 2) d) es)).length:Int)+2)) (upd H2 e (.dK (fK (r.foldl (dfs (ks.drop 2) d) es++[x-2])))):=by
       rw[el]
       have ep:fK (r.foldl (dfs (ks.drop 2) d) es++[x-2])=putK (fK (r.foldl (dfs (ks.drop 2) d) es)) (Sum.inl (x:Int)) (.int (2+(r.foldl (dfs (ks.drop 2) d) es).length:Nat)):=by
        rw[ek]
        exact (tabl_put fKey_inj hni).symm
       rw[ep]
       refine DPut.k (k:=Sum.inl (x:Int)) he2 ?_
       unfold fK
       rw[tabl_len]
       exact smallM (by lia)
      exact⟨_,rfl,e,_,rfl,he2,_,_,rfl,rfl,_,rfl,_,rfl,e,_,rfl,dq,q _ (s2.trans But.upd) qa1⟩
   ·have x2:x<2:=by
     by_cases z:x<2
     ·exact z
     ·exact absurd (decide_eq_true (show (1:Int)<(x:Int) by lia)) hc
    rw[uf,if_pos (.inl x2)] at q
    exact iteF (q H (But.refl e H) he)
end
end Pr
namespace Qf
theorem mg_take {rows:List Row}{i:Nat}{r:Row}(h:rows[i]?=some r):mg (rows.take (i+1))=mgStep (mg (rows.take i)) r:=by
 have hl:=(gS_ h).1
 have he:=(gS_ h).2
 rw[<- mg_snoc,<- he,List.take_append_getElem hl]
theorem ok_take {rows:List Row}(ok:RowsOk rows) (i:Nat):RowsOk (rows.take i):=λp r hp=>by
 rw[List.getElem?_take] at hp
 split at hp
 ·exact ok p r hp
 ·cases hp
theorem mg_len (rows:List Row):(mg rows).2.length<=rows.length+2:=by
 induction rows using snoc_ind with
 |h0=>decide
 |h1 l r ih=>
  rw[mg_snoc,List.length_append]
  show (mgK (mg l).2 _).length<=_
  unfold mgK
  split
  ·simp;lia
  ·rw[List.length_append];simp;lia
end Qf
namespace Pr
open PySem L2 Qf
abbrev nShape:List Str:=["_law_n", "_law_top", "_law_rows_here", "_law_here", "_law_known", "_law_row", "_law_look", "_law_kept", "_law_found", "_law_names", "_law_told"]
abbrev nShapeN:List Str:=["_law_number", "_law_n", "_law_top", "_law_rows_here", "_law_here", "_law_known", "_law_row", "_law_look", "_law_kept", "_law_found", "_law_names", "_law_told"]
theorem nd_shapeN:nShapeN.Nodup:=by decide +kernel
section
variable {P:Program}{w:World}{K:PySem.W.Frag}{mg:Str->Option Value}{base:Heap}
theorem scLShape:FnScope nShape ["_law_n", "_law_top", "_law_rows_here"] (defScope lShape):=⟨rfl,rfl,rfl,by decide +kernel,rfl,by decide +kernel,by decide +kernel⟩
def spLShape:Sp:=λvs H Q _=>∃(rp:Addr) (n tp:Nat) (rows:List Row),vs=[.int (n:Nat),.int (tp:Nat),.ref rp]/\RowsS H rp rows/\RowsOk rows/\rows.length<=1190890/\n<=12/\tp<rows.length+2/\dp rows tp<=n /\
 ∀(H':Hp) (t:Addr),Same H H'->ShapeB H' t n (nm (dfs (mgRows rows) n [] (mgTop rows tp)) (mgTop rows tp)) (told (mgRows rows) (dfs (mgRows rows) n [] (mgTop rows tp)))->(told (mgRows rows) (dfs (mgRows rows) n [] (mgTop rows tp))).length<=rows.length->Q (.ref t) H'
theorem ok_lShape {f fE:Addr}{fd fdE:FuncData}(F:Fun K "_law_shape" "_law_shape" lShape f fd) (B:Blt mg) (hE:mg "_law_ends" = some (.ref fE)) (FE:Fun K "_law_ends" "_law_ends" lEnds fE fdE) (bE:Binds K fdE ["_law_number", "_law_kept", "_law_found"] []) :
  FnOk P w K mg base CX0 14 f fd ["_law_n", "_law_top", "_law_rows_here"] spLShape:=by
 have GE:∀d,FnOk P w K mg base CX0 (d+1) fE fdE ["_law_number", "_law_kept", "_law_found"] (spEnds d):=ok_ends FE B hE bE
 refine F.ok scLShape (λvs H Q E h=>?_) (λcdv A outer s H vs Q E hr h=>?_)
 ·obtain⟨rp,n,tp,rows,rfl,_⟩:=h
  rfl
 ·obtain⟨rp,n,tp,rows,rfl,hR,ok,hl,hn,htp,hd,q⟩:=h
  have hu:A.units+3+1<cLine:=by
   have h2:A.units+3+16*13+200<cLine:=hr.un
   lia
  have hu0:A.units+3<cLine:=by lia
  have hrE:Room (n+1) _:=hr.mono (by lia)
  refine seqE ⟨_,⟨ps_set (i:=3) scLShape.nd rfl (by first|left;rfl|right;rfl) (pe_lst (qa0 qa4 (qa0 qa4 qa3)))⟩,?_⟩
  refine seqE ⟨_,ps_setb (i:=4) scLShape.nd rfl (by first|left;rfl|right;rfl) (two_fours hu0) rfl rfl,?_⟩
  refine seqE ⟨_,⟨ps_for PassesOwn.never rfl (pi_seq (pv 2)) (pg_name (i:=5) scLShape.nd rfl (by first|left;rfl|right;rfl)) (StB.go (.cons
    ⟨ps_set (i:=6) scLShape.nd rfl (by first|left;rfl|right;rfl) (pe_callTy call_tuple_of (by rfl) B.tuple PyProof.Rows.boot_tuple (qa0 (pe_compB nShape (defScope lShape) rfl rfl rfl scLShape.nd (pi_tup (pv 5)) (λcl C fp s₀ H₀=>pe_ix (ixL K rfl) (pv 4) (pv 0) (λ_ _=>rfl))) qa3))⟩
    (.one ⟨ps_expr (PEb.go (pe_bmb PySem.F.plainAttrs_list PySem.F.slot_list_append PySem.F.type_list_append mt_append ⟨pv 3⟩ (.cons
     (pe_bmb PySem.F.plainAttrs_dict PySem.F.slot_dict_setdefault PySem.F.type_dict_setdefault (mt_setdefault hu) ⟨pv 4⟩ (.cons ⟨pv 6⟩ (.cons ⟨pe_callB call_lenT (by rfl) B.len PySem.boot_len (qa0 (pv 4) qa3)⟩ .nil rfl) rfl)) .nil rfl)))⟩)))⟩,?_⟩
  refine seqE ⟨_,⟨ps_set (i:=7) scLShape.nd rfl (by first|left;rfl|right;rfl) (pe_callTy (call_listT rfl) (by rfl) B.list PyProof.Rows.boot_list (qa0 (pv 4) qa3))⟩,?_⟩
  refine seqE ⟨_,⟨ps_set (i:=8) scLShape.nd rfl (by first|left;rfl|right;rfl) (pe_dict0)⟩,?_⟩
  refine seqE ⟨_,⟨ps_expr (pe_call (GE n) hrE (by rfl) hE FE.kp bE .nil pass0 (qa0 (pe_ix ix_list (pv 3) (pv 1) (λ_ _=>rfl)) (qa0 (pv 7) (qa0 (pv 8) qa3))))⟩,?_⟩
  refine seqE ⟨_,ps_setb (i:=9) scLShape.nd rfl (by first|left;rfl|right;rfl) (pe_disps (.cons pe_intb pe_intb (.cons pe_intb pe_intb .nil)) rfl rfl (λz=>nomatch z) (by decide)) rfl rfl,?_⟩
  refine seqE ⟨_,⟨ps_expr (pe_bm PySem.F.plainAttrs_dict PySem.F.slot_dict_update PySem.F.type_dict_update mt_update (pv 9) (qa0 (pv 8) qa3))⟩,?_⟩
  refine seqE ⟨_,⟨ps_setC (i0:=10) nShape (defScope lShape) rfl rfl rfl scLShape.nd rfl rfl (pi_keys (pv 8)) (λcl C fp s₀ H₀=>PEb.go ⟨pe_callTy (tupO K rfl) (by rfl) B.tuple PyProof.Rows.boot_tuple (qa0 (pe_compB nShapeN _ rfl rfl rfl nd_shapeN (piT K rfl (pe_ix (ixL K rfl) (pv 8) (pv 0) (λ_ _=>rfl))) (λcl2 C2 fp2 s2 H2=>pe_dget hu (pv 11) (pv 0) (λ_ _=>rfl)) (hfr:=by rfl)) qa3)⟩)⟩,?_⟩
  refine lastE ⟨_,⟨ps_ret (pe_tup (Ars2.go (.cons ⟨pv 0⟩ (.cons ⟨pe_dget hu (pv 9) (pe_ix ix_list (pv 3) (pv 1) (λ_ _=>rfl)) (λ_ _=>rfl)⟩ (.cons ⟨pe_callTy call_tuple_of (by rfl) B.tuple PyProof.Rows.boot_tuple (qa0 (pv 10) qa3)⟩ .nil rfl) rfl) rfl)))⟩,?_⟩
  obtain⟨bs,hp,hlen,hrow⟩:=id hR
  have hlb:(bs.map V.ref).length=rows.length:=by rw[List.length_map];exact hlen
  refine⟨(by show 2<=sizeLine;decide),λD hD=>?_⟩
  have sD:Same H (upd H D (.lst [.int 0,.int 1])):=sameU hD
  refine λk hk=>⟨(by show 4<=sizeLine;decide),λa ha=>⟨(by show 4<=sizeLine;decide),λb hb=>?_⟩⟩
  have nDk:D≠k:=qa2 qa1 hk
  have hkH:H k=none:=by
   cases e:H k with
   |none=>rfl
   |some o=>rw[sD _ _ e] at hk;cases hk
  have nka:k≠a:=qa2 qa1 ha
  have hb1:upd (upd (upd H D (.lst [.int 0,.int 1])) k (.dT [])) a (.tup [.int 0,.int 0,.int 0,.int 0]) k=some (.dT []):=keepU qa1 ha
  have nkb:k≠b:=qa2 hb1 hb
  have nab:a≠b:=qa2 qa1 hb
  refine⟨keepU hb1 hb,[(keyN [0,0,0,0],a,.int 0),(keyN [1,1,1,1],b,.int 1)],rfl,?_,(by show 2<=15;decide),?_⟩
  ·intro x hx
   rcases List.mem_cons.mp hx with rfl|hx
   ·exact keepU qa1 hb
   ·rcases List.mem_cons.mp hx with rfl|hx
    ·exact qa1
    ·cases hx
  have hD2:upd (upd (upd (upd H D (.lst [.int 0,.int 1])) k (.dT [])) a (.tup [.int 0,.int 0,.int 0,.int 0])) b (.tup [.int 1,.int 1,.int 1,.int 1]) D=some (.lst [.int 0,.int 1]):=keepU (keepU (keepU qa1 hk) ha) hb
  have s4:Same H (upd (upd (upd (upd H D (.lst [.int 0,.int 1])) k (.dT [])) a (.tup [.int 0,.int 0,.int 0,.int 0])) b (.tup [.int 1,.int 1,.int 1,.int 1])):=((sD.trans (sameU hk)).trans (sameU ha)).trans (sameU hb)
  generalize upd (upd (upd (upd H D (.lst [.int 0,.int 1])) k (.dT [])) a (.tup [.int 0,.int 0,.int 0,.int 0])) b (.tup [.int 1,.int 1,.int 1,.int 1])=H4 at hD2 s4
  have s5:Same H (upd H4 k (.dT (kT [[0,0,0,0],[1,1,1,1]]))):=sameW s4 hkH
  have e5:mergeT [] [(keyN [0,0,0,0],a,V.int 0),(keyN [1,1,1,1],b,V.int 1)]=kT [[0,0,0,0],[1,1,1,1]]:=by rfl
  rw[e5]
  refine⟨_,rfl,rp,rfl,for_seq2 (K:=K) (a:=rp) (xs:=bs.map V.ref) (λi σ H2=>Same H H2/\H2 D=some (.lst (vN (Qf.mg (rows.take i)).1))/\H2 k=some (.dT (kT (Qf.mg (rows.take i)).2)) /\
    ∃v5 v6,σ=[some (.int (n:Nat)),some (.int (tp:Nat)),some (.ref rp),some (.ref D),some (.ref k),v5,v6,none,none,none,none])
   (hp.elim (λh=>.inr λi σ H2 ⟨s2,_⟩=>SqT.of (s2 _ _ h)) (λh=>.inl λi σ H2 ⟨s2,_⟩=>SqL.of (s2 _ _ h)))
   ⟨s5,by rw[upd_ne nDk];exact hD2,qa1,none,none,rfl⟩ ?_ ?_⟩
  ·rintro i y σ H2 hy ⟨s2,hd2,hk2,v5,v6,rfl⟩
   have hi:i<rows.length:=by rw[<- hlb];exact (gS_ hy).1
   rw[List.getElem?_map] at hy
   obtain⟨rb,hrb,rfl⟩:=Option.map_eq_some_iff.mp hy
   have hr1:rows[i]?=some rows[i]:=by simp[hi]
   have hbt:=s2 _ _ (hrow i rb rows[i] hrb hr1)
   have rk:=ok i _ hr1
   have tl:(rows.take i).length=i:=by rw[List.length_take];lia
   have mo:=mg_ok (ok_take ok i)
   have mlen:=mo.len
   rw[tl] at mlen
   have mkl:=mg_len (rows.take i)
   rw[tl] at mkl
   generalize rows[i]=r at hr1 hbt rk
   have et:=mg_take hr1
   generalize Qf.mg (rows.take i)=st at hd2 hk2 mo mlen mkl et
   have hds:∀x,x<i+2->st.1[x]?=some (st.1.getD x 0):=λx hx=>by
    rw[List.getD_eq_getElem?_getD,List.getElem?_eq_getElem (by lia)];rfl
   refine⟨_,rfl,rb,rfl,⟨_,SqT.of hbt⟩,λD2 hD2'=>comp_walk hD2' (λj z _=>∃x,r[j]?=some x/\z=.int (st.1.getD x 0:Nat)) (goes_tup (K:=K) hbt) (by rw[vN_len,rk.1];decide) (λ_ _ _ _ _ _ h=>h) ?_ ?_⟩
   ·intro j x H3 hj hx s3 Q' hq
    obtain⟨m,hm,rfl⟩:=vN_get hx
    have hlt:=rk.2 m (List.mem_of_getElem? hm)
    exact⟨_,rfl,_,rfl,D,_,(m:Int),.int (st.1.getD m 0:Nat),rfl,rfl,SqL.of (s3 _ _ hd2),vN_atI (hds m hlt),hq _ _ (Same.refl _) ⟨m,hm,rfl⟩⟩
   ·intro ys H3 s3 hd3 hly hys
    have ey:ys=vN (r.map (st.1.getD · 0)):=by
     refine list_ext (by rw[hly,vN_len,vN_len,List.length_map]) λj x hx=>?_
     obtain⟨m,hm,rfl⟩:=hys j x hx
     exact vN_at (by rw[List.getElem?_map,hm];rfl)
    subst ey
    refine⟨D2,_,rfl,.inl ⟨SqL.of hd3,λl hl=>?_⟩⟩
    have hD6:=keepU (u:=.tup (vN (r.map (st.1.getD · 0)))) (s3 _ _ hd2) hl
    have hk6:=keepU (u:=.tup (vN (r.map (st.1.getD · 0)))) (s3 _ _ hk2) hl
    have hl6:upd H3 l (.tup (vN (r.map (st.1.getD · 0)))) l=some (.tup (vN (r.map (st.1.getD · 0)))):=qa1
    have s6:Same H (upd H3 l (.tup (vN (r.map (st.1.getD · 0))))):=(s2.trans s3).trans (sameU hl)
    generalize upd H3 l (.tup (vN (r.map (st.1.getD · 0))))=H6 at hD6 hk6 hl6 s6
    have e1:mgStep st r=(st.1++[st.2.idxOf (r.map (st.1.getD · 0))],mgK st.2 (r.map (st.1.getD · 0))):=rfl
    generalize hlook:r.map (st.1.getD · 0)=look at hl6 e1
    have hlk:(kT st.2).length=st.2.length:=tabl_len _ _
    have hap:∀(z:Nat) (H7:Hp),H7 D=some (.lst (vN st.1))->upd H7 D (.lst (vN st.1++[.int (z:Nat)]))=upd H7 D (.lst (vN (st.1++[z]))):=λz H7 _=>by
     congr 2
     unfold vN
     rw[List.map_append]
     rfl
    refine⟨_,rfl,.inl ⟨rfl,_,SqL.of hD6⟩,_,rfl,.inr (.inr (.inl ⟨rfl,.inr ⟨_,hk6⟩⟩)),_,rfl,_,rfl,k,_,rfl,hk6,k,l,kT st.2,keyN look,_,rfl,rfl,hk6,by rw[keyN_V];exact hl6,by rw[hlk];exact smallM (by lia),?_,?_⟩
    ·intro v hv
     have hv':=hv
     unfold kT at hv'
     rw[tabl_val (λa b=>keyN_inj)] at hv'
     by_cases hm:look∈st.2
     ·rw[if_pos hm] at hv'
      have ev:v=.int (st.2.idxOf look:Nat):=by
       have:=Option.some.inj hv'
       rw[<- this,Nat.zero_add]
       first|rfl|(congr 3;exact beq_inst inferInstance inferInstance)
      subst ev
      refine⟨D,_,_,rfl,rfl,hD6,by rw[vN_len];exact smallM (by lia),?_⟩
      rw[hap _ _ hD6]
      refine⟨sameW s6 hD,?_,?_,_,_,rfl⟩
      ·rw[et,e1,qa1]
      ·rw[et,e1,upd_ne (Ne.symm nDk),hk6]
       show _=some (HO.dT (kT (mgK st.2 look)))
       unfold mgK
       rw[if_pos hm]
     ·rw[if_neg hm] at hv'
      cases hv'
    ·intro hv
     have hv':=hv
     unfold kT at hv'
     rw[tabl_val (λa b=>keyN_inj)] at hv'
     by_cases hm:look∈st.2
     ·rw[if_pos hm] at hv'
      cases hv'
     ·have hix:st.2.idxOf look=st.2.length:=List.idxOf_eq_length hm
      have hD7:upd H6 k (.dT (putK (kT st.2) (keyN look) (.int ((kT st.2).length:Nat)))) D=some (.lst (vN st.1)):=by rw[upd_ne nDk];exact hD6
      have ek:putK (kT st.2) (keyN look) (.int ((kT st.2).length:Nat))=kT (st.2++[look]):=by
       have:=tabl_put (key:=keyN) (k:=0) (λa b=>keyN_inj) hm
       rw[Nat.zero_add] at this
       rw[hlk]
       exact this
      rw[ek] at hD7
      refine⟨D,vN st.1,.int (st.2.idxOf look:Nat),rfl,by rw[hix,hlk],by rw[ek];exact hD7,by rw[vN_len];exact smallM (by lia),?_⟩
      rw[ek,hap _ _ hD7]
      refine⟨sameW (sameW s6 hkH) hD,?_,?_,_,_,rfl⟩
      ·rw[et,e1,qa1]
      ·rw[et,e1,upd_ne (Ne.symm nDk),qa1]
       show _=some (HO.dT (kT (mgK st.2 look)))
       unfold mgK
       rw[if_neg hm]
  ·rintro σ H2 ⟨s2,hd2,hk2,v5,v6,rfl⟩
   rw[hlb,List.take_length] at hd2 hk2
   have mo:=mg_ok ok
   have mkl:=mg_len rows
   have mlen:=mo.len
   have cn:=mg_canon hn ok htp hd
   have mdp:=mo.dp tp
   have xlt:(Qf.mg rows).1.getD tp 0<(Qf.mg rows).2.length:=getD_lt (by have:=mo.two;lia) mo.lt tp
   have xat:(Qf.mg rows).1[tp]?=some ((Qf.mg rows).1.getD tp 0):=by
    rw[List.getD_eq_getElem?_getD,List.getElem?_eq_getElem (by lia)];rfl
   unfold mgTop mgRows at cn q
   generalize Qf.mg rows=st at hd2 hk2 mo mkl mlen cn mdp xlt xat q
   obtain⟨here,ks⟩:=st
   dsimp only at *
   generalize hxx:here.getD tp 0=x at cn mdp xlt xat q
   have hks2:=mo.two
   have hkok:=mo.ok
   dsimp only at hks2 hkok
   have hlk:(kT ks).length=ks.length:=tabl_len _ _
   refine⟨_,rfl,k,_,rfl,hk2,λl cs hl hcl hcs=>?_⟩
   have hRk:RowsL (upd H2 l (.lst (cs.map V.ref))) l ks:=⟨cs,qa1,by rw[hcl,hlk],λi b r e1 e2=>by
    have hi:=(gS_ e2).1
    obtain⟨r',hr',ek⟩:=kT_get (i:=i) (kv:=(kT ks)[i]'(by lia)) (List.getElem?_eq_getElem (by lia))
    rw[e2] at hr'
    cases hr'
    have:=hcs i b _ e1 (List.getElem?_eq_getElem (by lia))
    rw[ek,keyN_V] at this
    exact keepU this hl⟩
   have hD3:=keepU (u:=.lst (cs.map V.ref)) hd2 hl
   have s3:Same H (upd H2 l (.lst (cs.map V.ref))):=s2.trans (sameU hl)
   have hlo:∃u,upd H2 l (.lst (cs.map V.ref)) l=some u:=⟨_,qa1⟩
   generalize upd H2 l (.lst (cs.map V.ref))=H3 at hRk hD3 s3 hlo
   refine λe he=>?_
   have nDe:D≠e:=qa2 hD3 he
   have nle:l≠e:=by obtain⟨u,hu⟩:=hlo;exact qa2 hu he
   have heH:H e=none:=by
    cases z:H e with
    |none=>rfl
    |some o=>rw[s3 _ _ z] at he;cases he
   have s4:Same H (upd H3 e (.dK [])):=s3.trans (sameU he)
   have hR4:=hRk.same (sameU (o:=.dK []) he)
   have hD4:=keepU (u:=.dK []) hD3 he
   have he4:upd H3 e (.dK []) e=some (.dK (fK [])):=qa1
   generalize upd H3 e (.dK [])=H4 at s4 hR4 hD4 he4
   refine⟨_,rfl,_,rfl,D,_,(tp:Int),.int (x:Nat),rfl,rfl,SqL.of hD4,vN_atI xat,_,rfl,_,rfl,l,e,x,ks,[],rfl,hR4,nle,hks2,hkok,by lia,xlt,Nat.le_trans mdp hd,post_nil _,he4,λH5 b5 he5=>?_⟩
   have hE:Post (ks.drop 2) (dfs (ks.drop 2) n [] x)/\(x<2\/x-2∈dfs (ks.drop 2) n [] x):=dfs_post hkok n [] x (post_nil _) (by rw[List.length_drop];lia) (Nat.le_trans mdp hd)
   generalize dfs (ks.drop 2) n [] x=es at hE he5 cn q
   have s5:Same H H5:=λb u z=>b5 _ _ (s4 _ _ z) (qa2 z heH)
   have hR5:=hR4.but b5 nle he4 (λu z=>by cases z)
   have hD5:=b5 _ _ hD4 nDe
   obtain⟨pe,hxE⟩:=hE
   have hel:=post_len pe
   rw[List.length_drop] at hel
   have hfl:(fK es).length=es.length:=tabl_len _ _
   refine λg hg=>⟨qa1,nBase,rfl,(by show 2<=15;decide),?_⟩
   have hgH:H g=none:=by
    cases z:H g with
    |none=>rfl
    |some o=>rw[s5 _ _ z] at hg;cases hg
   have eg:mergeK [] nBase=nBase:=by rfl
   rw[eg]
   have neg:e≠g:=qa2 he5 hg
   have nDg:D≠g:=qa2 hD5 hg
   have s6:Same H5 (upd (upd H5 g (.dK [])) g (.dK nBase)):=λb u z=>by rw[upd_ne (qa2 z hg)];exact keepU z hg
   have he6:=s6 _ _ he5
   have hg6:upd (upd H5 g (.dK [])) g (.dK nBase) g=some (.dK nBase):=qa1
   generalize upd (upd H5 g (.dK [])) g (.dK nBase)=H6 at s6 he6 hg6
   refine⟨_,rfl,.inr (.inr (.inl ⟨rfl,.inl ⟨_,hg6⟩⟩)),_,rfl,g,e,nBase,fK es,rfl,rfl,Ne.symm neg,hg6,he6,by rw[hfl];show 2+es.length<=1191000;lia,?_⟩
   have em:mergeK nBase (fK es)=nBase++fK es:=by
    have:=nK_merge es [] (by simpa using pe.nd)
    exact this
   rw[em]
   have b7:But g H6 (upd H6 g (.dK (nBase++fK es))):=But.upd
   have hR7:RowsL (upd H6 g (.dK (nBase++fK es))) l ks:=(hR5.same s6).but b7 (by
    obtain⟨u,hu,_⟩:=hR5
    exact qa2 hu hg) hg6 (λu z=>by cases z)
   have hD7:=b7 _ _ (s6 _ _ hD5) nDg
   have he7:=b7 _ _ he6 neg
   have hg7:upd H6 g (.dK (nBase++fK es)) g=some (.dK (nBase++fK es)):=qa1
   have s7:Same H (upd H6 g (.dK (nBase++fK es))):=λb u z=>b7 _ _ (s6 _ _ (s5 _ _ z)) (qa2 z hgH)
   generalize upd H6 g (.dK (nBase++fK es))=H7 at hR7 hD7 he7 hg7 s7
   refine⟨_,rfl,e,fK es,rfl,he7,λo D2 hD2'=>?_⟩
   have b8:But e H7 (upd H7 e (.frz o (.dK (fK es)))):=But.upd
   have hR8:RowsL (upd H7 e (.frz o (.dK (fK es)))) l ks:=hR7.but b8 nle he7 (λu z=>by cases z)
   have hD8:=b8 _ _ hD7 nDe
   have hg8:=b8 _ _ hg7 (Ne.symm neg)
   have he8:upd H7 e (.frz o (.dK (fK es))) e=some (.frz o (.dK (fK es))):=qa1
   have s8:Same H (upd H7 e (.frz o (.dK (fK es)))):=λb u z=>b8 _ _ (s7 _ _ z) (qa2 z heH)
   generalize upd H7 e (.frz o (.dK (fK es)))=H8 at hR8 hD8 hg8 he8 s8 hD2'
   have dgq:∀(H9:Hp) (q:Nat),Same H8 H9->InE es q->DGet H9 g (.int (q:Int)) (some (.int (nm es q:Nat))):=λH9 q s9 hq=>by
    have:=DGet.k (k:=Sum.inl (q:Int)) (s9 _ _ hg8)
    rw[nK_val hq] at this
    exact this
   refine compC_walk hD2' (λi z H9=>∃b p,z=.ref b/\es[i]?=some p/\H9 b=some (.tup (vN (((ks.drop 2).getD p []).map (nm es))))) (goes_keys he8) (by rw[hfl];exact smallM (by lia)) ?_ ?_ ?_
   ·rintro i z H9 H10 _ tk ⟨b,p,rfl,h1,h2⟩
    exact⟨b,p,rfl,h1,tk _ _ h2⟩
   ·rintro i y H9 hi ⟨kv,hkv,rfl⟩ s9 Q' hq
    obtain⟨p,hp',ek⟩:=fK_get hkv
    rw[ek]
    have hpl:=pe.lt p (List.mem_of_getElem? hp')
    have hpl2:p+2<ks.length:=by rw[List.length_drop] at hpl;lia
    have hat:ks[p+2]?=some ((ks.drop 2).getD p []):=by
     have:=getD_at hpl
     rw[List.getElem?_drop,Nat.add_comm] at this
     exact this
    have rk:=hkok p _ (getD_at hpl)
    have hin:∀q∈(ks.drop 2).getD p [],InE es q:=λq hq=>(row_in pe hp' hq).1
    obtain⟨us,hlu,hul,hur⟩:=id (hR8.same s9)
    have hb1:us[p+2]?=some (us[p+2]'(by lia)):=List.getElem?_eq_getElem (by lia)
    have hbt:=hur _ _ _ hb1 hat
    generalize hrr:(ks.drop 2).getD p []=r at hat rk hin hbt
    refine⟨_,rfl,_,rfl,l,_,((p+2:Nat):Int),.ref (us[p+2]'(by lia)),rfl,rfl,SqL.of hlu,atI_nat (by rw[List.getElem?_map,hb1];rfl),_,rfl,⟨_,SqT.of hbt⟩,λD3 hD3=>comp_walk hD3 (λj z _=>∃m:Nat,r[j]?=some m/\z=.int (nm es m:Nat)) (goes_tup (K:=K) hbt) (by rw[vN_len,rk.1];decide) (λ_ _ _ _ _ _ h=>h) ?_ ?_⟩
    ·intro j y H10 hj hy s10 Q2 hq2
     obtain⟨m,hm,rfl⟩:=vN_get hy
     exact⟨_,rfl,_,rfl,g,_,rfl,dgq _ m (s9.trans s10) (hin m (List.mem_of_getElem? hm)),hq2 _ _ (Same.refl _) ⟨m,hm,rfl⟩⟩
    ·intro ys H10 s10 hd10 hly hys
     have ey:ys=vN (r.map (nm es)):=by
      refine list_ext (by rw[hly,vN_len,vN_len,List.length_map]) λj z hz=>?_
      obtain⟨m,hm,rfl⟩:=hys j z hz
      exact vN_at (by rw[List.getElem?_map,hm];rfl)
     subst ey
     refine⟨D3,_,rfl,.inl ⟨SqL.of hd10,λt ht=>hq _ _ (s10.trans (sameU ht)) ⟨t,p,rfl,hp',?_⟩⟩⟩
     rw[hrr,qa1]
   ·intro ys H9 s9 hd9 hly hys
    obtain⟨cs2,rfl⟩:=refs_of (ys:=ys) λi y hy=>by
     obtain⟨b,p,z,_⟩:=hys i y hy
     exact⟨b,z⟩
    refine⟨_,rfl,_,rfl,_,rfl,_,rfl,D,_,(tp:Int),.int (x:Nat),rfl,rfl,SqL.of (s9 _ _ hD8),vN_atI xat,g,_,rfl,dgq H9 x s9 hxE,_,rfl,D2,_,rfl,.inl ⟨SqL.of hd9,λt ht=>⟨(by show 3<=sizeLine;decide),λr hr=>?_⟩⟩⟩
    refine q _ r (((s8.trans s9).trans (sameU ht)).trans (sameU hr)) ⟨⟨t,qa1,cs2,keepU qa1 hr,?_,?_⟩,cn,?_⟩ ?_
    ·rw[told_len,<- hfl,<- hly,List.length_map]
    ·intro i b r0 e1 e2
     obtain⟨b',p,z,hp',hbb⟩:=hys i (.ref b) (by rw[List.getElem?_map,e1];rfl)
     cases z
     rw[told_at hp'] at e2
     cases e2
     exact keepU (keepU hbb ht) hr
    ·rw[told_len]
     lia
    ·rw[told_len]
     lia
theorem scDrawn:FnScope ["_law_purse_here", "_law_n", "_law_rows_here", "_law_top"] ["_law_purse_here", "_law_n", "_law_rows_here"] (defScope lDrawn):=⟨rfl,rfl,rfl,by decide +kernel,rfl,by decide +kernel,by decide +kernel⟩
def spDrawn:Sp:=λvs H Q _=>∃(p rp:Addr) (n:Nat) (rows:List Row),vs=[.ref p,.int (n:Nat),.ref rp]/\PurseAt H p/\RowsL H rp rows/\rp≠p/\RowsOk rows/\rows.length<=300/\n<=12/\(∀x,x<rows.length+2->dp rows x<=n) /\
 ∀(H':Hp) (t tp:Nat) (rws:List Row),But p H H'->PurseAt H' p->ShapeAt H' t n tp rws->rws.length<=rows.length->Q (.ref t) H'
theorem ok_drawn {f fD fS:Addr}{fd fdD fdS:FuncData}(F:Fun K "_law_drawn" "_law_drawn" lDrawn f fd) (B:Blt mg)
  (hD:mg "_law_draw" = some (.ref fD)) (FD:Fun K "_law_draw" "_law_draw" lDraw fD fdD) (bD:Binds K fdD ["_law_purse_here", "_law_many"] [])
  (hS:mg "_law_shape" = some (.ref fS)) (FS:Fun K "_law_shape" "_law_shape" lShape fS fdS) (bS:Binds K fdS ["_law_n", "_law_top", "_law_rows_here"] []) (GS:FnOk P w K mg base CX0 14 fS fdS ["_law_n", "_law_top", "_law_rows_here"] spLShape) :
  FnOk P w K mg base CX0 15 f fd ["_law_purse_here", "_law_n", "_law_rows_here"] spDrawn:=by
 have GD:FnOk P w K mg base CX0 1 fD fdD ["_law_purse_here", "_law_many"] spDraw:=ok_draw FD
 refine F.ok scDrawn (λvs H Q E h=>?_) (λcdv A outer s H vs Q E hr h=>?_)
 ·obtain⟨p,rp,n,rows,rfl,_⟩:=h
  rfl
 ·obtain⟨p,rp,n,rows,rfl,hp,hR,hrp,ok,hl,hn,hd,q⟩:=h
  have hr1:Room 1 _:=hr.mono (by decide)
  refine seqE ⟨_,⟨ps_set (i:=3) scDrawn.nd rfl (by first|left;rfl|right;rfl) (pe_ix ix_list (pe_lst (Ars2.go (.cons ⟨pe_op op_add (pe_callB call_len_seq (by rfl) B.len PySem.boot_len (qa0 (pv 2) qa3)) qa4⟩
    (.cons ⟨pe_call GD hr1 (by rfl) hD FD.kp bD .nil pass0 (qa0 (pv 0) (qa0 (pe_op op_add (pe_callB call_len_seq (by rfl) B.len PySem.boot_len (qa0 (pv 2) qa3)) qa4) qa3))⟩ .nil rfl) rfl)))
    (PEb.go ⟨pe_callTy call_int1 (by rfl) B.int PyProof.Rows.boot_int (qa0 (pe_cmpR op_eq (pe_call GD hr1 (by rfl) hD FD.kp bD .nil pass0 (qa0 (pv 0) (qa0 qa4 qa3))) qa4 (nomark _)) qa3)⟩) (λ_ _=>rfl))⟩,?_⟩
  refine lastE ⟨_,⟨ps_ret (pe_call GS hr (by rfl) hS FS.kp bS .nil pass0 (qa0 (pv 1) (qa0 (pv 3) (qa0 (pv 2) qa3))))⟩,?_⟩
  obtain⟨bs,hb,hlen,hrow⟩:=id hR
  have hlb:(bs.map V.ref).length=rows.length:=by rw[List.length_map];exact hlen
  refine⟨_,rfl,rp,_,rfl,.inl (SqL.of hb),_,_,rfl,rfl,?_⟩
  refine⟨_,rfl,_,rfl,rp,_,rfl,.inl (SqL.of hb),_,_,rfl,rfl,p,(bs.map V.ref).length+2,rfl,hp,by lia,by lia,λd1 H1 hd1 b1 hp1=>?_⟩
  refine⟨(by show 2<=sizeLine;decide),λL hL=>?_⟩
  have hp2:=hp1.same (sameU (o:=.lst [.int (((bs.map V.ref).length:Int)+1),.int (d1:Nat)]) hL)
  have npL:p≠L:=by obtain⟨a,b,e,_⟩:=hp1;exact qa2 e hL
  refine⟨_,rfl,p,4,rfl,hp2,by decide,by decide,λd2 H3 hd2 b3 hp3=>?_⟩
  have hL3:=b3 _ _ qa1 (Ne.symm npL)
  have B3:But p H H3:=(b1.trans (But.of (sameU hL))).trans b3
  have nrow:∀b∈bs,b≠p:=λb hbm z=>by
   obtain⟨j,hj,e⟩:=List.mem_iff_getElem.mp hbm
   obtain⟨a,c,ep,_⟩:=hp
   have:=hrow j b (rows[j]'(by lia)) (by simp[hj,e]) (by simp[show j<rows.length by lia])
   rw[z,ep] at this
   cases this
  have hR3:RowsL H3 rp rows:=⟨bs,B3 _ _ hb hrp,hlen,λi b r e1 e2=>B3 _ _ (hrow i b r e1 e2) (nrow b (List.mem_of_getElem? e1))⟩
  have fin:∀tp:Nat,tp<rows.length+2->spLShape [.int (n:Nat),.int (tp:Nat),.ref rp] H3 Q E:=λtp ht=>
   ⟨rp,n,tp,rows,rfl,hR3.s,ok,by lia,hn,ht,hd tp ht,λH4 t s4 sh hle=>q H4 t _ _ (B3.trans (But.of s4)) (hp3.same s4) ⟨sh.1,sh.2.1,Nat.le_trans hle (by lia)⟩ hle⟩
  refine⟨rfl,.inr ⟨_,rfl,?_⟩⟩
  by_cases hc:d2=0
  ·subst hc
   have e:V.int (if decide (V.int ((0:Nat):Int)=V.int 0)=true then 1 else 0)=V.int 1:=congrArg V.int (if_pos (decide_eq_true rfl))
   exact⟨L,_,1,.int (d1:Nat),rfl,e,SqL.of hL3,rfl,_,rfl,_,rfl,_,rfl,fin d1 (by lia)⟩
  ·have e:V.int (if decide (V.int (d2:Int)=V.int 0)=true then 1 else 0)=V.int 0:=congrArg V.int (if_neg (λz=>hc (by have:=V.int.inj (of_decide_eq_true z);lia)))
   have e2:V.int (((bs.map V.ref).length:Int)+1)=.int ((rows.length+1:Nat):Int):=by rw[hlb];rfl
   refine⟨L,_,0,.int ((rows.length+1:Nat):Int),rfl,e,SqL.of hL3,?_,_,rfl,_,rfl,_,rfl,fin (rows.length+1) (by lia)⟩
   rw[<- e2]
   rfl
end
theorem RowsL.take {H:Hp}{l l2:Addr}{rows:List Row}{bs:List Addr}(hl2:H l2=some (.lst ((bs.map V.ref).take k))) (hb:bs.length=rows.length) (hr:∀(i:Nat) b r,bs[i]?=some b->rows[i]?=some r->H b=some (.tup (vN r))):RowsL H l2 (rows.take k):=by
 refine⟨bs.take k,by rw[hl2,List.map_take],by rw[List.length_take,List.length_take,hb],λi b r e1 e2=>?_⟩
 rw[List.getElem?_take] at e1 e2
 split at e1
 ·rename_i h
  rw[if_pos h] at e2
  exact hr i b r e1 e2
 ·cases e1
section
variable {P:Program}{w:World}{K:PySem.W.Frag}{mg:Str->Option Value}{base:Heap}
abbrev nTwo:List Str:=["_law_purse_here", "_law_n", "_law_most", "_law_rows_here", "_law_one", "_law_more"]
abbrev nTwo3:List Str:=["_law_purse_here", "_law_n", "_law_most"]
theorem scTwo:FnScope nTwo nTwo3 (defScope lTwo):=⟨rfl,rfl,rfl,by decide +kernel,rfl,by decide +kernel,by decide +kernel⟩
def spTwo:Sp:=λvs H Q _=>∃(p:Addr) (n most:Nat),vs=[.ref p,.int (n:Nat),.int (most:Nat)]/\PurseAt H p/\n<=12/\most<=50 /\
 ∀(H':Hp) (D t t':Addr) (tp tp':Nat) (rws rws':List Row),But p H H'->PurseAt H' p->H' D=some (.lst [.ref t,.ref t'])->ShapeAt H' t n tp rws->ShapeAt H' t' n tp' rws'->rws.length<=most->rws'.length<=2*most->Q (.ref D) H'
theorem ok_two {f fD fR fA:Addr}{fd fdD fdR fdA:FuncData}(F:Fun K "_law_two" "_law_two" lTwo f fd) (B:Blt mg)
  (hD:mg "_law_draw" = some (.ref fD)) (FD:Fun K "_law_draw" "_law_draw" lDraw fD fdD) (bD:Binds K fdD ["_law_purse_here", "_law_many"] [])
  (hR:mg "_law_rows" = some (.ref fR)) (FR:Fun K "_law_rows" "_law_rows" lRows fR fdR) (bR:Binds K fdR ["_law_purse_here", "_law_n", "_law_most", "_law_begun"] []) (GR:FnOk P w K mg base CX0 3 fR fdR ["_law_purse_here", "_law_n", "_law_most", "_law_begun"] spLRows)
  (hA:mg "_law_drawn" = some (.ref fA)) (FA:Fun K "_law_drawn" "_law_drawn" lDrawn fA fdA) (bA:Binds K fdA ["_law_purse_here", "_law_n", "_law_rows_here"] []) (GA:FnOk P w K mg base CX0 15 fA fdA ["_law_purse_here", "_law_n", "_law_rows_here"] spDrawn) :
  FnOk P w K mg base CX0 16 f fd nTwo3 spTwo:=by
 have GD:FnOk P w K mg base CX0 1 fD fdD ["_law_purse_here", "_law_many"] spDraw:=ok_draw FD
 refine F.ok scTwo (λvs H Q E h=>?_) (λcdv A outer s H vs Q E hr h=>?_)
 ·obtain⟨p,n,most,rfl,_⟩:=h
  rfl
 ·obtain⟨p,n,most,rfl,hp,hn,hm,q⟩:=h
  have hr1:Room 1 _:=hr.mono (by decide)
  have hr3:Room 3 _:=hr.mono (by decide)
  refine seqE ⟨_,⟨ps_set (i:=3) scTwo.nd rfl (by first|left;rfl|right;rfl) (pe_call GR hr3 (by rfl) hR FR.kp bR .nil pass0 (Ars2.go (.cons ⟨pv 0⟩ (.cons ⟨pv 1⟩ (.cons ⟨pv 2⟩ (.cons ⟨pe_lst qa3⟩ .nil rfl) rfl) rfl) rfl)))⟩,?_⟩
  refine seqE ⟨_,⟨ps_set (i:=4) scTwo.nd rfl (by first|left;rfl|right;rfl) (pe_call GA hr (by rfl) hA FA.kp bA .nil pass0 (qa0 (pv 0) (qa0 (pv 1) (qa0 (pv 3) qa3))))⟩,?_⟩
  refine seqE ⟨_,⟨ps_set (i:=5) scTwo.nd rfl (by first|left;rfl|right;rfl) (pe_call GR hr3 (by rfl) hR FR.kp bR .nil pass0 (Ars2.go (.cons ⟨pv 0⟩ (.cons ⟨pv 1⟩ (.cons ⟨pv 2⟩ (.cons ⟨pe_slice sl_list (pv 3) po_none (po_some (PEb.go ⟨pe_call GD hr1 (by rfl) hD FD.kp bD .nil pass0 (Ars2.go (.cons ⟨pv 0⟩ (.cons ⟨pe_op op_add (pe_callB call_len_seq (by rfl) B.len PySem.boot_len (qa0 (pv 3) qa3)) qa4⟩ .nil rfl) rfl))⟩))⟩ .nil rfl) rfl) rfl) rfl)))⟩,?_⟩
  refine lastE ⟨_,⟨ps_ret (pe_lst (Ars2.go (.cons ⟨pv 4⟩ (.cons ⟨pe_call GA hr (by rfl) hA FA.kp bA .nil pass0 (qa0 (pv 0) (qa0 (pv 1) (qa0 (pv 5) qa3)))⟩ .nil rfl) rfl)))⟩,?_⟩
  refine⟨_,rfl,_,rfl,_,rfl,(by show 0<=sizeLine;decide),λb0 hb0=>?_⟩
  have npb:p≠b0:=by obtain⟨u,v,e,_⟩:=hp;exact qa2 e hb0
  refine⟨p,b0,n,most,[],rfl,hp.same (sameU hb0),⟨[],qa1,rfl,λi b r e _=>by simp at e⟩,Ne.symm npb,λp r e=>by simp at e,λx hx=>by rw[dp_low (by simpa using hx)];lia,by decide,by lia,hn,λH1 l rows b1 hp1 hl1 hR1 ok1 hd1 hlr=>?_⟩
  have hlr':rows.length<=most:=by simpa using hlr
  have nlp:l≠p:=by
   obtain⟨u,v,e,_⟩:=hp.same (sameU (o:=.lst []) hb0)
   exact (qa2 e hl1).symm
  refine⟨_,rfl,_,rfl,_,rfl,p,l,n,rows,rfl,hp1,hR1,nlp,ok1,by lia,hn,hd1,λH2 t tp rws b2 hp2 sh2 hle2=>?_⟩
  have kp:∀{Ha Hb:Hp},But p Ha Hb->PurseAt Ha p->Tups Ha Hb:=λb ⟨u,v,e,_⟩=>b.tups e (λu z=>by cases z)
  obtain⟨bs,hbs,hbl,hbr⟩:=id hR1
  have hbs2:=b2 _ _ hbs nlp
  have hlb:(bs.map V.ref).length=rows.length:=by rw[List.length_map];exact hbl
  refine⟨_,rfl,_,rfl,_,rfl,_,rfl,_,rfl,_,rfl,l,_,rfl,.inl (SqL.of hbs2),_,_,rfl,rfl,p,rows.length+1,by rw[hlb];rfl,hp2,by lia,by lia,λk H3 hk b3 hp3=>⟨_,rfl,l,_,rfl,SqL.of (b3 _ _ hbs2 nlp),λl2 hl2=>?_⟩⟩
  have ecut:cutV (bs.map V.ref) none (some (k:Int))=(bs.map V.ref).take k:=cut_to (by rw[hlb];lia)
  rw[ecut]
  have np2:p≠l2:=by obtain⟨u,v,e,_⟩:=hp3;exact qa2 e hl2
  have U:=sameU (o:=.lst ((bs.map V.ref).take k)) hl2
  have hRt:RowsL (upd H3 l2 (.lst ((bs.map V.ref).take k))) l2 (rows.take k):=RowsL.take (l:=l) qa1 hbl λi b r e1 e2=>U _ _ (((kp b2 hp1).trans (kp b3 hp2)) _ _ (hbr i b r e1 e2))
  have htl:(rows.take k).length<=rows.length:=by rw[List.length_take];lia
  refine⟨p,l2,n,most,rows.take k,rfl,hp3.same U,hRt,Ne.symm np2,ok_take ok1 k,λx hx=>?_,by lia,by lia,hn,λH4 l3 rows3 b4 hp4 hl4 hR4 ok4 hd4 hlr4=>?_⟩
  ·have:=hd1 x (by lia)
   rw[<- List.take_append_drop k rows,dp_append_lt hx] at this
   exact this
  have nl3:l3≠p:=by
   obtain⟨u,v,e,_⟩:=hp3.same U
   exact (qa2 e hl4).symm
  refine⟨_,rfl,_,rfl,_,rfl,_,rfl,p,l3,n,rows3,rfl,hp4,hR4,nl3,ok4,by lia,hn,hd4,λH5 t5 tp5 rws5 b5 hp5 sh5 hle5=>⟨(by show 2<=sizeLine;decide),λD hDn=>?_⟩⟩
  have UD:=sameU (o:=.lst [V.ref t,V.ref t5]) hDn
  have T25:Tups H2 H5:=((kp b3 hp2).trans U.tups).trans ((kp b4 (hp3.same U)).trans (kp b5 hp4))
  have B5:But p H (upd H5 D (.lst [V.ref t,V.ref t5])):=(((((((But.of (sameU hb0)).trans b1).trans b2).trans b3).trans (But.of U)).trans b4).trans b5).trans (But.of UD)
  obtain⟨⟨rp,ht,hRr⟩,cn,hl9⟩:=sh2
  refine q _ D t t5 tp tp5 rws rws5 B5 (hp5.same UD) qa1 ⟨⟨rp,UD _ _ (T25 _ _ ht),(hRr.mono T25).same UD⟩,cn,hl9⟩ (same_sh sh5 UD) (by lia) (by lia)
end
end Pr
namespace L2
open PySem PySem.Spec PyProof.Rows
section
variable {prog:Program}{w:World}{A:Around}{E:Value->Shared->Prop}
theorem draw_list {it t:Addr}{ys:Array Value}(ne:t≠it):∀(n i:Nat) (s:Shared) (Q:List Value->Shared->Prop),s.heap.IsListIter it t i->s.heap.IsList t ys->i+n<=ys.size ->
  (∀h',Heap.IsListIter h' it t (i+n)->Heap.SameBut it s.heap h'->Q ((ys.toList.drop i).take n) { s with heap:=h' })->wpAny (model prog w) A (draw (.ref it) n) Q E s
 |0,i,s,Q,jt,_,_,hQ=>by
  show wpAny _ _ (pure []) Q E s
  exact wpAny_pure (by simpa using hQ s.heap jt (Heap.SameBut.refl ..))
 |n+1,i,s,Q,jt,ht,hm,hQ=>by
  have hn1:i<ys.size:=by lia
  show wpAny _ _ (pyNext (.ref it) >>= _) Q E s
  refine wpAny_bind (wpAny_pyNext_list_item jt ht (x:=ys[i]) (by simp[hn1]) λk1 j1 b1=>?_)
  refine wpAny_bind (wpAny_holding (draw_list ne n (i+1) _ _ j1 (ht.extBut b1.extBut ne) (by lia) λk2 j2 b2=>wpAny_pure ?_))
  have ed:ys.toList.drop i=ys[i]::ys.toList.drop (i+1):=by simp[List.drop_eq_getElem_cons,hn1]
  have:=hQ k2 (by rw[show i+(n+1)=i+1+n by lia];exact j2) (b1.trans b2)
  rw[ed,List.take_succ_cons] at this
  exact this
theorem unpackItems_list {s:Shared}{t:Addr}{ys:Array Value}{Q:List Value->Shared->Prop}(hh:A.handled=none) (ht:s.heap.IsList t ys)
  (hQ:∀h',Heap.ExtBut s.heap.objs.size s.heap h'->Q ys.toList { s with heap:=h' }):wpAny (model prog w) A (unpackItems (.ref t) ys.size none) Q E s:=by
 have hn1:t≠s.heap.objs.size:=by obtain⟨o,ho,_⟩:=ht;exact Nat.ne_of_lt (Heap.lt_size ho)
 unfold unpackItems
 refine wpAny_bind ?_
 unfold notIterableAtAll
 refine wpAny_bind (wpAny_specialOf ht.typeIs slot_list_iter.lookup ?_)
 refine wpAny_pure ?_
 simp only[Bool.false_eq_true,if_false]
 refine wpAny_bind (wpAny_holding (wpAny_pyIter_list ht ?_))
 refine wpAny_bind (wpAny_holding (draw_list hn1 ys.size 0 _ _ ⟨_,Heap.get?_push_size _ rfl,rfl,rfl⟩ (ht.at λo e=>Heap.get?_push_of_some _ e) (by lia) λk1 j1 b1=>?_))
 have ea:List.take ys.size (List.drop 0 ys.toList)=ys.toList:=by
  rw[List.drop_zero];exact List.take_of_length_le (by simp)
 rw[ea]
 rw[if_neg (by simp)]
 have g1:Heap.IsList k1 t ys:=(ht.at λo e=>Heap.get?_push_of_some _ e).extBut b1.extBut hn1
 refine wpAny_bind (wpAny_holding (wpAny_pyNext_list_end hh j1 g1 (by simp) λk2 x2=>?_))
 simp only[Option.isSome_none,Bool.false_eq_true,if_false]
 refine wpAny_pure (hQ k2 λb o hb e=>x2 b o hb (b1.extBut b o hb (Heap.get?_push_of_some _ e)))
end
section
variable {X:Cx}{pos:Pos}
def gLst (K:PySem.W.Frag) (n:Nat) (t:TGs):TG:=λv σ H Q=>∃a xs,v=.ref a/\SqL K H a xs/\xs.length=n/\t xs σ H Q
theorem pg_lst {es:List Expr}{k:Nat}{t:TGs}{n:Nat}(hc:X.calm=true) (h:PGs X es t)
  (hn:(assignEach es X.env).length=n:=by rfl) (hst:(assignEach es X.env).findIdx? (·.1)=none:=by rfl):PG X (.Tuple es k pos) (gLst X.K n t):=by
 intro pins s σ H v u Q I r hw
 obtain⟨a,xs,e1,hq,hl,hw⟩:=hw
 subst e1
 cases r
 obtain⟨its,rv,pl,hz⟩:=I.list hq
 have isl:s.heap.IsList a its.toArray:=pl.isList
 rw[assign_Tuple]
 refine wpAny_bind (wpAny_standAt ?_)
 unfold unpack
 rw[show (assignEach es X.env).length=its.toArray.size by simp[hn,<- hl,rv.length],hst]
 refine wpAny_bind (wpAny_holding (unpackItems_list (I.ok.hd hc) isl λh' hx=>?_))
 have I1:Inv X pins σ H { s with heap:=h' }:=I.kept (t':=s.toks) λb o e=>hx b o (Nat.ne_of_lt (Heap.lt_size e)) e
 exact h pins _ σ H xs _ Q I1 (by simpa using rv) hw
end
end L2
namespace Pr
open PySem L2 Qf
section
variable {P:Program}{w:World}{K:PySem.W.Frag}{mg:Str->Option Value}{base:Heap}
abbrev nBs:List Str:=["_law_purse_here", "_law_n", "_law_one", "_law_quarters", "_law_mask", "_law_high"]
abbrev nBs3:List Str:=["_law_purse_here", "_law_n", "_law_one"]
theorem scBs:FnScope nBs nBs3 (defScope lBesideL):=⟨rfl,rfl,rfl,by decide +kernel,rfl,by decide +kernel,by decide +kernel⟩
def spBs:Sp:=λvs H Q _=>∃(p t:Addr) (n tp:Nat) (rows:List Row),vs=[.ref p,.int (n:Nat),.ref t]/\PurseAt H p/\ShapeAt H t n tp rows/\n<=11/\rows.length<=50 /\
 ∀(H':Hp) (D t1 t2:Addr) (q1 q2:Nat) (r1 r2:List Row),But p H H'->PurseAt H' p->H' D=some (.lst [.ref t1,.ref t2])->ShapeAt H' t1 (n+1) q1 r1->ShapeAt H' t2 (n+1) q2 r2->r1.length<=rows.length+1->r2.length<=1->Q (.ref D) H'
theorem ok_Bs {f fD fS:Addr}{fd fdD fdS:FuncData}(F:Fun K "_law_beside" "_law_beside" lBesideL f fd) (B:Blt mg)
  (hD:mg "_law_draw" = some (.ref fD)) (FD:Fun K "_law_draw" "_law_draw" lDraw fD fdD) (bD:Binds K fdD ["_law_purse_here", "_law_many"] [])
  (hS:mg "_law_shape" = some (.ref fS)) (FS:Fun K "_law_shape" "_law_shape" lShape fS fdS) (bS:Binds K fdS ["_law_n", "_law_top", "_law_rows_here"] []) (GS:FnOk P w K mg base CX0 14 fS fdS ["_law_n", "_law_top", "_law_rows_here"] spLShape):FnOk P w K mg base CX0 15 f fd nBs3 spBs:=by
 have GD:FnOk P w K mg base CX0 1 fD fdD ["_law_purse_here", "_law_many"] spDraw:=ok_draw FD
 refine F.ok scBs (λvs H Q E h=>?_) (λcdv A outer s H vs Q E hr h=>?_)
 ·obtain⟨p,t,n,tp,rows,rfl,_⟩:=h
  rfl
 ·obtain⟨p,t,n,tp,rows,rfl,hp,sh,hn,hl,q⟩:=h
  have hr1:Room 1 _:=hr.mono (by decide)
  refine seqE ⟨_,⟨ps_set (i:=3) scBs.nd rfl (by first|left;rfl|right;rfl) (PEb.go ⟨pe_callTy call_tuple_of (by rfl) B.tuple PyProof.Rows.boot_tuple (Ars2.go (.cons ⟨pe_compB nBs (defScope lBesideL) rfl rfl rfl scBs.nd (pi_range1 (by rfl) B.range (qa0 qa4 qa3)) (λcl C fp s₀ H₀=>pe_ix (ixL K rfl) (PEb.go ⟨pe_lst (Ars2.go (.cons ⟨qa4⟩ (.cons ⟨qa4⟩ (.cons ⟨pe_ix (ixT K rfl) (pv 3) qa4 (λ_ _=>rfl)⟩ .nil rfl) rfl) rfl))⟩) (PEb.go ⟨pe_call GD hr1 (by rfl) hD FD.kp bD .nil pass0 (qa0 (pv 1) (qa0 qa4 qa3))⟩) (λ_ _=>rfl))⟩ .nil rfl))⟩)⟩,?_⟩
  refine seqE ⟨_,⟨ps_set (i:=4) scBs.nd rfl (by first|left;rfl|right;rfl) (PEb.go ⟨pe_callTy call_tuple_of (by rfl) B.tuple PyProof.Rows.boot_tuple (Ars2.go (.cons ⟨pe_compB nBs (defScope lBesideL) rfl rfl rfl scBs.nd (pi_range1 (by rfl) B.range (qa0 qa4 qa3)) (λcl C fp s₀ H₀=>pe_call GD hr1 (by rfl) hD FD.kp bD .nil pass0 (qa0 (pv 1) (qa0 qa4 qa3)))⟩ .nil rfl))⟩)⟩,?_⟩
  refine seqE ⟨_,⟨ps_set (i:=5) scBs.nd rfl (by first|left;rfl|right;rfl) (pe_call GS hr (by rfl) hS FS.kp bS .nil pass0 (Ars2.go (.cons ⟨pe_op op_add (pv 1) qa4⟩ (.cons ⟨pe_op op_add (PEb.go ⟨pe_callB call_len_seq (by rfl) B.len PySem.boot_len (Ars2.go (.cons ⟨pe_ix ix_tup (pv 2) qa4 (λ_ _=>rfl)⟩ .nil rfl))⟩) qa4⟩ (.cons ⟨pe_op op_cat (PEb.go ⟨pe_callTy call_list_of (by rfl) B.list PyProof.Rows.boot_list (Ars2.go (.cons ⟨pe_ix ix_tup (pv 2) qa4 (λ_ _=>rfl)⟩ .nil rfl))⟩) (PEb.go ⟨pe_lst (qa0 (pv 3) qa3)⟩)⟩ .nil rfl) rfl) rfl)))⟩,?_⟩
  refine lastE ⟨_,⟨ps_ret (pe_lst (Ars2.go (.cons ⟨pv 5⟩ (.cons ⟨pe_call GS hr (by rfl) hS FS.kp bS .nil pass0 (Ars2.go (.cons ⟨pe_op op_add (pv 1) qa4⟩ (.cons ⟨qa4⟩ (.cons ⟨pe_lst (qa0 (pv 4) qa3)⟩ .nil rfl) rfl) rfl))⟩ .nil rfl) rfl)))⟩,?_⟩
  have kp:∀{Ha Hb:Hp},But p Ha Hb->PurseAt Ha p->Tups Ha Hb:=λb ⟨u,v,e,_⟩=>b.tups e (λu z=>by cases z)
  obtain⟨⟨rp,ht,hR⟩,cn,hl9⟩:=id sh
  refine⟨_,rfl,by decide,by decide,λD1 hD1=>?_⟩
  have np1:p≠D1:=by obtain⟨u,v,e,_⟩:=hp;exact qa2 e hD1
  refine comp_rngB (p:=p) hD1 np1 (λH5=>PurseAt H5 p) (λ_ y=>∃x:Nat,y=.int (x:Nat)/\(x<2\/x=tp)) (by decide) (λH5 o ⟨a,b,e,r⟩=>⟨a,b,by rw[upd_ne np1];exact e,r⟩) hp ?_ ?_
  ·intro j H5 hj b5 i5 Q' hq
   have ht5:=kp b5 hp _ _ ht
   refine⟨_,rfl,t,_,1,.int (tp:Nat),rfl,rfl,SqT.of ht5,rfl,(by show 3<=sizeLine;decide),λl hl0=>?_⟩
   have U:=sameU (o:=.lst [V.int 0,V.int 1,V.int (tp:Nat)]) hl0
   have npl:l≠p:=by obtain⟨u,v,e,_⟩:=i5;exact (qa2 e hl0).symm
   refine⟨_,rfl,p,3,rfl,i5.same U,by decide,by decide,λd H6 hd b6 hp6=>?_⟩
   have hl6:=b6 _ _ qa1 npl
   match d,hd with
   |0,_=>exact⟨l,_,0,.int ((0:Nat):Int),rfl,rfl,SqL.of hl6,rfl,hq _ _ ((But.of U).trans b6) hp6 ⟨0,rfl,.inl (by decide)⟩⟩
   |1,_=>exact⟨l,_,1,.int ((1:Nat):Int),rfl,rfl,SqL.of hl6,rfl,hq _ _ ((But.of U).trans b6) hp6 ⟨1,rfl,.inl (by decide)⟩⟩
   |2,_=>exact⟨l,_,2,.int (tp:Nat),rfl,rfl,SqL.of hl6,rfl,hq _ _ ((But.of U).trans b6) hp6 ⟨tp,rfl,.inr rfl⟩⟩
  intro ys H1 b1 hp1 hd1 hly hys
  obtain⟨qs,rfl,hqs⟩:=nats_of hys
  rw[vN_len] at hly
  have hq4:qs.length=4:=hly
  refine⟨D1,_,rfl,.inl ⟨SqL.of hd1,λqa hqa=>?_⟩⟩
  have U1:=sameU (o:=.tup (vN qs)) hqa
  have hq1:upd H1 qa (.tup (vN qs)) qa=some (.tup (vN qs)):=qa1
  have hp2:=hp1.same U1
  have b2:=b1.trans (But.of (e:=p) U1)
  generalize upd H1 qa (.tup (vN qs))=H2 at U1 hq1 hp2 b2 ⊢
  refine⟨_,rfl,by decide,by decide,λD2 hD2=>?_⟩
  have np2:p≠D2:=by obtain⟨u,v,e,_⟩:=hp2;exact qa2 e hD2
  refine comp_rngB (p:=p) hD2 np2 (λH5=>PurseAt H5 p) (λ_ y=>∃x:Nat,y=.int (x:Nat)/\x<2) (by decide) (λH5 o ⟨a,b,e,r⟩=>⟨a,b,by rw[upd_ne np2];exact e,r⟩) hp2 ?_ ?_
  ·intro j H5 hj b5 i5 Q' hq
   exact⟨_,rfl,p,2,rfl,i5,by decide,by decide,λx H6 hx b6 hp6=>hq _ _ b6 hp6 ⟨x,rfl,hx⟩⟩
  intro ys H3 b3 hp3 hd3 hly hys
  obtain⟨ms,rfl,hms⟩:=nats_of hys
  rw[vN_len] at hly
  have hm4:ms.length=4:=hly
  refine⟨D2,_,rfl,.inl ⟨SqL.of hd3,λma hma=>?_⟩⟩
  have U3:=sameU (o:=.tup (vN ms)) hma
  have hm1:upd H3 ma (.tup (vN ms)) ma=some (.tup (vN ms)):=qa1
  have hp4:=hp3.same U3
  have b4:=(b2.trans b3).trans (But.of (e:=p) U3)
  have hq4':=U3.tups _ _ (kp b3 hp2 _ _ hq1)
  generalize upd H3 ma (.tup (vN ms))=H4 at U3 hm1 hp4 b4 hq4' ⊢
  have T4:=kp b4 hp
  have ht4:=T4 _ _ ht
  have hR4:=hR.mono T4
  obtain⟨bs,hrp,hbl,hbr⟩:=id hR4
  have hlb:(bs.map V.ref).length=rows.length:=by rw[List.length_map];exact hbl
  have ok1:RowsOk (rows++[qs])/\∀x,x<(rows++[qs]).length+2->dp (rows++[qs]) x<=n+1:=rows_grow cn.rok (λx hx=>Nat.le_succ_of_le (canon_deps cn x hx)) hq4 λx hx=>by
   rcases hqs x hx with h|h
   ·exact⟨by lia,by rw[dp_low h];lia⟩
   ·rw[h];exact⟨cn.inn,Nat.lt_succ_of_le cn.deep⟩
  have ok2:RowsOk [ms]/\∀x,x<[ms].length+2->dp [ms] x<=n+1:=rows_grow (rows:=[]) (λp r e=>by simp at e) (λx hx=>by rw[dp_low (by simpa using hx)];lia) hm4 λx hx=>⟨by have:=hms x hx;simpa using this,by rw[dp_low (hms x hx)];lia⟩
  refine⟨_,rfl,_,_,rfl,rfl,_,rfl,t,_,2,.ref rp,rfl,rfl,SqT.of ht4,rfl,rp,_,rfl,.inr (SqT.of hrp),_,_,rfl,rfl,_,rfl,t,_,2,.ref rp,rfl,rfl,SqT.of ht4,rfl,rp,_,rfl,.inr (SqT.of hrp),λl1 hl1=>?_⟩
  have V1:=sameU (o:=.lst (bs.map V.ref)) hl1
  refine⟨_,rfl,(by show 1<=sizeLine;decide),λl2 hl2=>?_⟩
  have V2:=sameU (o:=.lst [V.ref qa]) hl2
  refine⟨l1,l2,_,_,rfl,rfl,V2 _ _ qa1,qa1,by rw[hlb];exact Nat.le_of_lt (small1000 (by show rows.length+1<=1000;lia)),λl3 hl3=>?_⟩
  have V3:=sameU (o:=.lst (bs.map V.ref++[V.ref qa])) hl3
  have W:=V1.trans (V2.trans V3)
  have hS1:RowsS (upd (upd (upd H4 l1 (.lst (bs.map V.ref))) l2 (.lst [V.ref qa])) l3 (.lst (bs.map V.ref++[V.ref qa]))) l3 (rows++[qs]):=⟨bs++[qa],.inr (by rw[qa1,List.map_append];rfl),by rw[List.length_append,List.length_append,hbl];rfl,λi b r e1 e2=>by
   by_cases hi:i<bs.length
   ·rw[List.getElem?_append_left hi] at e1
    rw[List.getElem?_append_left (by lia)] at e2
    exact W _ _ (hbr i b r e1 e2)
   ·rw[List.getElem?_append_right (by lia)] at e1
    rw[List.getElem?_append_right (by lia),<- hbl] at e2
    have hi0:i-bs.length=0:=by
     have:=(gS_ e1).1
     simp at this
     lia
    rw[hi0] at e1 e2
    cases e1
    cases e2
    exact W _ _ hq4'⟩
  have hlr:(rows++[qs]).length=rows.length+1:=by rw[List.length_append];rfl
  refine⟨l3,n+1,rows.length+2,rows++[qs],by rw[hlb];rfl,hS1,ok1.1,by lia,by lia,by lia,ok1.2 _ (by lia),λH6 t6 s6 sh6 hle6=>?_⟩
  have W6:=W.trans s6
  refine⟨_,rfl,_,rfl,_,_,rfl,rfl,_,rfl,(by show 1<=sizeLine;decide),λl4 hl4=>?_⟩
  have V4:=sameU (o:=.lst [V.ref ma]) hl4
  refine⟨l4,n+1,2,[ms],rfl,⟨[ma],.inr qa1,rfl,λi b r e1 e2=>?_⟩,ok2.1,(by show 1<=1190890;decide),by lia,(by show 2<3;decide),ok2.2 _ (by show 2<3;decide),λH7 t7 s7 sh7 hle7=>?_⟩
  ·match i with
   |0=>cases e1;cases e2;exact V4 _ _ (W6 _ _ hm1)
   |i+1=>simp at e1
  refine⟨(by show 2<=sizeLine;decide),λD hDn=>?_⟩
  have UD:=sameU (o:=.lst [V.ref t6,V.ref t7]) hDn
  have S7:=(W6.trans V4).trans (s7.trans UD)
  exact q _ D t6 t7 _ _ _ _ (b4.trans (But.of S7)) (hp4.same S7) qa1 (same_sh (H1:=H6) ⟨sh6.1,sh6.2.1,by lia⟩ ((V4.trans s7).trans UD)) (same_sh (H1:=H7) ⟨sh7.1,sh7.2.1,Nat.le_trans hle7 (by show 1<=900;decide)⟩ UD) (by lia) hle7
theorem scNb:FnScope ["_law_found", "_law_due"] ["_law_found", "_law_due"] (defScope lIsNum):=⟨rfl,rfl,rfl,by decide +kernel,rfl,by decide +kernel,by decide +kernel⟩
def spNb:Sp:=λvs H Q _=>∃x:Nat,vs=[.int (x:Nat),.int (x:Nat)]/\Q (.bl true) H
theorem ok_Nb {f:Addr}{fd:FuncData}(F:Fun K "_law_is_number" "_law_is_number" lIsNum f fd) (B:Blt mg):FnOk P w K mg base CX0 1 f fd ["_law_found", "_law_due"] spNb:=by
 refine F.ok scNb (λvs H Q E h=>?_) (λcdv A outer s H vs Q E hr h=>?_)
 ·obtain⟨x,rfl,_⟩:=h
  rfl
 ·obtain⟨x,rfl,q⟩:=h
  refine lastE ⟨_,⟨ps_ret (pe_and (pe_callB call_isi (by rfl) B.isi PyProof.Rows.boot_isinstance (qa0 (pv 0) (qa0 (pe_bltn (v:=.ty "int") (by rfl) B.int PyProof.Rows.boot_int rfl) qa3)))
   (pe_and (pe_not (pe_callB call_isi (by rfl) B.isi PyProof.Rows.boot_isinstance (qa0 (pv 0) (qa0 (pe_bltn (v:=.ty "bool") (by rfl) B.bool PyProof.Rows.boot_bool rfl) qa3)))) (pe_one (pe_cmpR op_eq (pv 0) (pv 1) (nomark _)))))⟩,?_⟩
  refine⟨_,rfl,_,_,_,_,true,rfl,rfl,.inl (.int _),rfl,_,rfl,iteT ⟨_,rfl,_,_,_,_,false,rfl,rfl,.inl (.int _),rfl,_,rfl,_,rfl,iteT ?_⟩⟩
  refine⟨_,rfl,_,rfl,rfl,?_⟩
  rw[decide_eq_true rfl]
  exact q
theorem ok_joined {f fB oc:Addr}{fd fdB:FuncData}(F:Fun K "joined" "joined" sJoined f fd) (hB:mg "brought_together" = some (.ref fB)) (FB:Fun K "brought_together" "brought_together" sBrought fB fdB) (bB:Binds K fdB ["one", "other", "outcomes"] []) (GB:FnOk P w K mg base CX0 18 fB fdB ["one", "other", "outcomes"] (spBT K))
  (hc:mg "JOINED" = some (.ref oc)) (hout:KTup K oc (vN [0,1,1,1])):FnOk P w K mg base CX0 19 f fd ["one", "other"] (spDeed (un 0 1 1 1)):=by
 refine F.ok ⟨rfl,rfl,rfl,by decide +kernel,rfl,by decide +kernel,by decide +kernel⟩ (N:=["one", "other"]) (λvs H Q E h=>?_) (λcdv A outer s H vs Q E hr h=>?_)
 ·obtain⟨t,t',n,tp,tp',rows,orows,rfl,_⟩:=h
  rfl
 ·obtain⟨t,t',n,tp,tp',rows,orows,rfl,h1,h2,hl,q⟩:=h
  refine lastE ⟨_,⟨ps_ret (pe_call GB hr (by rfl) hB FB.kp bB .nil pass0 (qa0 (pv 0) (qa0 (pv 1) (qa0 (pe_glob (v:=.ref oc) (by rfl) hc rfl) qa3))))⟩,?_⟩
  exact⟨_,rfl,_,rfl,t,t',oc,un 0 1 1 1,n,tp,tp',rows,orows,rfl,h1,h2,hout,un_oc (by decide),hl,q⟩
theorem ok_cut {f fB oc:Addr}{fd fdB:FuncData}(F:Fun K "cut" "cut" sCut f fd) (hB:mg "brought_together" = some (.ref fB)) (FB:Fun K "brought_together" "brought_together" sBrought fB fdB) (bB:Binds K fdB ["one", "other", "outcomes"] []) (GB:FnOk P w K mg base CX0 18 fB fdB ["one", "other", "outcomes"] (spBT K))
  (hc:mg "CUT" = some (.ref oc)) (hout:KTup K oc (vN [0,0,0,1])):FnOk P w K mg base CX0 19 f fd ["one", "other"] (spDeed (un 0 0 0 1)):=by
 refine F.ok ⟨rfl,rfl,rfl,by decide +kernel,rfl,by decide +kernel,by decide +kernel⟩ (N:=["one", "other"]) (λvs H Q E h=>?_) (λcdv A outer s H vs Q E hr h=>?_)
 ·obtain⟨t,t',n,tp,tp',rows,orows,rfl,_⟩:=h
  rfl
 ·obtain⟨t,t',n,tp,tp',rows,orows,rfl,h1,h2,hl,q⟩:=h
  refine lastE ⟨_,⟨ps_ret (pe_call GB hr (by rfl) hB FB.kp bB .nil pass0 (qa0 (pv 0) (qa0 (pv 1) (qa0 (pe_glob (v:=.ref oc) (by rfl) hc rfl) qa3))))⟩,?_⟩
  exact⟨_,rfl,_,rfl,t,t',oc,un 0 0 0 1,n,tp,tp',rows,orows,rfl,h1,h2,hout,un_oc (by decide),hl,q⟩
end
theorem canon_none {n c:Nat}(hn:n<=12) (hc:c<2):Canon n c []:=by
 refine⟨hn,λp r h=>(by simp at h),(by simpa using hc),(by rw[dp_low hc];exact Nat.zero_le _),λr h=>(nomatch h),List.nodup_nil,?_⟩
 cases n with
 |zero=>rfl
 |succ n=>
  show (if c<2\/c-2∈[] then [] else _)=_
  rw[if_pos (.inl hc)]
  rfl
section
variable {P:Program}{w:World}{K:PySem.W.Frag}{mg:Str->Option Value}{base:Heap}
abbrev nTr:List Str:=["_law_one", "_law_other", "_law_many", "_law_rows_here", "_law_found"]
abbrev nTr2:List Str:=["_law_one", "_law_other"]
theorem scTr:FnScope nTr nTr2 (defScope lTwoRight):=⟨rfl,rfl,rfl,by decide +kernel,rfl,by decide +kernel,by decide +kernel⟩
def spTr:Sp:=λvs H Q _=>∃(t t':Addr) (n tp tp':Nat) (rows orows:List Row),vs=[.ref t,.ref t']/\ShapeAt H t n tp rows/\ShapeAt H t' n tp' orows/\rows.length<=60/\orows.length<=60/\∀H',Same H H'->Q (.bl true) H'
theorem ok_Tr {f fC fN fP fJ fK fW fU:Addr}{fd fdC fdN fdP fdJ fdK fdW fdU:FuncData}(F:Fun K "_law_two_right" "_law_two_right" lTwoRight f fd) (B:Blt mg)
  (hC:mg "_law_count" = some (.ref fC)) (FC:Fun K "_law_count" "_law_count" lCount fC fdC) (bC:Binds K fdC nCt2 []) (GC:FnOk P w K mg base CX0 2 fC fdC nCt2 spPairs)
  (hN:mg "_law_is_number" = some (.ref fN)) (FN:Fun K "_law_is_number" "_law_is_number" lIsNum fN fdN) (bN:Binds K fdN ["_law_found", "_law_due"] [])
  (hP:mg "pairs" = some (.ref fP)) (FP:Fun K "pairs" "pairs" sPairs fP fdP) (bP:Binds K fdP ["one", "other"] []) (GP:FnOk P w K mg base CX0 18 fP fdP ["one", "other"] spPairs)
  (hJ:mg "joined" = some (.ref fJ)) (FJ:Fun K "joined" "joined" sJoined fJ fdJ) (bJ:Binds K fdJ ["one", "other"] []) (GJ:FnOk P w K mg base CX0 19 fJ fdJ ["one", "other"] (spDeed (un 0 1 1 1)))
  (hK:mg "cut" = some (.ref fK)) (FK:Fun K "cut" "cut" sCut fK fdK) (bK:Binds K fdK ["one", "other"] []) (GK:FnOk P w K mg base CX0 19 fK fdK ["one", "other"] (spDeed (un 0 0 0 1)))
  (hW:mg "without" = some (.ref fW)) (FW:Fun K "without" "without" sWithout fW fdW) (bW:Binds K fdW ["one", "other"] []) (GW:FnOk P w K mg base CX0 19 fW fdW ["one", "other"] (spDeed (un 0 0 1 0)))
  (hU:mg "unlike" = some (.ref fU)) (FU:Fun K "unlike" "unlike" sUnlike fU fdU) (bU:Binds K fdU ["one", "other"] []) (GU:FnOk P w K mg base CX0 19 fU fdU ["one", "other"] (spDeed (un 0 1 1 0))):FnOk P w K mg base CX0 20 f fd nTr2 spTr:=by
 have GN:FnOk P w K mg base CX0 1 fN fdN ["_law_found", "_law_due"] spNb:=ok_Nb FN B
 refine F.ok scTr (λvs H Q E h=>?_) (λcdv A outer s H vs Q E hr h=>?_)
 ·obtain⟨t,t',n,tp,tp',rows,orows,rfl,_⟩:=h
  rfl
 ·obtain⟨t,t',n,tp,tp',rows,orows,rfl,h1,h2,k1,k2,q⟩:=h
  have hr1:Room 1 _:=hr.mono (by decide)
  have hr2:Room 2 _:=hr.mono (by decide)
  have hr18:Room 18 _:=hr.mono (by decide)
  refine seqE ⟨_,⟨ps_set (i:=2) scTr.nd rfl (by first|left;rfl|right;rfl) (pe_call GC hr2 (by rfl) hC FC.kp bC .nil pass0 (qa0 (pv 0) (qa0 (pv 1) qa3)))⟩,?_⟩
  refine seqE ⟨_,⟨ps_if (PW.pt (pw_or (pt_not (pt_val (PEb.go ⟨pe_call GN hr1 (by rfl) hN FN.kp bN .nil pass0 (Ars2.go (.cons ⟨pe_call GP hr18 (by rfl) hP FP.kp bP .nil pass0 (qa0 (pv 0) (qa0 (pv 1) qa3))⟩ (.cons ⟨pv 2⟩ .nil rfl) rfl))⟩))) (pw_or1 (pt_not (pt_val (PEb.go ⟨pe_call GN hr1 (by rfl) hN FN.kp bN .nil pass0 (Ars2.go (.cons ⟨pe_call GP hr18 (by rfl) hP FP.kp bP .nil pass0 (qa0 (pv 1) (qa0 (pv 0) qa3))⟩ (.cons ⟨pv 2⟩ .nil rfl) rfl))⟩)))))) pss_never pss_nil⟩,?_⟩
  refine seqE ⟨_,⟨ps_if (PW.pt (pw_or (pt_not (pt_val (PEb.go ⟨pe_call GN hr1 (by rfl) hN FN.kp bN .nil pass0 (Ars2.go (.cons ⟨pe_call GP hr18 (by rfl) hP FP.kp bP .nil pass0 (qa0 (pv 0) (qa0 (pv 0) qa3))⟩ (.cons ⟨pe_callB call_len_seq (by rfl) B.len PySem.boot_len (Ars2.go (.cons ⟨pe_ix ix_tup (pv 0) qa4 (λ_ _=>rfl)⟩ .nil rfl))⟩ .nil rfl) rfl))⟩))) (pw_or1 (pt_cmpR op_ne (PEb.go ⟨pe_call GP hr18 (by rfl) hP FP.kp bP .nil pass0 (Ars2.go (.cons ⟨pv 1⟩ (.cons ⟨pe_tup (Ars2.go (.cons ⟨pe_ix ix_tup (pv 1) qa4 (λ_ _=>rfl)⟩ (.cons ⟨qa4⟩ (.cons ⟨pe_tup qa3⟩ .nil rfl) rfl) rfl))⟩ .nil rfl) rfl))⟩) qa4 (nomark _))))) pss_never pss_nil⟩,?_⟩
  refine seqE ⟨_,⟨ps_set (i:=3) scTr.nd rfl (by first|left;rfl|right;rfl) (PEb.go ⟨pe_op op_add (PEb.go ⟨pe_callB call_len_seq (by rfl) B.len PySem.boot_len (Ars2.go (.cons ⟨pe_ix ix_tup (pv 0) qa4 (λ_ _=>rfl)⟩ .nil rfl))⟩) (PEb.go ⟨pe_callB call_len_seq (by rfl) B.len PySem.boot_len (Ars2.go (.cons ⟨pe_ix ix_tup (pv 1) qa4 (λ_ _=>rfl)⟩ .nil rfl))⟩)⟩)⟩,?_⟩
  refine seqE ⟨_,⟨ps_for PassesOwn.never rfl (piL K rfl (PEb.go ⟨@pe_lst _ _ _ _ (@PAs.pa _ _ _ (PAs.cons (pe_call GJ hr (by rfl) hJ FJ.kp bJ .nil pass0 (qa0 (pv 0) (qa0 (pv 1) qa3))) (PAs.cons (pe_call GK hr (by rfl) hK FK.kp bK .nil pass0 (qa0 (pv 0) (qa0 (pv 1) qa3))) (PAs.cons (pe_call GW hr (by rfl) hW FW.kp bW .nil pass0 (qa0 (pv 0) (qa0 (pv 1) qa3))) (PAs.cons (pe_call GW hr (by rfl) hW FW.kp bW .nil pass0 (qa0 (pv 1) (qa0 (pv 0) qa3))) PAs.nil)))))⟩)) (pg_name (i:=4) scTr.nd rfl (by first|left;rfl|right;rfl))
   (StB.go (.one ⟨ps_if (pt_cmpR op_gt (PEb.go ⟨pe_callB call_len_seq (by rfl) B.len PySem.boot_len (Ars2.go (.cons ⟨pe_ix ix_tup (pv 4) qa4 (λ_ _=>rfl)⟩ .nil rfl))⟩) (pe_op op_add (pv 2) (pv 3)) (nomark _)) pss_never pss_nil⟩))⟩,?_⟩
  refine lastE ⟨_,⟨ps_ret (pe_cmpR op_le (PEb.go ⟨pe_callB call_len_seq (by rfl) B.len PySem.boot_len (Ars2.go (.cons ⟨pe_ix ix_tup (PEb.go ⟨pe_call GU hr (by rfl) hU FU.kp bU .nil pass0 (qa0 (pv 0) (qa0 (pv 1) qa3))⟩) qa4 (λ_ _=>rfl)⟩ .nil rfl))⟩) (PEb.go ⟨pe_op op_add (pv 2) (pe_op op_mul qa4 (pv 3))⟩) (nomark _))⟩,?_⟩
  have hN0:rows.length*orows.length<=60*60:=Nat.mul_le_mul k1 k2
  have hN1:rows.length*orows.length<=1000000:=by lia
  have hN2:orows.length*rows.length<=1000000:=by rw[Nat.mul_comm];exact hN1
  have hN3:rows.length*rows.length<=1000000:=Nat.le_trans (Nat.mul_le_mul k1 k1) (by decide)
  have c1:=h1.2.1
  have c2:=h2.2.1
  refine⟨_,rfl,_,rfl,t,t',n,tp,tp',rows,orows,rfl,h1,h2,hN1,λH1 m s1 hc=>?_⟩
  refine⟨_,rfl,_,rfl,t,t',n,tp,tp',rows,orows,rfl,same_sh h1 s1,same_sh h2 s1,hN1,λH2 m2 s2 hc2=>?_⟩
  have e2:=hc2.uniq hc
  subst e2
  refine⟨_,rfl,m2,rfl,_,rfl,iteF ?_⟩
  have s12:=s1.trans s2
  refine⟨_,rfl,_,rfl,t',t,n,tp',tp,orows,rows,rfl,same_sh h2 s12,same_sh h1 s12,hN2,λH3 m3 s3 hc3=>?_⟩
  have e3:=hc3.swap.uniq hc
  subst e3
  refine⟨_,rfl,m3,rfl,_,rfl,iteF ?_⟩
  have s13:=s12.trans s3
  refine⟨_,rfl,_,rfl,t,t,n,tp,tp,rows,rows,rfl,same_sh h1 s13,same_sh h1 s13,hN3,λH4 m4 s4 hc4=>?_⟩
  have e4:=hc4.uniq (Cnt.self c1)
  subst e4
  have s14:=s13.trans s4
  obtain⟨⟨rp,ht,hR⟩,_,_⟩:=same_sh h1 s14
  obtain⟨op,ht',hR'⟩:=(same_sh h2 s14).1
  obtain⟨bs,hrp,hbl,_⟩:=id hR
  obtain⟨cs,hop,hcl,_⟩:=id hR'
  have hlb:(bs.map V.ref).length=rows.length:=by rw[List.length_map];exact hbl
  have hlc:(cs.map V.ref).length=orows.length:=by rw[List.length_map];exact hcl
  refine⟨_,rfl,t,_,2,.ref rp,rfl,rfl,SqT.of ht,rfl,rp,_,rfl,.inr (SqT.of hrp),rows.length,by rw[hlb];rfl,_,rfl,iteF ?_⟩
  refine⟨_,rfl,_,rfl,t',_,0,.int (n:Nat),rfl,rfl,SqT.of ht',rfl,(by show 0<=sizeLine;decide),λe he=>⟨(by show 3<=sizeLine;decide),λu hu=>?_⟩⟩
  have V1:=sameU (o:=.tup []) he
  have V2:=sameU (o:=.tup [V.int (n:Nat),V.int 1,V.ref e]) hu
  have s15:=s14.trans (V1.trans V2)
  refine⟨t',u,n,tp',1,orows,[],rfl,same_sh h2 s15,⟨⟨e,qa1,[],V2 _ _ qa1,rfl,λi b r e1 _=>by simp at e1⟩,canon_none c1.size (by decide),by decide⟩,by simp,λH6 m6 s6 hc6=>?_⟩
  have e6:=hc6.uniq (Cnt.plain (by decide))
  subst e6
  refine⟨rfl,_,rfl,iteF ?_⟩
  have s16:=s15.trans s6
  have W:=(V1.trans V2).trans s6
  refine⟨_,rfl,t,_,2,.ref rp,rfl,rfl,SqT.of (W _ _ ht),rfl,rp,_,rfl,.inr (SqT.of (W _ _ hrp)),_,rfl,t',_,2,.ref op,rfl,rfl,SqT.of (W _ _ ht'),rfl,op,_,rfl,.inr (SqT.of (W _ _ hop)),_,_,rfl,rfl,?_⟩
  rw[hlb,hlc]
  have hsz:2*rows.length+2*orows.length+rows.length*orows.length<=1190890:=by lia
  have hsz':2*orows.length+2*rows.length+orows.length*rows.length<=1190890:=by rw[Nat.mul_comm orows.length];lia
  refine⟨_,rfl,_,rfl,t,t',n,tp,tp',rows,orows,rfl,same_sh h1 s16,same_sh h2 s16,hsz,λH7 t7 q7 r7 s7 sh7 hT7 hl7=>?_⟩
  have s17:=s16.trans s7
  refine⟨_,rfl,_,rfl,t,t',n,tp,tp',rows,orows,rfl,same_sh h1 s17,same_sh h2 s17,hsz,λH8 t8 q8 r8 s8 sh8 hT8 hl8=>?_⟩
  have s18:=s17.trans s8
  refine⟨_,rfl,_,rfl,t,t',n,tp,tp',rows,orows,rfl,same_sh h1 s18,same_sh h2 s18,hsz,λH9 t9 q9 r9 s9 sh9 hT9 hl9=>?_⟩
  have s19:=s18.trans s9
  refine⟨_,rfl,_,rfl,t',t,n,tp',tp,orows,rows,rfl,same_sh h2 s19,same_sh h1 s19,hsz',λHa ta qa ra sa sha hTa hla=>?_⟩
  have s1a:=s19.trans sa
  refine⟨(by show 4<=sizeLine;decide),λD hDn=>?_⟩
  have U:=sameU (o:=.lst [V.ref t7,V.ref t8,V.ref t9,V.ref ta]) hDn
  have hD:upd Ha D (.lst [V.ref t7,V.ref t8,V.ref t9,V.ref ta]) D=some (.lst ([t7,t8,t9,ta].map V.ref)):=qa1
  have f7:=same_shB sh7 ((s8.trans (s9.trans sa)).trans U)
  have f8:=same_shB sh8 ((s9.trans sa).trans U)
  have f9:=same_shB sh9 (sa.trans U)
  have fa:=same_shB sha U
  have s1b:=s1a.trans U
  generalize upd Ha D (.lst [V.ref t7,V.ref t8,V.ref t9,V.ref ta])=Hb at U hD f7 f8 f9 fa s1b ⊢
  have tw:∀{C:Nat->Prop},C 0->C 1->∀j,j<2->C j:=λh0 h1 j hj=>by
   have:j=0\/j=1:=by lia
   rcases this with rfl|rfl
   ·exact h0
   ·exact h1
  have b7:=rows_few (u:=un 0 1 1 1) (un_oc (by decide)) sh7.2.1 c1 c2 hT7 [false] [false] (tw (by decide) (by decide)) (tw (by decide) (by decide)) hc
  have b8:=rows_few (u:=un 0 0 0 1) (un_oc (by decide)) sh8.2.1 c1 c2 hT8 [false] [false] (tw (by decide) (by decide)) (tw (by decide) (by decide)) hc
  have b9:=rows_few (u:=un 0 0 1 0) (un_oc (by decide)) sh9.2.1 c1 c2 hT9 [false] [true] (tw (by decide) (by decide)) (tw (by decide) (by decide)) hc
  have ba:=rows_few (u:=un 0 0 1 0) (un_oc (by decide)) sha.2.1 c2 c1 hTa [false] [true] (tw (by decide) (by decide)) (tw (by decide) (by decide)) hc.swap
  simp only[List.length_cons,List.length_nil,Nat.zero_add,Nat.one_mul] at b7 b8 b9 ba
  have all:∀(j:Nat) g,[t7,t8,t9,ta][j]?=some g->∃tq rq,ShapeB Hb g n tq rq/\rq.length<=m3+(rows.length+orows.length):=λj g e=>by
   match j,e with
   |0,e=>cases e;exact⟨q7,r7,f7,b7⟩
   |1,e=>cases e;exact⟨q8,r8,f8,b8⟩
   |2,e=>cases e;exact⟨q9,r9,f9,b9⟩
   |3,e=>cases e;exact⟨qa,ra,fa,by lia⟩
   |j+4,e=>simp at e
  refine⟨D,rfl,⟨_,SqL.of hD⟩,for_list (K:=K) (a:=D) (xs:=[t7,t8,t9,ta].map V.ref) (λj σ H2=>Same Hb H2/\∃v4,σ=[some (.ref t),some (.ref t'),some (.int (m3:Nat)),some (.int ((rows.length:Int)+(orows.length:Int))),v4]) ⟨Same.refl _,_,rfl⟩ (λj σ H2 _ h=>SqL.of (h.1 _ _ hD)) ?_ ?_⟩
  ·rintro j x σ Hc hx ⟨sc,v4,rfl⟩
   rw[List.getElem?_map] at hx
   obtain⟨g,hg,rfl⟩:=Option.map_eq_some_iff.mp hx
   obtain⟨tq,rq,shq,hlq⟩:=all j g hg
   obtain⟨⟨gp,hgt,hgR⟩,_,_⟩:=same_shB shq sc
   obtain⟨gs,hgp,hgl,_⟩:=id hgR
   refine⟨_,rfl,g,_,2,.ref gp,rfl,rfl,SqT.of hgt,rfl,gp,_,rfl,.inr (SqT.of hgp),_,rfl,_,rfl,_,_,rfl,rfl,_,_,rfl,rfl,_,rfl,?_⟩
   refine ite2 (λhcc=>?_) (λ_=>⟨sc,_,rfl⟩)
   have:=of_decide_eq_true hcc
   rw[List.length_map,hgl] at this
   lia
  ·rintro σ Hc ⟨sc,v4,rfl⟩
   have s1c:=s1b.trans sc
   refine⟨_,rfl,_,rfl,t,t',n,tp,tp',rows,orows,rfl,same_sh h1 s1c,same_sh h2 s1c,hsz,λHd tu qu ru su shu hTu hlu=>?_⟩
   have bu:=rows_few (u:=un 0 1 1 0) (un_oc (by decide)) shu.2.1 c1 c2 hTu [false,true] [false,true] (tw (by decide) (by decide)) (tw (by decide) (by decide)) hc
   simp only[List.length_cons,List.length_nil,Nat.zero_add] at bu
   obtain⟨⟨gp,hgt,hgR⟩,_,_⟩:=shu
   obtain⟨gs,hgp,hgl,_⟩:=id hgR
   refine⟨tu,_,2,.ref gp,rfl,rfl,SqT.of hgt,rfl,gp,_,rfl,.inr (SqT.of hgp),_,rfl,_,rfl,_,_,rfl,rfl,.inl ⟨by decide,by decide⟩,_,_,rfl,rfl,_,_,rfl,rfl,?_⟩
   have e:decide ((((gs.map V.ref).length:Nat):Int)<=(m3:Int)+2*((rows.length:Int)+(orows.length:Int)))=true:=decide_eq_true (by rw[List.length_map,hgl];lia)
   have qq:=q Hd (s1c.trans su)
   rw[<- e] at qq
   exact qq
abbrev nLaw:List Str:=["_law_script", "_law_k", "_law_purse_here", "_law_n", "_law_one", "_law_other", "_law_high", "_law_mask"]
theorem scLaw:FnScope nLaw ["_law_script"] (defScope lLaw):=⟨rfl,rfl,rfl,by decide +kernel,rfl,by decide +kernel,by decide +kernel⟩
def spLaw (K:PySem.W.Frag):Sp:=λvs H Q _=>∃(a:Addr) (ns:List Int),vs=[.ref a]/\SqL K H a (ns.map V.int)/\ns.length<=63/\∀H',Q (.bl true) H'
theorem ok_law {f fP fD fT fB fR:Addr}{fd fdP fdD fdT fdB fdR:FuncData}(F:Fun K "law" "law" lLaw f fd) (B:Blt mg)
  (hP:mg "_law_purse" = some (.ref fP)) (FP:Fun K "_law_purse" "_law_purse" lPurse fP fdP) (bP:Binds K fdP ["_law_script", "_law_k"] [])
  (hD:mg "_law_draw" = some (.ref fD)) (FD:Fun K "_law_draw" "_law_draw" lDraw fD fdD) (bD:Binds K fdD ["_law_purse_here", "_law_many"] [])
  (hT:mg "_law_two" = some (.ref fT)) (FT:Fun K "_law_two" "_law_two" lTwo fT fdT) (bT:Binds K fdT nTwo3 []) (GT:FnOk P w K mg base CX0 16 fT fdT nTwo3 spTwo)
  (hB:mg "_law_beside" = some (.ref fB)) (FB:Fun K "_law_beside" "_law_beside" lBesideL fB fdB) (bB:Binds K fdB nBs3 []) (GB:FnOk P w K mg base CX0 15 fB fdB nBs3 spBs)
  (hR:mg "_law_two_right" = some (.ref fR)) (FR:Fun K "_law_two_right" "_law_two_right" lTwoRight fR fdR) (bR:Binds K fdR nTr2 []) (GR:FnOk P w K mg base CX0 20 fR fdR nTr2 spTr) :
  FnOk P w K mg base CX0 21 f fd ["_law_script"] (spLaw K):=by
 have GP:FnOk P w K mg base CX0 1 fP fdP ["_law_script", "_law_k"] (spPurse K):=ok_purse FP B
 have GD:FnOk P w K mg base CX0 1 fD fdD ["_law_purse_here", "_law_many"] spDraw:=ok_draw FD
 refine F.ok scLaw (λvs H Q E h=>?_) (λcdv A outer s H vs Q E hr h=>?_)
 ·obtain⟨a,ns,rfl,_⟩:=h
  rfl
 ·obtain⟨a,ns,rfl,hS,hlen,q⟩:=h
  have hr1:Room 1 _:=hr.mono (by decide)
  have hr15:Room 15 _:=hr.mono (by decide)
  have hr16:Room 16 _:=hr.mono (by decide)
  refine seqE ⟨_,⟨ps_for PassesOwn.never rfl (pi_range1 (by rfl) B.range (qa0 (pe_callB (call_max2 rfl) (by rfl) B.max PyProof.Rows.boot_max (qa0 qa4 (qa0 (pe_callB (call_min2 rfl) (by rfl) B.min PyProof.Rows.boot_min (qa0 (pe_callB call_len_seq (by rfl) B.len PySem.boot_len (qa0 (pv 0) qa3)) (qa0 qa4 qa3))) qa3))) qa3)) (pg_name (i:=1) scLaw.nd rfl (by first|left;rfl|right;rfl))
   (StB.go (.cons ⟨ps_set (i:=2) scLaw.nd rfl (by first|left;rfl|right;rfl) (pe_call GP hr1 (by rfl) hP FP.kp bP .nil pass0 (qa0 (pv 0) (qa0 (pv 1) qa3)))⟩
   (.cons ⟨ps_set (i:=3) scLaw.nd rfl (by first|left;rfl|right;rfl) (pe_call GD hr1 (by rfl) hD FD.kp bD .nil pass0 (qa0 (pv 2) (qa0 qa4 qa3)))⟩
   (.cons ⟨ps_asg (PEb.go ⟨pe_call GT hr16 (by rfl) hT FT.kp bT .nil pass0 (qa0 (pv 2) (qa0 (pv 3) (qa0 qa4 qa3)))⟩) (pg_lst rfl (pgs_cons (pg_name (i:=4) scLaw.nd rfl (by first|left;rfl|right;rfl)) (pgs_cons (pg_name (i:=5) scLaw.nd rfl (by first|left;rfl|right;rfl)) pgs_nil)))⟩
   (.cons ⟨ps_asg (PEb.go ⟨pe_call GB hr15 (by rfl) hB FB.kp bB .nil pass0 (qa0 (pv 2) (qa0 (pv 3) (qa0 (pv 4) qa3)))⟩) (pg_lst rfl (pgs_cons (pg_name (i:=6) scLaw.nd rfl (by first|left;rfl|right;rfl)) (pgs_cons (pg_name (i:=7) scLaw.nd rfl (by first|left;rfl|right;rfl)) pgs_nil)))⟩
   (.one ⟨ps_if (PW.pt (pw_or (pt_not (pt_val (PEb.go ⟨pe_call GR hr (by rfl) hR FR.kp bR .nil pass0 (qa0 (pv 4) (qa0 (pv 5) qa3))⟩))) (pw_or1 (pt_not (pt_val (PEb.go ⟨pe_call GR hr (by rfl) hR FR.kp bR .nil pass0 (qa0 (pv 6) (qa0 (pv 7) qa3))⟩)))))) pss_never pss_nil⟩))))))⟩,?_⟩
  refine lastE ⟨_,⟨ps_ret pe_bl⟩,?_⟩
  refine⟨_,rfl,a,_,rfl,.inl hS,_,_,rfl,_,_,rfl,_,rfl,?_,?_,for_range (λi σ H2=>(i:Int)<=4/\Same H H2/\∃v1 v2 v3 v4 v5 v6 v7,σ=[some (.ref a),v1,v2,v3,v4,v5,v6,v7]) ⟨by decide,Same.refl _,none,none,none,none,none,none,none,rfl⟩ ?_ ?_⟩
  ·split<;>(try split)<;>lia
  ·split<;>(try split)<;>lia
  ·rintro i σ H2 hi ⟨i1,s2,v1,v2,v3,v4,v5,v6,v7,rfl⟩
   have hi':(i:Int)<4:=by
    revert hi
    split<;>(try split)<;>lia
   refine⟨_,rfl,_,rfl,a,_,ns,rfl,s2.seq hS,hlen,by lia,by lia,λH3 p s3 hpn hp3=>?_⟩
   refine⟨_,rfl,p,12,rfl,hp3,by decide,by decide,λn H4 hn b4 hp4=>?_⟩
   refine⟨_,rfl,_,rfl,p,n,20,rfl,hp4,by lia,by decide,λH5 D t t' tp tp' rws rws' b5 hp5 hD5 sh5 sh5' hl5 hl5'=>?_⟩
   refine⟨D,_,rfl,SqL.of hD5,rfl,_,_,rfl,_,_,rfl,rfl,?_⟩
   refine⟨_,rfl,_,rfl,_,rfl,p,t,n,tp,rws,rfl,hp5,sh5,by lia,by lia,λH6 D6 u1 u2 q1 q2 r1 r2 b6 hp6 hD6 sh6 sh6' hl6 hl6'=>?_⟩
   refine⟨D6,_,rfl,SqL.of hD6,rfl,_,_,rfl,_,_,rfl,rfl,?_⟩
   have tk:Tups H5 H6:=by
    obtain⟨u,v,e,_⟩:=hp5
    exact b6.tups e (λu z=>by cases z)
   have st:∀{t tp:Nat}{rows:List Row},ShapeAt H5 t n tp rows->ShapeAt H6 t n tp rows:=λ⟨⟨p',x1,x2⟩,x3⟩=>⟨⟨p',tk _ _ x1,x2.mono tk⟩,x3⟩
   have S6:Same H H6:=λb o e=>by
    have e2:=s2 b o e
    have nb:b≠p:=qa2 e2 hpn
    exact b6 _ _ (b5 _ _ (b4 _ _ (s3 _ _ e2) nb) nb) nb
   refine⟨_,rfl,_,rfl,t,t',n,tp,tp',rws,rws',rfl,st sh5,st sh5',by lia,by lia,λH7 s7=>⟨_,rfl,iteF ?_⟩⟩
   refine⟨_,rfl,_,rfl,u1,u2,n+1,q1,q2,r1,r2,rfl,same_sh sh6 s7,same_sh sh6' s7,by lia,by lia,λH8 s8=>⟨_,rfl,iteF ⟨by lia,S6.trans (s7.trans s8),_,_,_,_,_,_,_,rfl⟩⟩⟩
  ·rintro σ H2 ⟨_,_,v1,v2,v3,v4,v5,v6,v7,rfl⟩
   exact q H2
end
def DefIn (K:PySem.W.Frag) (x:Str) (st:Stmt):Prop:=∃(f:Addr) (fd:FuncData),PySem.W.nsIn K mainGlobals x=some (some (.ref f))/\Fun K x x st f fd
theorem d_mk {K:PySem.W.Frag}{x:Str}{st:Stmt}{f:Addr}{od an:Option Addr}{sl:Array (Option Value)}{oc kV dc pm cd ct:Value}(a:PySem.W.nsIn K mainGlobals x=some (some (.ref f)))
  (l:K.lookup f=some ⟨oc,od,.func (PySem.W.fnOf x x (defArgs st) (defBody st) (defScope st) .none kV dc pm an cd ct),sl⟩) (c:PySem.W.codeIn K cd x=true) (k:PySem.W.keepIn K (.ref f)=true):DefIn K x st:=⟨f,_,a,fun_mk l c k⟩
def NoName (K:PySem.W.Frag) (x:Str):Prop:=PySem.W.nsIn K mainGlobals x=some none
def MethIn (K:PySem.W.Frag) (C:Addr) (m qn:Str) (st:Stmt):Prop:=∃(f:Addr) (fd:FuncData),PySem.W.findIn K (.ref C) m=some (some (.ref f))/\PySem.W.isFn K (.ref f)=true/\Fun K m qn st f fd
theorem m_mk {K:PySem.W.Frag}{C:Addr}{m qn:Str}{st:Stmt}{f:Addr}{od an:Option Addr}{sl:Array (Option Value)}{oc kV dc pm cd ct:Value}(a:PySem.W.findIn K (.ref C) m=some (some (.ref f))) (i:PySem.W.isFn K (.ref f)=true)
  (l:K.lookup f=some ⟨oc,od,.func (PySem.W.fnOf m qn (defArgs st) (defBody st) (defScope st) .none kV dc pm an cd ct),sl⟩) (c:PySem.W.codeIn K cd qn=true) (k:PySem.W.keepIn K (.ref f)=true):MethIn K C m qn st:=⟨f,_,a,i,fun_mk l c k⟩
theorem kt_mk {K:PySem.W.Frag}{a:Addr}{od:Option Addr}{sl:Array (Option Value)}{t0 t1 t2 t3:Tok}{n a0 a1 a2 a3:Nat}(l:K.lookup a=some ⟨.type "tuple",od,.seq #[.int (a0:Nat) t0,.int (a1:Nat) t1,.int (a2:Nat) t2,.int (a3:Nat) t3] n,sl⟩):KTup K a (vN [a0,a1,a2,a3]):=
 ⟨_,_,_,l,rfl,rfl,(by show 4<=sizeLine;decide),.cons ⟨_,rfl⟩ (.cons ⟨_,rfl⟩ (.cons ⟨_,rfl⟩ (.cons ⟨_,rfl⟩ .nil)))⟩
theorem all_mk {l:PySem.W.OpenLaw}{w:World}{K:PySem.W.Frag}{h:Heap}{mg:Str->Option Value}{fa fL C0 C1 O0 O1 O2 O3:Addr}(X:K.In h) (G:h.Ns mainGlobals mg) (hfa:mg "law" = some (.ref fa)){odL anL:Option Addr}{slL:Array (Option Value)}{ocL kVL dcL pmL cdL ctL:Value}{t0 t1 t2 t3:Tok}
  (aL:PySem.W.nsIn K mainGlobals "law" = some (some (.ref fL))) (lL:K.lookup fL=some ⟨ocL,odL,.func (PySem.W.fnOf "law" "law" (defArgs lLaw) (defBody lLaw) (defScope lLaw) .none kVL dcL pmL anL cdL ctL),slL⟩) (cL:PySem.W.codeIn K cdL "law" = true) (kL:PySem.W.keepIn K (.ref fL)=true)
  (g0:PySem.W.nsIn K mainGlobals "FIRST" = some (some (.int 2 t0))) (g1:PySem.W.nsIn K mainGlobals "FULL" = some (some (.int 1 t1))) (g2:PySem.W.nsIn K mainGlobals "GREATEST_SIZE" = some (some (.int 12 t2))) (g3:PySem.W.nsIn K mainGlobals "EMPTY" = some (some (.int 0 t3)))
  (d0:DefIn K "is_whole" sWhole) (d1:DefIn K "is_plain" sPlain) (d2:DefIn K "depths_of" sDeps) (d3:DefIn K "end_rows" sEnd) (d4:DefIn K "places_as_ended" sPlaces) (d5:DefIn K "renumbered" sRenum) (d6:DefIn K "shape_of" sShapeOf) (d7:DefIn K "is_size" sSize) (d8:DefIn K "is_number" sNumber) (d9:DefIn K "is_row" sRow) (d10:DefIn K "are_rows" sRows) (d11:DefIn K "is_telling" sTelling) (d12:DefIn K "is_shape" sShape) (d13:DefIn K "want_shape" sWantS) (d14:DefIn K "want_one_floor" sWantO) (d15:DefIn K "exchanged" sExch) (d16:DefIn K "exchanged_rows" sExchR) (d17:DefIn K "both_ways" sBoth) (d18:DefIn K "number_beside_plain" sBeside) (d19:DefIn K "brought_together" sBrought) (d20:DefIn K "joined" sJoined) (d21:DefIn K "cut" sCut) (d22:DefIn K "without" sWithout) (d23:DefIn K "unlike" sUnlike) (d24:DefIn K "gather_pairs" sGather) (d25:DefIn K "pairs" sPairs) (d26:DefIn K "_law_purse" lPurse) (d27:DefIn K "_law_draw" lDraw) (d28:DefIn K "_law_quarter" lQuarter) (d29:DefIn K "_law_depths" lDeps) (d30:DefIn K "_law_rows" lRows) (d31:DefIn K "_law_ends" lEnds) (d32:DefIn K "_law_shape" lShape) (d33:DefIn K "_law_drawn" lDrawn) (d34:DefIn K "_law_two" lTwo) (d35:DefIn K "_law_count" lCount) (d36:DefIn K "_law_beside" lBesideL) (d37:DefIn K "_law_is_number" lIsNum) (d38:DefIn K "_law_two_right" lTwoRight)
  (z0:NoName K "isinstance") (z1:NoName K "int") (z2:NoName K "bool") (z3:NoName K "tuple") (z4:NoName K "list") (z5:NoName K "set") (z6:NoName K "len") (z7:NoName K "all") (z8:NoName K "any") (z9:NoName K "enumerate") (z10:NoName K "range") (z11:NoName K "max") (z12:NoName K "min") (z13:NoName K "zip")
  (ac0:PySem.W.nsIn K mainGlobals "Book" = some (some (.ref C0))) (cl0:Cls K C0) (mk0:PySem.W.makesIn K C0=true) (kc0:PySem.W.keepIn K (.ref C0)=true) (na0_0:NoAttr K C0 "kept") (na0_1:NoAttr K C0 "numbers") (md0_0:MethIn K C0 "__init__" "Book.__init__" sBkInit) (md0_1:MethIn K C0 "number_for" "Book.number_for" sBkNum) (md0_2:MethIn K C0 "numbers_for" "Book.numbers_for" sBkNums)
  (ac1:PySem.W.nsIn K mainGlobals "Deed" = some (some (.ref C1))) (cl1:Cls K C1) (mk1:PySem.W.makesIn K C1=true) (kc1:PySem.W.keepIn K (.ref C1)=true) (na1_0:NoAttr K C1 "rows") (na1_1:NoAttr K C1 "other_rows") (na1_2:NoAttr K C1 "outcomes") (na1_3:NoAttr K C1 "book") (na1_4:NoAttr K C1 "ways") (na1_5:NoAttr K C1 "other_ways") (na1_6:NoAttr K C1 "known") (md1_0:MethIn K C1 "__init__" "Deed.__init__" sDdInit) (md1_1:MethIn K C1 "number_for_pair" "Deed.number_for_pair" sDdPair)
  (on0:PySem.W.nsIn K mainGlobals "JOINED" = some (some (.ref O0)))
  (on1:PySem.W.nsIn K mainGlobals "CUT" = some (some (.ref O1)))
  (on2:PySem.W.nsIn K mainGlobals "WITHOUT" = some (some (.ref O2)))
  (on3:PySem.W.nsIn K mainGlobals "UNLIKE" = some (some (.ref O3)))
  (ok0:KTup K O0 (vN [0,1,1,1]))
  (ok1:KTup K O1 (vN [0,0,0,1]))
  (ok2:KTup K O2 (vN [0,0,1,0]))
  (ok3:KTup K O3 (vN [0,1,1,0])) :
  ∃fd:FuncData,(∀(s:Shared) (v:Value),BindsTo s fd ⟨[v],[]⟩ [("_law_script",v)])/\∀base:Heap,K.In base->base.Ns mainGlobals mg->FnOk l.prog w K mg base CX0 21 fa fd ["_law_script"] (spLaw K):=by
 have e:=hfa.symm.trans (PySem.W.mg_of X G aL)
 cases e
 have nn:∀{x:Str},NoName K x->mg x=none:=λz=>PySem.W.mg_none_of X G z
 have B:Blt mg:=⟨nn z0,nn z1,nn z2,nn z3,nn z4,nn z5,nn z6,nn z7,nn z8,nn z9,nn z10,nn z11,nn z12⟩
 have T:Cst mg:=⟨⟨t0,PySem.W.mg_of X G g0⟩,⟨t1,PySem.W.mg_of X G g1⟩,⟨t2,PySem.W.mg_of X G g2⟩⟩
 have FL:=fun_mk (st:=lLaw) lL cL kL
 obtain⟨f0,fd0,a0,F0⟩:=d0
 have h0:=PySem.W.mg_of X G a0
 have b0:=F0.binds (ps:=["thing"]) λ_ _ _ _ _ _ us hl=>match us,hl with|[_],_=>rfl
 obtain⟨f1,fd1,a1,F1⟩:=d1
 have h1:=PySem.W.mg_of X G a1
 have b1:=F1.binds (ps:=["row"]) λ_ _ _ _ _ _ us hl=>match us,hl with|[_],_=>rfl
 obtain⟨f2,fd2,a2,F2⟩:=d2
 have h2:=PySem.W.mg_of X G a2
 have b2:=F2.binds (ps:=["rows"]) λ_ _ _ _ _ _ us hl=>match us,hl with|[_],_=>rfl
 obtain⟨f3,fd3,a3,F3⟩:=d3
 have h3:=PySem.W.mg_of X G a3
 have b3:=F3.binds (ps:=["rows", "number", "ended"]) λ_ _ _ _ _ _ us hl=>match us,hl with|[_,_,_],_=>rfl
 obtain⟨f4,fd4,a4,F4⟩:=d4
 have h4:=PySem.W.mg_of X G a4
 have b4:=F4.binds (ps:=["rows", "top"]) λ_ _ _ _ _ _ us hl=>match us,hl with|[_,_],_=>rfl
 obtain⟨f5,fd5,a5,F5⟩:=d5
 have h5:=PySem.W.mg_of X G a5
 have b5:=F5.binds (ps:=["row", "numbers"]) λ_ _ _ _ _ _ us hl=>match us,hl with|[_,_],_=>rfl
 obtain⟨f6,fd6,a6,F6⟩:=d6
 have h6:=PySem.W.mg_of X G a6
 have b6:=F6.binds (ps:=["n", "top", "rows"]) λ_ _ _ _ _ _ us hl=>match us,hl with|[_,_,_],_=>rfl
 obtain⟨f7,fd7,a7,F7⟩:=d7
 have h7:=PySem.W.mg_of X G a7
 have b7:=F7.binds (ps:=["thing"]) λ_ _ _ _ _ _ us hl=>match us,hl with|[_],_=>rfl
 obtain⟨f8,fd8,a8,F8⟩:=d8
 have h8:=PySem.W.mg_of X G a8
 have b8:=F8.binds (ps:=["thing", "many"]) λ_ _ _ _ _ _ us hl=>match us,hl with|[_,_],_=>rfl
 obtain⟨f9,fd9,a9,F9⟩:=d9
 have h9:=PySem.W.mg_of X G a9
 have b9:=F9.binds (ps:=["thing", "before"]) λ_ _ _ _ _ _ us hl=>match us,hl with|[_,_],_=>rfl
 obtain⟨f10,fd10,a10,F10⟩:=d10
 have h10:=PySem.W.mg_of X G a10
 have b10:=F10.binds (ps:=["thing"]) λ_ _ _ _ _ _ us hl=>match us,hl with|[_],_=>rfl
 obtain⟨f11,fd11,a11,F11⟩:=d11
 have h11:=PySem.W.mg_of X G a11
 have b11:=F11.binds (ps:=["thing"]) λ_ _ _ _ _ _ us hl=>match us,hl with|[_],_=>rfl
 obtain⟨f12,fd12,a12,F12⟩:=d12
 have h12:=PySem.W.mg_of X G a12
 have b12:=F12.binds (ps:=["thing"]) λ_ _ _ _ _ _ us hl=>match us,hl with|[_],_=>rfl
 obtain⟨f13,fd13,a13,F13⟩:=d13
 have h13:=PySem.W.mg_of X G a13
 have b13:=F13.binds (ps:=["shape"]) λ_ _ _ _ _ _ us hl=>match us,hl with|[_],_=>rfl
 obtain⟨f14,fd14,a14,F14⟩:=d14
 have h14:=PySem.W.mg_of X G a14
 have b14:=F14.binds (ps:=["one", "other"]) λ_ _ _ _ _ _ us hl=>match us,hl with|[_,_],_=>rfl
 obtain⟨f15,fd15,a15,F15⟩:=d15
 have h15:=PySem.W.mg_of X G a15
 have b15:=F15.binds (ps:=["number"]) λ_ _ _ _ _ _ us hl=>match us,hl with|[_],_=>rfl
 obtain⟨f16,fd16,a16,F16⟩:=d16
 have h16:=PySem.W.mg_of X G a16
 have b16:=F16.binds (ps:=["rows"]) λ_ _ _ _ _ _ us hl=>match us,hl with|[_],_=>rfl
 obtain⟨f17,fd17,a17,F17⟩:=d17
 have h17:=PySem.W.mg_of X G a17
 have b17:=F17.binds (ps:=["book", "rows"]) λ_ _ _ _ _ _ us hl=>match us,hl with|[_,_],_=>rfl
 obtain⟨f18,fd18,a18,F18⟩:=d18
 have h18:=PySem.W.mg_of X G a18
 have b18:=F18.binds (ps:=["ways", "number", "outcomes"]) λ_ _ _ _ _ _ us hl=>match us,hl with|[_,_,_],_=>rfl
 obtain⟨f19,fd19,a19,F19⟩:=d19
 have h19:=PySem.W.mg_of X G a19
 have b19:=F19.binds (ps:=["one", "other", "outcomes"]) λ_ _ _ _ _ _ us hl=>match us,hl with|[_,_,_],_=>rfl
 obtain⟨f20,fd20,a20,F20⟩:=d20
 have h20:=PySem.W.mg_of X G a20
 have b20:=F20.binds (ps:=["one", "other"]) λ_ _ _ _ _ _ us hl=>match us,hl with|[_,_],_=>rfl
 obtain⟨f21,fd21,a21,F21⟩:=d21
 have h21:=PySem.W.mg_of X G a21
 have b21:=F21.binds (ps:=["one", "other"]) λ_ _ _ _ _ _ us hl=>match us,hl with|[_,_],_=>rfl
 obtain⟨f22,fd22,a22,F22⟩:=d22
 have h22:=PySem.W.mg_of X G a22
 have b22:=F22.binds (ps:=["one", "other"]) λ_ _ _ _ _ _ us hl=>match us,hl with|[_,_],_=>rfl
 obtain⟨f23,fd23,a23,F23⟩:=d23
 have h23:=PySem.W.mg_of X G a23
 have b23:=F23.binds (ps:=["one", "other"]) λ_ _ _ _ _ _ us hl=>match us,hl with|[_,_],_=>rfl
 obtain⟨f24,fd24,a24,F24⟩:=d24
 have h24:=PySem.W.mg_of X G a24
 have b24:=F24.binds (ps:=["rows", "other_rows", "pair", "found"]) λ_ _ _ _ _ _ us hl=>match us,hl with|[_,_,_,_],_=>rfl
 obtain⟨f25,fd25,a25,F25⟩:=d25
 have h25:=PySem.W.mg_of X G a25
 have b25:=F25.binds (ps:=["one", "other"]) λ_ _ _ _ _ _ us hl=>match us,hl with|[_,_],_=>rfl
 obtain⟨f26,fd26,a26,F26⟩:=d26
 have h26:=PySem.W.mg_of X G a26
 have b26:=F26.binds (ps:=["_law_script", "_law_k"]) λ_ _ _ _ _ _ us hl=>match us,hl with|[_,_],_=>rfl
 obtain⟨f27,fd27,a27,F27⟩:=d27
 have h27:=PySem.W.mg_of X G a27
 have b27:=F27.binds (ps:=["_law_purse_here", "_law_many"]) λ_ _ _ _ _ _ us hl=>match us,hl with|[_,_],_=>rfl
 obtain⟨f28,fd28,a28,F28⟩:=d28
 have h28:=PySem.W.mg_of X G a28
 have b28:=F28.binds (ps:=["_law_purse_here", "_law_may"]) λ_ _ _ _ _ _ us hl=>match us,hl with|[_,_],_=>rfl
 obtain⟨f29,fd29,a29,F29⟩:=d29
 have h29:=PySem.W.mg_of X G a29
 have b29:=F29.binds (ps:=["_law_rows_here"]) λ_ _ _ _ _ _ us hl=>match us,hl with|[_],_=>rfl
 obtain⟨f30,fd30,a30,F30⟩:=d30
 have h30:=PySem.W.mg_of X G a30
 have b30:=F30.binds (ps:=["_law_purse_here", "_law_n", "_law_most", "_law_begun"]) λ_ _ _ _ _ _ us hl=>match us,hl with|[_,_,_,_],_=>rfl
 obtain⟨f31,fd31,a31,F31⟩:=d31
 have h31:=PySem.W.mg_of X G a31
 have b31:=F31.binds (ps:=["_law_number", "_law_kept", "_law_found"]) λ_ _ _ _ _ _ us hl=>match us,hl with|[_,_,_],_=>rfl
 obtain⟨f32,fd32,a32,F32⟩:=d32
 have h32:=PySem.W.mg_of X G a32
 have b32:=F32.binds (ps:=["_law_n", "_law_top", "_law_rows_here"]) λ_ _ _ _ _ _ us hl=>match us,hl with|[_,_,_],_=>rfl
 obtain⟨f33,fd33,a33,F33⟩:=d33
 have h33:=PySem.W.mg_of X G a33
 have b33:=F33.binds (ps:=["_law_purse_here", "_law_n", "_law_rows_here"]) λ_ _ _ _ _ _ us hl=>match us,hl with|[_,_,_],_=>rfl
 obtain⟨f34,fd34,a34,F34⟩:=d34
 have h34:=PySem.W.mg_of X G a34
 have b34:=F34.binds (ps:=["_law_purse_here", "_law_n", "_law_most"]) λ_ _ _ _ _ _ us hl=>match us,hl with|[_,_,_],_=>rfl
 obtain⟨f35,fd35,a35,F35⟩:=d35
 have h35:=PySem.W.mg_of X G a35
 have b35:=F35.binds (ps:=["_law_one", "_law_other"]) λ_ _ _ _ _ _ us hl=>match us,hl with|[_,_],_=>rfl
 obtain⟨f36,fd36,a36,F36⟩:=d36
 have h36:=PySem.W.mg_of X G a36
 have b36:=F36.binds (ps:=["_law_purse_here", "_law_n", "_law_one"]) λ_ _ _ _ _ _ us hl=>match us,hl with|[_,_,_],_=>rfl
 obtain⟨f37,fd37,a37,F37⟩:=d37
 have h37:=PySem.W.mg_of X G a37
 have b37:=F37.binds (ps:=["_law_found", "_law_due"]) λ_ _ _ _ _ _ us hl=>match us,hl with|[_,_],_=>rfl
 obtain⟨f38,fd38,a38,F38⟩:=d38
 have h38:=PySem.W.mg_of X G a38
 have b38:=F38.binds (ps:=["_law_one", "_law_other"]) λ_ _ _ _ _ _ us hl=>match us,hl with|[_,_],_=>rfl
 obtain⟨mf0_0,mfd0_0,ma0_0,mi0_0,MF0_0⟩:=md0_0
 have me0_0:Meth K C0 "__init__" mf0_0:=⟨ma0_0,mi0_0,MF0_0.kp⟩
 have mb0_0:=MF0_0.binds (ps:=["self"]) λ_ _ _ _ _ _ us hl=>match us,hl with|[_],_=>rfl
 obtain⟨mf0_1,mfd0_1,ma0_1,mi0_1,MF0_1⟩:=md0_1
 have me0_1:Meth K C0 "number_for" mf0_1:=⟨ma0_1,mi0_1,MF0_1.kp⟩
 have mb0_1:=MF0_1.binds (ps:=["self", "row"]) λ_ _ _ _ _ _ us hl=>match us,hl with|[_,_],_=>rfl
 obtain⟨mf0_2,mfd0_2,ma0_2,mi0_2,MF0_2⟩:=md0_2
 have me0_2:Meth K C0 "numbers_for" mf0_2:=⟨ma0_2,mi0_2,MF0_2.kp⟩
 have mb0_2:=MF0_2.binds (ps:=["self", "rows"]) λ_ _ _ _ _ _ us hl=>match us,hl with|[_,_],_=>rfl
 have mm0:Mk K C0 mf0_0:=⟨mk0,ma0_0,mi0_0,kc0⟩
 obtain⟨mf1_0,mfd1_0,ma1_0,mi1_0,MF1_0⟩:=md1_0
 have me1_0:Meth K C1 "__init__" mf1_0:=⟨ma1_0,mi1_0,MF1_0.kp⟩
 have mb1_0:=MF1_0.binds (ps:=["self", "rows", "other_rows", "outcomes"]) λ_ _ _ _ _ _ us hl=>match us,hl with|[_,_,_,_],_=>rfl
 obtain⟨mf1_1,mfd1_1,ma1_1,mi1_1,MF1_1⟩:=md1_1
 have me1_1:Meth K C1 "number_for_pair" mf1_1:=⟨ma1_1,mi1_1,MF1_1.kp⟩
 have mb1_1:=MF1_1.binds (ps:=["self", "number", "other"]) λ_ _ _ _ _ _ us hl=>match us,hl with|[_,_,_],_=>rfl
 have mm1:Mk K C1 mf1_0:=⟨mk1,ma1_0,mi1_0,kc1⟩
 refine⟨PySem.W.fnOf "law" "law" (defArgs lLaw) (defBody lLaw) (defScope lLaw) .none kVL dcL pmL anL cdL ctL,λs v=>.of_eq rfl,λbase _ _=>?_⟩
 have gSize:FnOk l.prog w K mg base CX0 2 _ _ _ _:=ok_size F7 B T h0 F0 b0
 have gNum:FnOk l.prog w K mg base CX0 2 _ _ _ _:=ok_number F8 B T h0 F0 b0
 have gPl:∀d,FnOk l.prog w K mg base CX0 (d+2) _ _ _ (spPlaces d):=λd=>ok_places F4 B T h3 F3 b3 d
 have gRow:FnOk l.prog w K mg base CX0 3 _ _ _ _:=ok_row F9 B h8 F8 b8 gNum
 have gRows:FnOk l.prog w K mg base CX0 4 _ _ _ _:=ok_rows F10 B h9 F9 b9 gRow
 have gTell:FnOk l.prog w K mg base CX0 5 _ _ _ _:=ok_telling F11 B h7 F7 b7 gSize h10 F10 b10 gRows h8 F8 b8 gNum h2 F2 b2
 have gShape:FnOk l.prog w K mg base CX0 15 _ _ _ _:=ok_shape F12 B T h11 F11 b11 gTell h1 F1 b1 h4 F4 b4 gPl
 have gWant:FnOk l.prog w K mg base CX0 16 _ _ _ _:=ok_wantS F13 h12 F12 b12 gShape
 have hem0:∃t,mg "EMPTY" = some (.int 0 t):=⟨t3,PySem.W.mg_of X G g3⟩
 have gSO:FnOk l.prog w K mg base CX0 15 _ _ _ _:=ok_SO F6 B T hem0 h4 F4 b4 h3 F3 b3 h5 F5 b5
 have gExR:FnOk l.prog w K mg base CX0 2 _ _ _ _:=ok_exchR F16 B T h15 F15 b15
 have TB:BookIn K mg C0:=⟨cl0,na0_0,na0_1,PySem.W.mg_of X G ac0⟩
 have TD:DdIn K mg C1:=⟨cl1,na1_0,na1_1,na1_2,na1_3,na1_4,na1_5,na1_6,PySem.W.mg_of X G ac1⟩
 have gBN:FnOk l.prog w K mg base CX0 4 _ _ _ (spBkNs C0):=ok_bkNs MF0_2 B T hem0 TB me0_1 MF0_1 mb0_1 h5 F5 b5 h1 F1 b1
 have gBW:FnOk l.prog w K mg base CX0 5 _ _ _ (spBW C0):=ok_BW (fE:=0) (fdE:=fd0) F17 B T hem0 TB me0_2 mb0_2 gBN h16 F16 b16 gExR
 have gDI:FnOk l.prog w K mg base CX0 6 _ _ _ (spDI C1 C0):=ok_DI MF1_0 TD TB mm0 MF0_0 mb0_0 h17 F17 b17 gBW
 have hzip:mg "zip" = none:=nn z13
 have gNP:∀d,FnOk l.prog w K mg base CX0 (d+4) _ _ _ (spNP K C1 C0 d):=ok_NP MF1_1 B hzip T TD TB me1_1 mb1_1 me0_1 MF0_1 mb0_1 h1 F1 b1 h18 F18 b18
 have gWO:FnOk l.prog w K mg base CX0 17 _ _ _ spWO:=ok_WO F14 h13 F13 b13 gWant
 have gBT:FnOk l.prog w K mg base CX0 18 _ _ _ (spBT K):=ok_BT F19 TD TB h14 F14 b14 gWO mm1 mb1_0 gDI me1_1 mb1_1 gNP h6 F6 b6 gSO
 have gJ:=ok_joined F20 h19 F19 b19 gBT (PySem.W.mg_of X G on0) ok0
 have gC:=ok_cut F21 h19 F19 b19 gBT (PySem.W.mg_of X G on1) ok1
 have gW:=ok_without F22 h19 F19 b19 gBT (PySem.W.mg_of X G on2) ok2
 have gU:=ok_unlike F23 h19 F19 b19 gBT (PySem.W.mg_of X G on3) ok3
 have gLR:FnOk l.prog w K mg base CX0 3 _ _ _ _:=ok_lRows F30 B h27 F27 b27 h28 F28 b28 h29 F29 b29
 have gLS:FnOk l.prog w K mg base CX0 14 _ _ _ _:=ok_lShape F32 B h31 F31 b31
 have gLD:FnOk l.prog w K mg base CX0 15 _ _ _ _:=ok_drawn F33 B h27 F27 b27 h32 F32 b32 gLS
 have gTw:FnOk l.prog w K mg base CX0 16 _ _ _ spTwo:=ok_two F34 B h27 F27 b27 h30 F30 b30 gLR h33 F33 b33 gLD
 have gGP:∀d,FnOk l.prog w K mg base CX0 (d+1) _ _ _ (spGP d):=ok_GP F24 T hzip h24 b24
 have gPs:FnOk l.prog w K mg base CX0 18 _ _ _ spPairs:=ok_pairs F25 B h14 F14 b14 gWO h24 F24 b24 gGP
 have gCt:FnOk l.prog w K mg base CX0 2 _ _ _ spPairs:=ok_count F35 B
 have gBs:FnOk l.prog w K mg base CX0 15 _ _ _ spBs:=ok_Bs F36 B h27 F27 b27 h32 F32 b32 gLS
 have gTr:FnOk l.prog w K mg base CX0 20 _ _ _ spTr:=ok_Tr F38 B h35 F35 b35 gCt h37 F37 b37 h25 F25 b25 gPs h20 F20 b20 gJ h21 F21 b21 gC h22 F22 b22 gW h23 F23 b23 gU
 exact ok_law FL B h26 F26 b26 h27 F27 b27 h34 F34 b34 gTw h36 F36 b36 gBs h38 F38 b38 gTr
theorem walk {l:PySem.W.OpenLaw}{q:Program}{loose:List Str}{XP:(Str->Option Value)->Heap->Prop}{YP:World->Heap->Prop}{d:DefRec}{K:Params->PySem.W.Frag}(hn:l.most=some 63) (hdf:d.params.defaults=[])
  (hY:∀(w:World) (h:Heap),YP w h->(K w.params).In h)
  (F:∀(w:World) (mg:Str->Option Value) (fa:Addr) (h:Heap),(K w.params).In h->h.Ns mainGlobals mg->mg d.name=some (.ref fa) ->
   ∃fd:FuncData,(∀(s:Shared) (u:Value),BindsTo s fd ⟨[u],[]⟩ [("_law_script",u)])/\∀base:Heap,(K w.params).In base->base.Ns mainGlobals mg->FnOk l.prog w (K w.params) mg base CX0 21 fa fd ["_law_script"] (spLaw (K w.params))) :
  PySem.W.WalkO q loose XP YP l.row.toRowW d [] (λf vs=>PySem.call f vs):=
 L2.walk_of (n:=63) (k:=21) (x:= "_law_script") (CX:=λ_=>CX0) (sp:=λw=>spLaw (K w.params)) hn (by decide) hdf ⟨rfl,by decide,by decide,rfl⟩ hY F (λ_ _ a ns hl _ hS=>⟨a,ns,rfl,hS,hl,λ_=>rfl⟩) λ_ _ _ _ _ z=>z
end Pr
open PySem PySem.W PyProof.Rows
set_option maxRecDepth 100000 in
set_option maxHeartbeats 0 in
theorem PySem.Challenge.cw_quarterfold_k35_whole_pairs_and_rows_holds : PySem.Challenge.rw_quarterfold_k35_whole_pairs_and_rows.Holds := by
 w_on;o_law
 refine holds_open (q:=Hd.q0) (loose:=[]) (Xt:=Hd.X0) (XP:=XL Hd.q0 []) (YP:=Hook.says (kHook Hd.K0 Hd.as0 Hd.as_K)) (N:=Hd.N0) Hd.left0
  (Hook.of (kHook Hd.K0 Hd.as0 Hd.as_K)) (Hook.keeps (kHook Hd.K0 Hd.as0 Hd.as_K)) (λs e=>xl_of s (Bool.and_eq_true_iff.mp e).1) XL.keeps
  (by rfl) (by rfl) (by rfl) (λs e=>recFacts_of (Bool.and_eq_true_iff.mp e).2)
  (by rfl) (by first|assumption|decide +kernel) (by decide +kernel) ⟨rfl,rfl,rfl,rfl,rfl,by decide +kernel⟩ ?hw ?hc
 case hw=>w_witness2
 k_fill
 refine Pr.walk (l:=PySem.Challenge.rw_quarterfold_k35_whole_pairs_and_rows) rfl rfl (λw h Y=>PySem.W.kIn_of Y) ?F
 case F=>
  intro w mg fa h KX G hmg
  refine' Pr.all_mk KX G hmg ?aL ?lL ?cL ?kL ?gc0 ?gc1 ?gc2 ?gc3 ?d0 ?d1 ?d2 ?d3 ?d4 ?d5 ?d6 ?d7 ?d8 ?d9 ?d10 ?d11 ?d12 ?d13 ?d14 ?d15 ?d16 ?d17 ?d18 ?d19 ?d20 ?d21 ?d22 ?d23 ?d24 ?d25 ?d26 ?d27 ?d28 ?d29 ?d30 ?d31 ?d32 ?d33 ?d34 ?d35 ?d36 ?d37 ?d38 ?z0 ?z1 ?z2 ?z3 ?z4 ?z5 ?z6 ?z7 ?z8 ?z9 ?z10 ?z11 ?z12 ?z13 ?ac0 ?cl0 ?mk0 ?kc0 ?na0_0 ?na0_1 ?md0_0 ?md0_1 ?md0_2 ?ac1 ?cl1 ?mk1 ?kc1 ?na1_0 ?na1_1 ?na1_2 ?na1_3 ?na1_4 ?na1_5 ?na1_6 ?md1_0 ?md1_1 ?on0 ?on1 ?on2 ?on3 ?ok0 ?ok1 ?ok2 ?ok3
  (case aL=>k_is);(case lL=>k_is);(case cL=>k_is);(case kL=>k_is)
  (case gc0=>k_is)
  (case gc1=>k_is)
  (case gc2=>k_is)
  (case gc3=>k_is)
  (case z0=>unfold Pr.NoName;k_is)
  (case z1=>unfold Pr.NoName;k_is)
  (case z2=>unfold Pr.NoName;k_is)
  (case z3=>unfold Pr.NoName;k_is)
  (case z4=>unfold Pr.NoName;k_is)
  (case z5=>unfold Pr.NoName;k_is)
  (case z6=>unfold Pr.NoName;k_is)
  (case z7=>unfold Pr.NoName;k_is)
  (case z8=>unfold Pr.NoName;k_is)
  (case z9=>unfold Pr.NoName;k_is)
  (case z10=>unfold Pr.NoName;k_is)
  (case z11=>unfold Pr.NoName;k_is)
  (case z12=>unfold Pr.NoName;k_is)
  (case z13=>unfold Pr.NoName;k_is)
  (case ac0=>k_is)
  (case cl0=>refine' ⟨?pa,?pb,?pc,?pd⟩;(case pa=>k_is);(case pb=>k_is);(case pc=>k_is);(case pd=>k_is))
  (case mk0=>k_is);(case kc0=>k_is)
  (case na0_0=>unfold L2.NoAttr;k_is)
  (case na0_1=>unfold L2.NoAttr;k_is)
  (case md0_0=>refine' Pr.m_mk ?qa ?qi ?ql ?qc ?qk;(case qa=>k_is);(case qi=>k_is);(case ql=>k_is);(case qc=>k_is);(case qk=>k_is))
  (case md0_1=>refine' Pr.m_mk ?qa ?qi ?ql ?qc ?qk;(case qa=>k_is);(case qi=>k_is);(case ql=>k_is);(case qc=>k_is);(case qk=>k_is))
  (case md0_2=>refine' Pr.m_mk ?qa ?qi ?ql ?qc ?qk;(case qa=>k_is);(case qi=>k_is);(case ql=>k_is);(case qc=>k_is);(case qk=>k_is))
  (case ac1=>k_is)
  (case cl1=>refine' ⟨?pa,?pb,?pc,?pd⟩;(case pa=>k_is);(case pb=>k_is);(case pc=>k_is);(case pd=>k_is))
  (case mk1=>k_is);(case kc1=>k_is)
  (case na1_0=>unfold L2.NoAttr;k_is)
  (case na1_1=>unfold L2.NoAttr;k_is)
  (case na1_2=>unfold L2.NoAttr;k_is)
  (case na1_3=>unfold L2.NoAttr;k_is)
  (case na1_4=>unfold L2.NoAttr;k_is)
  (case na1_5=>unfold L2.NoAttr;k_is)
  (case na1_6=>unfold L2.NoAttr;k_is)
  (case md1_0=>refine' Pr.m_mk ?qa ?qi ?ql ?qc ?qk;(case qa=>k_is);(case qi=>k_is);(case ql=>k_is);(case qc=>k_is);(case qk=>k_is))
  (case md1_1=>refine' Pr.m_mk ?qa ?qi ?ql ?qc ?qk;(case qa=>k_is);(case qi=>k_is);(case ql=>k_is);(case qc=>k_is);(case qk=>k_is))
  (case on0=>k_is)
  (case on1=>k_is)
  (case on2=>k_is)
  (case on3=>k_is)
  (case ok0=>refine' Pr.kt_mk ?qa;(case qa=>k_is))
  (case ok1=>refine' Pr.kt_mk ?qa;(case qa=>k_is))
  (case ok2=>refine' Pr.kt_mk ?qa;(case qa=>k_is))
  (case ok3=>refine' Pr.kt_mk ?qa;(case qa=>k_is))
  all_goals (refine' Pr.d_mk ?qa ?ql ?qc ?qk;(case qa=>k_is);(case ql=>k_is);(case qc=>k_is);(case qk=>k_is))
