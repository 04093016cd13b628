import PyProof.Rows.All
import Wide.All
import OpenK.AllK
import Wide.FinOn
import Lean
import PyProof.EqAt
import PyProof.EqKinds
import PyProof.TupleCall
import Open.Row
import PySem.SetOps
import PyProof.SetRoads
import PyProof.Rows.SetFrom
import PyProof.FactsAll.subtypes_4
import PyProof.WalksMore
import OpenK.KOwn
import PyProof.NeData
import PyProof.ReprRoads
import PyProof.Rows.SortRunsK
import PyProof.Rows.SortShellK
import PyProof.Rows.SortKeyStr
import PyProof.Rows.SortWalk
import PyProof.Rows.StrInSeq
import PyProof.P3Eq
import PyProof.DictKinds
import PyProof.StrOps
import PyProof.WalksEnum
import PyProof.EnumMake
import PyProof.Rows.EnumRows
import KE.KTryMore
import KE.KIntText
import KE.KDictList
import PyProof.ConsumeS
import PyProof.ListRange
import PyProof.ListMulRoad
import PyProof.DictUpdate
import PyProof.Rows.TupDisplay
import PyProof.DictWalks
import PyProof.TupleOfGen
import PyProof.CompUse
import PyProof.CompFree
import PyProof.ReprBulk
import PySem.Challenge.RW_quarterfold_k21_steps_done
set_option Elab.async false
set_option linter.all false
set_option maxRecDepth 100000
set_option maxHeartbeats 8000000
namespace L2
open PySem
def defArgs (s:Stmt):Arguments:=match s with
 |.FunctionDef _ a _ _ _ _ _ _ _ _=>a
 |_=>{ posonlyargs:=[],args:=[],vararg:=none,kwonlyargs:=[],kw_defaults:=[],kwarg:=none,defaults:=[] }
def defBody (s:Stmt):List Stmt:=match s with
 |.FunctionDef _ _ b _ _ _ _ _ _ _=>b
 |_=>[]
def defScope (s:Stmt):Scope:=match s with
 |.FunctionDef _ _ _ _ _ _ sc _ _ _=>sc
 |_=>{ kind:=.function,names:=[],isGenerator:=false,isCoroutine:=false }
end L2
namespace Pr
open PySem
def top (i:Nat):Stmt:=PySem.Challenge.pw_quarterfold_k21_steps_done.main.body.getD i (.Pass ⟨0,0,0,0⟩)
end Pr
namespace Hd
open PySem PySem.W
abbrev pw:Program:=PySem.Challenge.pw_quarterfold_k21_steps_done
abbrev u0_:Value:=.str "quarterfold.tellings" 280
abbrev u1_:Value:=.str "quarterfold.steps" 319
abbrev u2_:Value:=.str "quarterfold.rows" 239
abbrev u3_:Value:=.str "law_quarterfold_k21_steps_done" 368
def kh (P:Params) (x:Str):Int:=PySem.PyData.keyHash P x
def oF (n:Str) (st:Stmt) (m:Value) (c:Nat):Obj:=⟨.type "function",none,.func (fnOf n n (L2.defArgs st) (L2.defBody st) (L2.defScope st) .none .none .none m none (.ref c) .none),#[]⟩
def oT (n q:Str) (st:Stmt):Obj:=⟨.none,none,.func { fnOf n q (L2.defArgs st) (L2.defBody st) (L2.defScope st) .none .none .none .none none .none .none with globals:=0 },#[]⟩
def oC (n q:Str) (t1 t2 t3 l a r1 r2:Nat) (y z:Value) (r6 k t5:Nat):Obj:=⟨.type "code",none,.fields #[.str n t1,.str q t2,.str "/claim/cut.py" t3,.int l 0,.int a 0,.int 0 0,.int 0 0,.int 3 0,.ref r1,.bool true,.int 181 0,.ref r2,.none,y,z,.ref r6,.int k 0,.int l 0,.str "/claim/cut.py" t5],#[]⟩
def K0 (P:Params):Frag:=
(nat_lit 2,⟨.none,none,(.dict #[] 0),#[]⟩) ::
(nat_lit 3,⟨.type "dict",none,(.dict #[⟨kh P "__name__",.str "__name__" 165,.str "law_quarterfold_k21_steps_done" 368⟩,⟨kh P "__doc__",.str "__doc__" 166,.none⟩,⟨kh P "__package__",.str "__package__" 167,.none⟩,⟨kh P "__loader__",.str "__loader__" 168,.builtin "__main__.__loader__#opaque"⟩,⟨kh P "__spec__",.str "__spec__" 169,.none⟩,⟨kh P "__annotations__",.str "__annotations__" 170,.ref 6⟩,⟨kh P "__builtins__",.str "__builtins__" 171,.ref 4⟩,⟨kh P "__file__",.str "__file__" 173,.str "/claim/cut.py" 172⟩,⟨kh P "__cached__",.str "__cached__" 174,.none⟩,⟨kh P "FloorError",.str "FloorError" 206,.ref 24⟩,⟨kh P "NoTelling",.str "NoTelling" 222,.ref 37⟩,⟨kh P "NoStep",.str "NoStep" 238,.ref 49⟩,⟨kh P "FIRST",.str "FIRST" 242,.int 2 241⟩,⟨kh P "is_whole",.str "is_whole" 249,.ref 58⟩,⟨kh P "is_plain",.str "is_plain" 256,.ref 65⟩,⟨kh P "depths_of",.str "depths_of" 262,.ref 70⟩,⟨kh P "renumbered",.str "renumbered" 268,.ref 75⟩,⟨kh P "GREATEST_SIZE",.str "GREATEST_SIZE" 272,.int 12 271⟩,⟨kh P "is_size",.str "is_size" 279,.ref 82⟩,⟨kh P "is_number",.str "is_number" 289,.ref 89⟩,⟨kh P "is_row",.str "is_row" 295,.ref 94⟩,⟨kh P "are_rows",.str "are_rows" 301,.ref 99⟩,⟨kh P "is_telling",.str "is_telling" 311,.ref 106⟩,⟨kh P "want_telling",.str "want_telling" 318,.ref 113⟩,⟨kh P "same_steps",.str "same_steps" 326,.ref 118⟩,⟨kh P "plain_steps",.str "plain_steps" 332,.ref 123⟩,⟨kh P "gone_steps",.str "gone_steps" 338,.ref 128⟩,⟨kh P "steps_of",.str "steps_of" 347,.ref 135⟩,⟨kh P "is_step",.str "is_step" 353,.ref 140⟩,⟨kh P "number_behind",.str "number_behind" 361,.ref 147⟩,⟨kh P "stepped",.str "stepped" 367,.ref 152⟩,⟨kh P "_law_pot",.str "_law_pot" 378,.ref 159⟩,⟨kh P "_law_digit",.str "_law_digit" 387,.ref 166⟩,⟨kh P "_law_row",.str "_law_row" 393,.ref 171⟩,⟨kh P "_law_depths",.str "_law_depths" 399,.ref 176⟩,⟨kh P "_law_telling",.str "_law_telling" 405,.ref 181⟩,⟨kh P "_law_steps",.str "_law_steps" 411,.ref 186⟩,⟨kh P "_law_behind",.str "_law_behind" 417,.ref 191⟩,⟨kh P "law",.str "law" 433,.ref 198⟩] 39),#[]⟩) ::
(nat_lit 15,⟨.type "tuple",none,(.seq #[.type "ValueError"] 0),#[]⟩) ::
(nat_lit 22,⟨.type "tuple",none,(.seq #[] 0),#[]⟩) ::
(nat_lit 23,⟨.type "dict",none,(.dict #[⟨kh P "__module__",.str "__module__" 196,.str "quarterfold.errors" 187⟩,⟨kh P "__firstlineno__",.str "__firstlineno__" 200,.int 2 199⟩,⟨kh P "__static_attributes__",.str "__static_attributes__" 201,.ref 22⟩,⟨kh P "__weakref__",.str "__weakref__" 203,.ref 25⟩,⟨kh P "__doc__",.str "__doc__" 204,.none⟩] 3),#[]⟩) ::
(nat_lit 24,⟨.type "type",none,(.cls ⟨"FloorError",[.type "ValueError"],[.ref 24,.type "ValueError",.type "Exception",.type "BaseException",.type "object"],23, "FloorError",true,[],[.ref 37,.ref 49],false,none,false⟩),#[some (.ref 15),none,some (.str "FloorError" 189),some (.str "FloorError" 197),some (.builtin "ValueError.__new__"),some (.bool true)]⟩) ::
(nat_lit 25,⟨.type "getset_descriptor",none,(.fields #[.str "__weakref__" 202,.ref 24,.builtin "ExceptionGroup.__weakref__",.none]),#[]⟩) ::
(nat_lit 28,⟨.type "tuple",none,(.seq #[.ref 24] 0),#[]⟩) ::
(nat_lit 35,⟨.type "tuple",none,(.seq #[] 0),#[]⟩) ::
(nat_lit 36,⟨.type "dict",none,(.dict #[⟨kh P "__module__",.str "__module__" 214,.str "quarterfold.errors" 187⟩,⟨kh P "__firstlineno__",.str "__firstlineno__" 218,.int 4 217⟩,⟨kh P "__static_attributes__",.str "__static_attributes__" 219,.ref 35⟩,⟨kh P "__doc__",.str "__doc__" 220,.none⟩] 2),#[]⟩) ::
(nat_lit 37,⟨.type "type",none,(.cls ⟨"NoTelling",[.ref 24],[.ref 37,.ref 24,.type "ValueError",.type "Exception",.type "BaseException",.type "object"],36, "NoTelling",true,[],[],false,none,false⟩),#[some (.ref 28),none,some (.str "NoTelling" 207),some (.str "NoTelling" 215),some (.builtin "ValueError.__new__"),some (.bool true)]⟩) ::
(nat_lit 40,⟨.type "tuple",none,(.seq #[.ref 24] 0),#[]⟩) ::
(nat_lit 47,⟨.type "tuple",none,(.seq #[] 0),#[]⟩) ::
(nat_lit 48,⟨.type "dict",none,(.dict #[⟨kh P "__module__",.str "__module__" 230,.str "quarterfold.errors" 187⟩,⟨kh P "__firstlineno__",.str "__firstlineno__" 234,.int 6 233⟩,⟨kh P "__static_attributes__",.str "__static_attributes__" 235,.ref 47⟩,⟨kh P "__doc__",.str "__doc__" 236,.none⟩] 2),#[]⟩) ::
(nat_lit 49,⟨.type "type",none,(.cls ⟨"NoStep",[.ref 24],[.ref 49,.ref 24,.type "ValueError",.type "Exception",.type "BaseException",.type "object"],48, "NoStep",true,[],[],false,none,false⟩),#[some (.ref 40),none,some (.str "NoStep" 223),some (.str "NoStep" 231),some (.builtin "ValueError.__new__"),some (.bool true)]⟩) ::
(nat_lit 52,⟨.type "tuple",none,(.seq #[] 0),#[]⟩) ::
(nat_lit 54,⟨.type "tuple",none,(.seq #[.str "thing" 246] 0),#[]⟩) ::
(nat_lit 55,⟨.type "tuple",none,(.seq #[] 0),#[]⟩) ::
(nat_lit 57,oC "is_whole" "is_whole" 243 244 245 10 1 52 53 (.ref 54) (.ref 55) 56 247 248) ::
(nat_lit 58,oF "is_whole" (Pr.top 6) u2_ 57) ::
(nat_lit 59,⟨.type "tuple",none,(.seq #[] 0),#[]⟩) ::
(nat_lit 61,⟨.type "tuple",none,(.seq #[.str "row" 253] 0),#[]⟩) ::
(nat_lit 62,⟨.type "tuple",none,(.seq #[] 0),#[]⟩) ::
(nat_lit 64,oC "is_plain" "is_plain" 250 251 252 12 1 59 60 (.ref 61) (.ref 62) 63 254 255) ::
(nat_lit 65,oF "is_plain" (Pr.top 7) u2_ 64) ::
(nat_lit 66,⟨.type "tuple",none,(.seq #[] 0),#[]⟩) ::
(nat_lit 69,oC "depths_of" "depths_of" 257 258 259 14 1 66 67 .none .none 68 260 261) ::
(nat_lit 70,oF "depths_of" (Pr.top 8) u2_ 69) ::
(nat_lit 71,⟨.type "tuple",none,(.seq #[] 0),#[]⟩) ::
(nat_lit 74,oC "renumbered" "renumbered" 263 264 265 19 2 71 72 .none .none 73 266 267) ::
(nat_lit 75,oF "renumbered" (Pr.top 9) u2_ 74) ::
(nat_lit 76,⟨.type "tuple",none,(.seq #[] 0),#[]⟩) ::
(nat_lit 78,⟨.type "tuple",none,(.seq #[.str "thing" 276] 0),#[]⟩) ::
(nat_lit 79,⟨.type "tuple",none,(.seq #[] 0),#[]⟩) ::
(nat_lit 81,oC "is_size" "is_size" 273 274 275 23 1 76 77 (.ref 78) (.ref 79) 80 277 278) ::
(nat_lit 82,oF "is_size" (Pr.top 12) (.str "quarterfold.floors" 269) 81) ::
(nat_lit 83,⟨.type "tuple",none,(.seq #[] 0),#[]⟩) ::
(nat_lit 85,⟨.type "tuple",none,(.seq #[.str "thing" 285,.str "many" 286] 0),#[]⟩) ::
(nat_lit 86,⟨.type "tuple",none,(.seq #[] 0),#[]⟩) ::
(nat_lit 88,oC "is_number" "is_number" 282 283 284 26 2 83 84 (.ref 85) (.ref 86) 87 287 288) ::
(nat_lit 89,oF "is_number" (Pr.top 14) u0_ 88) ::
(nat_lit 90,⟨.type "tuple",none,(.seq #[] 0),#[]⟩) ::
(nat_lit 93,oC "is_row" "is_row" 290 291 292 28 2 90 91 .none .none 92 293 294) ::
(nat_lit 94,oF "is_row" (Pr.top 15) u0_ 93) ::
(nat_lit 95,⟨.type "tuple",none,(.seq #[] 0),#[]⟩) ::
(nat_lit 98,oC "are_rows" "are_rows" 296 297 298 32 1 95 96 .none .none 97 299 300) ::
(nat_lit 99,oF "are_rows" (Pr.top 16) u0_ 98) ::
(nat_lit 100,⟨.type "tuple",none,(.seq #[] 0),#[]⟩) ::
(nat_lit 102,⟨.type "tuple",none,(.seq #[.str "thing" 305,.str "n" 306,.str "top" 307,.str "rows" 308] 0),#[]⟩) ::
(nat_lit 103,⟨.type "tuple",none,(.seq #[] 0),#[]⟩) ::
(nat_lit 105,oC "is_telling" "is_telling" 302 303 304 34 1 100 101 (.ref 102) (.ref 103) 104 309 310) ::
(nat_lit 106,oF "is_telling" (Pr.top 17) u0_ 105) ::
(nat_lit 107,⟨.type "tuple",none,(.seq #[] 0),#[]⟩) ::
(nat_lit 109,⟨.type "tuple",none,(.seq #[.str "telling" 315] 0),#[]⟩) ::
(nat_lit 110,⟨.type "tuple",none,(.seq #[] 0),#[]⟩) ::
(nat_lit 112,oC "want_telling" "want_telling" 312 313 314 41 1 107 108 (.ref 109) (.ref 110) 111 316 317) ::
(nat_lit 113,oF "want_telling" (Pr.top 18) u0_ 112) ::
(nat_lit 114,⟨.type "tuple",none,(.seq #[] 0),#[]⟩) ::
(nat_lit 117,oC "same_steps" "same_steps" 321 322 323 45 1 114 115 .none .none 116 324 325) ::
(nat_lit 118,oF "same_steps" (Pr.top 20) u1_ 117) ::
(nat_lit 119,⟨.type "tuple",none,(.seq #[] 0),#[]⟩) ::
(nat_lit 122,oC "plain_steps" "plain_steps" 327 328 329 53 1 119 120 .none .none 121 330 331) ::
(nat_lit 123,oF "plain_steps" (Pr.top 21) u1_ 122) ::
(nat_lit 124,⟨.type "tuple",none,(.seq #[] 0),#[]⟩) ::
(nat_lit 127,oC "gone_steps" "gone_steps" 333 334 335 55 2 124 125 .none .none 126 336 337) ::
(nat_lit 128,oF "gone_steps" (Pr.top 22) u1_ 127) ::
(nat_lit 129,⟨.type "tuple",none,(.seq #[] 0),#[]⟩) ::
(nat_lit 131,⟨.type "tuple",none,(.seq #[.str "telling" 342,.str "top" 343,.str "rows" 344] 0),#[]⟩) ::
(nat_lit 132,⟨.type "tuple",none,(.seq #[] 0),#[]⟩) ::
(nat_lit 134,oC "steps_of" "steps_of" 339 340 341 61 1 129 130 (.ref 131) (.ref 132) 133 345 346) ::
(nat_lit 135,oF "steps_of" (Pr.top 23) u1_ 134) ::
(nat_lit 136,⟨.type "tuple",none,(.seq #[] 0),#[]⟩) ::
(nat_lit 139,oC "is_step" "is_step" 348 349 350 65 2 136 137 .none .none 138 351 352) ::
(nat_lit 140,oF "is_step" (Pr.top 24) u1_ 139) ::
(nat_lit 141,⟨.type "tuple",none,(.seq #[] 0),#[]⟩) ::
(nat_lit 143,⟨.type "tuple",none,(.seq #[.str "rows" 357,.str "step" 358] 0),#[]⟩) ::
(nat_lit 144,⟨.type "tuple",none,(.seq #[] 0),#[]⟩) ::
(nat_lit 146,oC "number_behind" "number_behind" 354 355 356 71 2 141 142 (.ref 143) (.ref 144) 145 359 360) ::
(nat_lit 147,oF "number_behind" (Pr.top 25) u1_ 146) ::
(nat_lit 148,⟨.type "tuple",none,(.seq #[] 0),#[]⟩) ::
(nat_lit 151,oC "stepped" "stepped" 362 363 364 75 2 148 149 .none .none 150 365 366) ::
(nat_lit 152,oF "stepped" (Pr.top 26) u1_ 151) ::
(nat_lit 153,⟨.type "tuple",none,(.seq #[] 0),#[]⟩) ::
(nat_lit 155,⟨.type "tuple",none,(.seq #[.str "_law_script" 373,.str "_law_k" 374,.str "_law_cell" 375] 0),#[]⟩) ::
(nat_lit 156,⟨.type "tuple",none,(.seq #[] 0),#[]⟩) ::
(nat_lit 158,oC "_law_pot" "_law_pot" 370 371 372 85 2 153 154 (.ref 155) (.ref 156) 157 376 377) ::
(nat_lit 159,oF "_law_pot" (Pr.top 28) u3_ 158) ::
(nat_lit 160,⟨.type "tuple",none,(.seq #[] 0),#[]⟩) ::
(nat_lit 162,⟨.type "tuple",none,(.seq #[.str "_law_pot_here" 382,.str "_law_many" 383,.str "_law_digit_here" 384] 0),#[]⟩) ::
(nat_lit 163,⟨.type "tuple",none,(.seq #[] 0),#[]⟩) ::
(nat_lit 165,oC "_law_digit" "_law_digit" 379 380 381 90 2 160 161 (.ref 162) (.ref 163) 164 385 386) ::
(nat_lit 166,oF "_law_digit" (Pr.top 29) u3_ 165) ::
(nat_lit 167,⟨.type "tuple",none,(.seq #[] 0),#[]⟩) ::
(nat_lit 170,oC "_law_row" "_law_row" 388 389 390 97 2 167 168 .none .none 169 391 392) ::
(nat_lit 171,oF "_law_row" (Pr.top 30) u3_ 170) ::
(nat_lit 172,⟨.type "tuple",none,(.seq #[] 0),#[]⟩) ::
(nat_lit 175,oC "_law_depths" "_law_depths" 394 395 396 106 1 172 173 .none .none 174 397 398) ::
(nat_lit 176,oF "_law_depths" (Pr.top 31) u3_ 175) ::
(nat_lit 177,⟨.type "tuple",none,(.seq #[] 0),#[]⟩) ::
(nat_lit 180,oC "_law_telling" "_law_telling" 400 401 402 111 3 177 178 .none .none 179 403 404) ::
(nat_lit 181,oF "_law_telling" (Pr.top 32) u3_ 180) ::
(nat_lit 182,⟨.type "tuple",none,(.seq #[] 0),#[]⟩) ::
(nat_lit 185,oC "_law_steps" "_law_steps" 406 407 408 118 1 182 183 .none .none 184 409 410) ::
(nat_lit 186,oF "_law_steps" (Pr.top 33) u3_ 185) ::
(nat_lit 187,⟨.type "tuple",none,(.seq #[] 0),#[]⟩) ::
(nat_lit 190,oC "_law_behind" "_law_behind" 412 413 414 131 2 187 188 .none .none 189 415 416) ::
(nat_lit 191,oF "_law_behind" (Pr.top 34) u3_ 190) ::
(nat_lit 192,⟨.type "tuple",none,(.seq #[] 0),#[]⟩) ::
(nat_lit 194,⟨.type "tuple",none,(.seq #[.str "_law_script" 421,.str "_law_k" 422,.str "_law_pot_here" 423,.str "_law_n" 424,.str "_law_telling_here" 425,.str "_law_due" 426,.str "_law_told" 427,.str "_law_turn" 428,.str "_law_step" 429,.str "_law_later" 430] 0),#[]⟩) ::
(nat_lit 195,⟨.type "tuple",none,(.seq #[] 0),#[]⟩) ::
(nat_lit 197,oC "law" "law" 418 419 420 143 1 192 193 (.ref 194) (.ref 195) 196 431 432) ::
(nat_lit 198,oF "law" (Pr.top 35) u3_ 197)::[]
def as0:List Addr:=[2,3,15,22,23,24,25,28,35,36,37,40,47,48,49,52,54,55,57,58,59,61,62,64,65,66,69,70,71,74,75,76,78,79,81,82,83,85,86,88,89,90,93,94,95,98,99,100,102,103,105,106,107,109,110,112,113,114,117,118,119,122,123,124,127,128,129,131,132,134,135,136,139,140,141,143,144,146,147,148,151,152,153,155,156,158,159,160,162,163,165,166,167,170,171,172,175,176,177,180,181,182,185,186,187,190,191,192,194,195,197,198]
def keep0:List Nat:=[1,2,3,5,6,7,8,9,11,12,14,15,16,17,18,20,21,22,23,24,25,26,28,29,30,31,32,33,34,35]
def N0:Nat:=2900
noncomputable def bx (P:Params) (a t l:Nat) (x:Str):List Obj:=[⟨.type "tuple",none,(.seq #[.ref 24] 0),#[]⟩,
⟨.type "builtin_function_or_method",none,(.fields #[.builtin "type.__prepare__",.type "type"]),#[]⟩,
⟨.type "dict",none,(.dict #[⟨kh P "__module__",.str "__module__" (t+7),.str "quarterfold.errors" 187⟩,⟨kh P "__qualname__",.str "__qualname__" (t+9),.str x (t+8)⟩,⟨kh P "__firstlineno__",.str "__firstlineno__" (t+11),.int l (t+10)⟩,⟨kh P "__static_attributes__",.str "__static_attributes__" (t+12),.ref (a+7)⟩] 4),#[]⟩,
⟨.type "tuple",none,(.seq #[] 0),#[]⟩,
⟨.none,none,(.fields #[]),#[]⟩,
⟨.type "code",none,(.fields #[.str x (t+2),.str x (t+3),.str "/claim/cut.py" (t+4),.int l 0,.int 0 0,.int 0 0,.int 0 0,.int 0 0,.ref (a+3),.bool false,.int 181 0,.ref (a+4),.none,.none,.none,.none,.int (t+5) 0,.int l 0,.str "/claim/cut.py" (t+6)]),#[]⟩,
⟨.type "frame",none,.plain,#[some (.ref (a+5)),some (.ref 3),some (.ref (a+2)),none,some (.str "quarterfold.errors" 187),none,some (.ref 0)]⟩,
⟨.type "tuple",none,(.seq #[] 0),#[]⟩,
⟨.type "dict",none,(.dict #[⟨kh P "__module__",.str "__module__" (t+7),.str "quarterfold.errors" 187⟩,⟨kh P "__firstlineno__",.str "__firstlineno__" (t+11),.int l (t+10)⟩,⟨kh P "__static_attributes__",.str "__static_attributes__" (t+12),.ref (a+7)⟩,⟨kh P "__doc__",.str "__doc__" (t+13),.none⟩] 2),#[]⟩,
⟨.type "type",none,(.cls ⟨x,[.ref 24],[.ref (a+9),.ref 24,.type "ValueError",.type "Exception",.type "BaseException",.type "object"],(a+8),x,true,[],[],false,none,false⟩),#[some (.ref a),none,some (.str x t),some (.str x (t+8)),some (.builtin "ValueError.__new__"),some (.bool true)]⟩,
⟨.type "super",none,(.fields #[.ref (a+9),.ref (a+9),.ref (a+9)]),#[]⟩,
⟨.type "builtin_function_or_method",none,(.fields #[.builtin "object.__init_subclass__",.ref (a+9)]),#[]⟩]
noncomputable def ob (P:Params):List Obj:=[boot_o_0 P,boot_o_1 P,boot_o_2 P,⟨.type "dict",none,(.dict #[⟨kh P "__name__",.str "__name__" 165,.str "quarterfold.steps" 319⟩,⟨kh P "__doc__",.str "__doc__" 166,.none⟩,⟨kh P "__package__",.str "__package__" 167,.none⟩,⟨kh P "__loader__",.str "__loader__" 168,.builtin "__main__.__loader__#opaque"⟩,⟨kh P "__spec__",.str "__spec__" 169,.none⟩,⟨kh P "__annotations__",.str "__annotations__" 170,.ref 6⟩,⟨kh P "__builtins__",.str "__builtins__" 171,.ref 4⟩,⟨kh P "__file__",.str "__file__" 173,.str "/claim/cut.py" 172⟩,⟨kh P "__cached__",.str "__cached__" 174,.none⟩,⟨kh P "FloorError",.str "FloorError" 206,.ref 24⟩,⟨kh P "NoTelling",.str "NoTelling" 222,.ref 37⟩,⟨kh P "NoStep",.str "NoStep" 238,.ref 49⟩,⟨kh P "FIRST",.str "FIRST" 242,.int 2 241⟩,⟨kh P "is_whole",.str "is_whole" 249,.ref 58⟩,⟨kh P "is_plain",.str "is_plain" 256,.ref 65⟩,⟨kh P "depths_of",.str "depths_of" 262,.ref 70⟩,⟨kh P "renumbered",.str "renumbered" 268,.ref 75⟩,⟨kh P "GREATEST_SIZE",.str "GREATEST_SIZE" 272,.int 12 271⟩,⟨kh P "is_size",.str "is_size" 279,.ref 82⟩,⟨kh P "is_number",.str "is_number" 289,.ref 89⟩,⟨kh P "is_row",.str "is_row" 295,.ref 94⟩,⟨kh P "are_rows",.str "are_rows" 301,.ref 99⟩,⟨kh P "is_telling",.str "is_telling" 311,.ref 106⟩,⟨kh P "want_telling",.str "want_telling" 318,.ref 113⟩,⟨kh P "same_steps",.str "same_steps" 326,.ref 118⟩,⟨kh P "plain_steps",.str "plain_steps" 332,.ref 123⟩,⟨kh P "gone_steps",.str "gone_steps" 338,.ref 128⟩] 27),#[]⟩,boot_o_4 P,boot_o_5 P,boot_o_6 P,boot_o_7 P,boot_o_8 P,boot_o_9 P,boot_o_10 P,⟨.type "tuple",none,(.seq #[] 0),#[]⟩,⟨.none,none,(.fields #[.int 2 0,.int 0 0,.ref 20,.int 4 0,.int 0 0,.ref 33,.int 6 0,.int 0 0,.ref 45,.int 10 0,.int 0 0,.ref 57,.int 12 0,.int 0 0,.ref 64,.int 14 0,.int 0 0,.ref 69,.int 19 0,.int 0 0,.ref 74,.int 23 0,.int 0 0,.ref 81,.int 26 0,.int 0 0,.ref 88,.int 28 0,.int 0 0,.ref 93,.int 32 0,.int 0 0,.ref 98,.int 34 0,.int 0 0,.ref 105,.int 41 0,.int 0 0,.ref 112,.int 45 0,.int 0 0,.ref 117,.int 53 0,.int 0 0,.ref 122,.int 55 0,.int 0 0,.ref 127]),#[]⟩,⟨.type "code",none,(.fields #[.str "<module>" 182,.str "<module>" 183,.str "/claim/cut.py" 184,.int 1 0,.int 0 0,.int 0 0,.int 0 0,.int 0 0,.ref 11,.bool false,.int 181 0,.ref 12,.none,.none,.none,.none,.int 185 0,.int 1 0,.str "/claim/cut.py" 186]),#[]⟩,⟨.type "frame",none,.plain,#[some (.ref 13),some (.ref 3),some (.ref 3),none,some (.str "__main__" 164),none,some (.ref 0)]⟩,⟨.type "tuple",none,(.seq #[.type "ValueError"] 0),#[]⟩,⟨.type "builtin_function_or_method",none,(.fields #[.builtin "type.__prepare__",.type "type"]),#[]⟩,⟨.type "dict",none,(.dict #[⟨kh P "__module__",.str "__module__" 196,.str "quarterfold.errors" 187⟩,⟨kh P "__qualname__",.str "__qualname__" 198,.str "FloorError" 197⟩,⟨kh P "__firstlineno__",.str "__firstlineno__" 200,.int 2 199⟩,⟨kh P "__static_attributes__",.str "__static_attributes__" 201,.ref 22⟩] 4),#[]⟩,⟨.type "tuple",none,(.seq #[] 0),#[]⟩,⟨.none,none,(.fields #[]),#[]⟩,⟨.type "code",none,(.fields #[.str "FloorError" 191,.str "FloorError" 192,.str "/claim/cut.py" 193,.int 2 0,.int 0 0,.int 0 0,.int 0 0,.int 0 0,.ref 18,.bool false,.int 181 0,.ref 19,.none,.none,.none,.none,.int 194 0,.int 2 0,.str "/claim/cut.py" 195]),#[]⟩,⟨.type "frame",none,.plain,#[some (.ref 20),some (.ref 3),some (.ref 17),none,some (.str "quarterfold.errors" 187),none,some (.ref 0)]⟩,⟨.type "tuple",none,(.seq #[] 0),#[]⟩,⟨.type "dict",none,(.dict #[⟨kh P "__module__",.str "__module__" 196,.str "quarterfold.errors" 187⟩,⟨kh P "__firstlineno__",.str "__firstlineno__" 200,.int 2 199⟩,⟨kh P "__static_attributes__",.str "__static_attributes__" 201,.ref 22⟩,⟨kh P "__weakref__",.str "__weakref__" 203,.ref 25⟩,⟨kh P "__doc__",.str "__doc__" 204,.none⟩] 3),#[]⟩,⟨.type "type",none,(.cls ⟨"FloorError",[.type "ValueError"],[.ref 24,.type "ValueError",.type "Exception",.type "BaseException",.type "object"],23, "FloorError",true,[],[.ref 37,.ref 49],false,none,false⟩),#[some (.ref 15),none,some (.str "FloorError" 189),some (.str "FloorError" 197),some (.builtin "ValueError.__new__"),some (.bool true)]⟩,⟨.type "getset_descriptor",none,(.fields #[.str "__weakref__" 202,.ref 24,.builtin "ExceptionGroup.__weakref__",.none]),#[]⟩,⟨.type "super",none,(.fields #[.ref 24,.ref 24,.ref 24]),#[]⟩,⟨.type "builtin_function_or_method",none,(.fields #[.builtin "object.__init_subclass__",.ref 24]),#[]⟩]++(bx P 28 207 4 "NoTelling" ++ (bx P 40 223 6 "NoStep" ++ ([⟨.type "tuple",none,(.seq #[] 0),#[]⟩,⟨.none,none,(.fields #[]),#[]⟩,⟨.type "tuple",none,(.seq #[.str "thing" 246] 0),#[]⟩,⟨.type "tuple",none,(.seq #[] 0),#[]⟩,oT "is_whole" "is_whole" (Pr.top 6),oC "is_whole" "is_whole" 243 244 245 10 1 52 53 (.ref 54) (.ref 55) 56 247 248,oF "is_whole" (Pr.top 6) u2_ 57,⟨.type "tuple",none,(.seq #[] 0),#[]⟩,⟨.none,none,(.fields #[]),#[]⟩,⟨.type "tuple",none,(.seq #[.str "row" 253] 0),#[]⟩,⟨.type "tuple",none,(.seq #[] 0),#[]⟩,oT "is_plain" "is_plain" (Pr.top 7),oC "is_plain" "is_plain" 250 251 252 12 1 59 60 (.ref 61) (.ref 62) 63 254 255,oF "is_plain" (Pr.top 7) u2_ 64,⟨.type "tuple",none,(.seq #[] 0),#[]⟩,⟨.none,none,(.fields #[]),#[]⟩,oT "depths_of" "depths_of" (Pr.top 8),oC "depths_of" "depths_of" 257 258 259 14 1 66 67 .none .none 68 260 261,oF "depths_of" (Pr.top 8) u2_ 69,⟨.type "tuple",none,(.seq #[] 0),#[]⟩,⟨.none,none,(.fields #[]),#[]⟩,oT "renumbered" "renumbered" (Pr.top 9),oC "renumbered" "renumbered" 263 264 265 19 2 71 72 .none .none 73 266 267,oF "renumbered" (Pr.top 9) u2_ 74,⟨.type "tuple",none,(.seq #[] 0),#[]⟩,⟨.none,none,(.fields #[]),#[]⟩,⟨.type "tuple",none,(.seq #[.str "thing" 276] 0),#[]⟩,⟨.type "tuple",none,(.seq #[] 0),#[]⟩,oT "is_size" "is_size" (Pr.top 12),oC "is_size" "is_size" 273 274 275 23 1 76 77 (.ref 78) (.ref 79) 80 277 278,oF "is_size" (Pr.top 12) (.str "quarterfold.floors" 269) 81,⟨.type "tuple",none,(.seq #[] 0),#[]⟩,⟨.none,none,(.fields #[]),#[]⟩,⟨.type "tuple",none,(.seq #[.str "thing" 285,.str "many" 286] 0),#[]⟩,⟨.type "tuple",none,(.seq #[] 0),#[]⟩,oT "is_number" "is_number" (Pr.top 14),oC "is_number" "is_number" 282 283 284 26 2 83 84 (.ref 85) (.ref 86) 87 287 288,oF "is_number" (Pr.top 14) u0_ 88,⟨.type "tuple",none,(.seq #[] 0),#[]⟩,⟨.none,none,(.fields #[]),#[]⟩,oT "is_row" "is_row" (Pr.top 15),oC "is_row" "is_row" 290 291 292 28 2 90 91 .none .none 92 293 294,oF "is_row" (Pr.top 15) u0_ 93,⟨.type "tuple",none,(.seq #[] 0),#[]⟩,⟨.none,none,(.fields #[]),#[]⟩,oT "are_rows" "are_rows" (Pr.top 16),oC "are_rows" "are_rows" 296 297 298 32 1 95 96 .none .none 97 299 300,oF "are_rows" (Pr.top 16) u0_ 98,⟨.type "tuple",none,(.seq #[] 0),#[]⟩,⟨.none,none,(.fields #[]),#[]⟩,⟨.type "tuple",none,(.seq #[.str "thing" 305,.str "n" 306,.str "top" 307,.str "rows" 308] 0),#[]⟩,⟨.type "tuple",none,(.seq #[] 0),#[]⟩,oT "is_telling" "is_telling" (Pr.top 17),oC "is_telling" "is_telling" 302 303 304 34 1 100 101 (.ref 102) (.ref 103) 104 309 310,oF "is_telling" (Pr.top 17) u0_ 105,⟨.type "tuple",none,(.seq #[] 0),#[]⟩,⟨.none,none,(.fields #[]),#[]⟩,⟨.type "tuple",none,(.seq #[.str "telling" 315] 0),#[]⟩,⟨.type "tuple",none,(.seq #[] 0),#[]⟩,oT "want_telling" "want_telling" (Pr.top 18),oC "want_telling" "want_telling" 312 313 314 41 1 107 108 (.ref 109) (.ref 110) 111 316 317,oF "want_telling" (Pr.top 18) u0_ 112,⟨.type "tuple",none,(.seq #[] 0),#[]⟩,⟨.none,none,(.fields #[]),#[]⟩,oT "same_steps" "same_steps" (Pr.top 20),oC "same_steps" "same_steps" 321 322 323 45 1 114 115 .none .none 116 324 325,oF "same_steps" (Pr.top 20) u1_ 117,⟨.type "tuple",none,(.seq #[] 0),#[]⟩,⟨.none,none,(.fields #[]),#[]⟩,oT "plain_steps" "plain_steps" (Pr.top 21),oC "plain_steps" "plain_steps" 327 328 329 53 1 119 120 .none .none 121 330 331,oF "plain_steps" (Pr.top 21) u1_ 122,⟨.type "tuple",none,(.seq #[] 0),#[]⟩,⟨.none,none,(.fields #[]),#[]⟩,oT "gone_steps" "gone_steps" (Pr.top 22),oC "gone_steps" "gone_steps" 333 334 335 55 2 124 125 .none .none 126 336 337,oF "gone_steps" (Pr.top 22) u1_ 127])))
noncomputable def hA (P:Params):Heap:=⟨⟨((((ob P).take 15).set 3 (boot_o_3 P)).set 12 (⟨.none,none,(.fields #[]),#[]⟩))⟩,(boot_heap P).life⟩
noncomputable def h1 (P:Params):Heap:=⟨⟨((((ob P).take 76).set 3 (⟨.type "dict",none,(.dict #[⟨kh P "__name__",.str "__name__" 165,.str "quarterfold.floors" 269⟩,⟨kh P "__doc__",.str "__doc__" 166,.none⟩,⟨kh P "__package__",.str "__package__" 167,.none⟩,⟨kh P "__loader__",.str "__loader__" 168,.builtin "__main__.__loader__#opaque"⟩,⟨kh P "__spec__",.str "__spec__" 169,.none⟩,⟨kh P "__annotations__",.str "__annotations__" 170,.ref 6⟩,⟨kh P "__builtins__",.str "__builtins__" 171,.ref 4⟩,⟨kh P "__file__",.str "__file__" 173,.str "/claim/cut.py" 172⟩,⟨kh P "__cached__",.str "__cached__" 174,.none⟩,⟨kh P "FloorError",.str "FloorError" 206,.ref 24⟩,⟨kh P "NoTelling",.str "NoTelling" 222,.ref 37⟩,⟨kh P "NoStep",.str "NoStep" 238,.ref 49⟩,⟨kh P "FIRST",.str "FIRST" 242,.int 2 241⟩,⟨kh P "is_whole",.str "is_whole" 249,.ref 58⟩,⟨kh P "is_plain",.str "is_plain" 256,.ref 65⟩,⟨kh P "depths_of",.str "depths_of" 262,.ref 70⟩,⟨kh P "renumbered",.str "renumbered" 268,.ref 75⟩] 17),#[]⟩)).set 12 (⟨.none,none,(.fields #[.int 2 0,.int 0 0,.ref 20,.int 4 0,.int 0 0,.ref 33,.int 6 0,.int 0 0,.ref 45,.int 10 0,.int 0 0,.ref 57,.int 12 0,.int 0 0,.ref 64,.int 14 0,.int 0 0,.ref 69,.int 19 0,.int 0 0,.ref 74]),#[]⟩))⟩,(boot_heap P).life⟩
noncomputable def h2 (P:Params):Heap:=⟨⟨(ob P)⟩,(boot_heap P).life⟩
noncomputable def bd:List Stmt:=behindTheImports pw
noncomputable def ev:Env:={ scope:=pw.main.scope,locals:=mainNs,globals:=mainNs,cells:=[],code:=.ref 13,frame:=some 14 }
noncomputable def cE:Code:=.body bd ev
noncomputable abbrev sh (h:Params->Heap) (k:Nat) (w:World) (os:OsState):Shared:=⟨h w.params,Array.mk [],boot_drawn,k,os⟩
noncomputable abbrev fr:List Frame:=[topFrame ⟨0,0,0,0⟩]
theorem pre0 (w:World) (os:OsState):topGo treeTable pw w 11 (some (.ref 6)) 12 (sh boot_heap boot_toks w os) (topStub pw)=some (sh hA 187 w os,⟨denote treeTable cE,cE,⟨0,0,0,0⟩,fr⟩):=by kernel_rfl
theorem blk0 (w:World) (os:OsState):segRun treeTable pw w 11 (some (.ref 6)) 1 1 (sh hA 187 w os) (blockOf bd ev cE ⟨0,0,0,0⟩ fr)=some (.next,sh hA 187 w os,cE,⟨0,0,0,0⟩):=by kernel_rfl
theorem piece_split {tb:String->Option Builtin}{p:Program}{w:World}{n₀:Nat}{ann:Option Value}{env:Env}{q:Pos}{n N j:Nat}{s s' r:Shared}{l:List Stmt}{c:Code}{pos p':Pos}(h:segRun tb p w n₀ ann 1 n s (piecesOf (l.take j) env c pos [topFrame q])=some (.next,s',c,p'))
  (k:topRun tb p w n₀ ann N s' (restOf (l.drop j) env c p' [topFrame q])=some r):topRun tb p w n₀ ann (n+N) s (restOf l env c pos [topFrame q])=some r:=by
 have:=piece_app (l:=l.take j) (rest:=l.drop j) h k
 rwa [List.take_append_drop] at this
theorem left_mid {p q:Program}{loose:List Str}{Xt:Shared->Bool}{α:Type}{Yf:Shared->α}{Ya:World->α}{N:Nat}{g0:Bool}{H₀:Params->Heap}{gs₀:Array GenState}{d₀:Drawn}{k₀ m₀ M N2:Nat}{ann:Option Value}{Z:World->OsState->Shared}{T:Thread}
  (open_:∀w:World,(fencedOpening treeTable p w N).map (λs=>(s.heap,s.gens,s.drawn,s.toks))=some (H₀ w.params,gs₀,d₀,k₀))
  (size:∀w:World,((H₀ w.params).isNs mainGlobals&&gs₀.size==0,(H₀ w.params).objs.size,(H₀ w.params).nsMap mainGlobals "__annotations__")=(true,m₀,ann))
  (run:∀(w:World) (os:OsState) (r:Shared),topRun treeTable p w m₀ ann N2 (Z w os) T=some r->topRun treeTable p w m₀ ann M ⟨H₀ w.params,gs₀,d₀,k₀,os⟩ (topStub p)=some r) (le:Nat.ble M N=true)
  (fin:∀(w:World) (os:OsState),(topRun treeTable p w m₀ ann N2 (Z w os) T).map (λs=>(staticsOk (importedModules p.main.body) (H₀ w.params) s.heap&&namesBound p s.heap&&gensDone s&&laidKept (H₀ w.params) s.heap,openSeen q loose (importedModules p.main.body) Xt g0 s,Yf s))=some (true,openGood q loose,Ya w)):LeftO p q loose Xt Yf Ya N g0:=λw=>by
 obtain⟨⟨h,gs,d,k,os⟩,e,e'⟩:=Option.map_eq_some_iff.mp (open_ w)
 obtain⟨rfl,rfl,rfl,rfl⟩:h=H₀ w.params/\gs=gs₀/\d=d₀/\k=k₀:=by simpa using e'
 obtain⟨z1,z2,z3⟩:_/\_/\_:=by simpa only [Prod.mk.injEq] using size w
 obtain⟨r,hr,e2⟩:=Option.map_eq_some_iff.mp (fin w os)
 obtain⟨l1,l2,l3⟩:_/\_/\_:=by simpa only [Prod.mk.injEq] using e2
 have r1:=topRun_mono (N-M) _ _ _ _ (run w os r hr)
 rw[show M+(N-M)=N by have:=Nat.le_of_ble_eq_true le;lia] at r1
 have t:topFrom treeTable p w N ⟨H₀ w.params,gs,d,k,os⟩=some r:=by
  unfold topFrom
  dsimp only
  rw[z1,z2,z3,r1]
  show (match staticsOk (importedModules p.main.body) (H₀ w.params) r.heap&&namesBound p r.heap&&gensDone r&&laidKept (H₀ w.params) r.heap with|true=>_|false=>_)=_
  rw[l1]
 unfold openEnds
 rw[e]
 show (topFrom treeTable p w N ⟨H₀ w.params,gs,d,k,os⟩).map _=_
 rw[t]
 show some (_,_)=some (_,_)
 rw[l2,l3]
theorem seg1 (w:World) (os:OsState):segRun treeTable pw w 11 (some (.ref 6)) 1 808 (sh hA 187 w os) (piecesOf (bd.take 11) ev cE ⟨0,0,0,0⟩ fr)=some (.next,sh h1 271 w os,cE,⟨21,0,21,8⟩):=by kernel_rfl
theorem seg2 (w:World) (os:OsState):segRun treeTable pw w 11 (some (.ref 6)) 1 327 (sh h1 271 w os) (piecesOf ((bd.drop 11).take 12) ev cE ⟨21,0,21,8⟩ fr)=some (.next,sh h2 339 w os,cE,⟨55,0,60,75⟩):=by kernel_rfl
theorem run0 (w:World) (os:OsState) (r:Shared) (h:topRun treeTable pw w 11 (some (.ref 6)) 413 (sh h2 339 w os) (restOf ((bd.drop 11).drop 12) ev cE ⟨55,0,60,75⟩ fr)=some r):topRun treeTable pw w 11 (some (.ref 6)) (12+(1+(808+(327+413)))) (sh boot_heap boot_toks w os) (topStub pw)=some r:=go_top (pre0 w os) (piece_block (blk0 w os) (piece_split (seg1 w os) (piece_split (seg2 w os) h)))
theorem opn0:opening pw=plainProg pw.main.scope.names:=by kernel_rfl
theorem fen0 (s:Shared):fenceModules? pw s=some s:=by kernel_rfl
def q0:Program:={ pw with main:={ pw.main with body:=keep0.map Pr.top } }
theorem as_K:∀P,as0=(K0 P).map (·.1):=λ_=>by kernel_rfl
abbrev X0:Shared->Bool:=λs=>xlAt q0 [] s&&recOk (RowW.records (OpenRow.toRowW (OpenLaw.row PySem.Challenge.rw_quarterfold_k21_steps_done))) s
set_option maxHeartbeats 0 in
theorem fin0 (w:World) (os:OsState):(topRun treeTable pw w 11 (some (.ref 6)) 413 (sh h2 339 w os) (restOf ((bd.drop 11).drop 12) ev cE ⟨55,0,60,75⟩ fr)).map (λs=>(staticsOk (importedModules pw.main.body) (boot_heap w.params) s.heap&&namesBound pw s.heap&&gensDone s&&laidKept (boot_heap w.params) s.heap,openSeen q0 [] (importedModules pw.main.body) X0 true s,Hook.obs (kHook Hd.K0 Hd.as0 Hd.as_K) s))=some (true,openGood q0 [],Hook.val (kHook Hd.K0 Hd.as0 Hd.as_K) w):=by kernel_rfl
theorem left0:LeftO pw q0 [] X0 (Hook.obs (kHook Hd.K0 Hd.as0 Hd.as_K)) (Hook.val (kHook Hd.K0 Hd.as0 Hd.as_K)) N0:=left_mid (boot_open opn0 rfl fen0) (λw=>by kernel_rfl) run0 (by rfl) fin0
end Hd
namespace L2
open PySem PySem.Spec PyProof.Rows
abbrev Key:=Sum Int Str
def keyIs:Key->Value->Bool
 |.inl k,v=>Value.isInt k v
 |.inr x,v=>Value.isStrOf x v
def keyH (w:World):Key->Int
 |.inl k=>hashInt k
 |.inr x=>hashStr w x
theorem keyIs_shape:∀{k:Key}{v:Value},keyIs k v=true->(∃i t,k=Sum.inl i/\v=Value.int i t)\/(∃x t,k=Sum.inr x/\v=Value.str x t)
 |.inl i,v,h=>by
  obtain⟨t,e⟩:=Value.isInt_shape (k:=i) (v:=v) h
  exact .inl ⟨i,t,rfl,e⟩
 |.inr x,v,h=>by
  obtain⟨t,e⟩:=Value.isStrOf_shape (x:=x) (v:=v) h
  exact .inr ⟨x,t,rfl,e⟩
theorem keyIs_int (i:Int) (t:Tok):keyIs (.inl i) (.int i t)=true:=by simp[keyIs,Value.isInt]
theorem keyIs_str (x:Str) (t:Tok):keyIs (.inr x) (.str x t)=true:=by simp[keyIs,Value.isStrOf]
theorem key_ll (a b:Int):decide ((Sum.inl a:Key)=Sum.inl b)=(a==b):=by
 by_cases e:a=b
 ·subst e;simp
 ·have h:¬(Sum.inl a:Key)=Sum.inl b:=λq=>e (Sum.inl.inj q)
  rw[decide_eq_false h]
  exact (beq_eq_false_iff_ne.mpr e).symm
theorem key_rr (a b:Str):decide ((Sum.inr a:Key)=Sum.inr b)=decide (a=b):=by
 by_cases e:a=b
 ·subst e;simp
 ·have h:¬(Sum.inr a:Key)=Sum.inr b:=λq=>e (Sum.inr.inj q)
  rw[decide_eq_false h,decide_eq_false e]
theorem key_lr (a:Int) (b:Str):decide ((Sum.inl a:Key)=Sum.inr b)=false:=decide_eq_false (λq=>nomatch q)
theorem key_rl (a:Str) (b:Int):decide ((Sum.inr a:Key)=Sum.inl b)=false:=decide_eq_false (λq=>nomatch q)
def mixKind (prog:Program) (w:World):PySem.KeyKind prog w Key where
 is:=keyIs
 hash:=keyH w
 inj:=λv a b ha hb=>by
  rcases keyIs_shape ha with ⟨i,t,rfl,rfl⟩|⟨x,t,rfl,rfl⟩
  ·rcases keyIs_shape hb with ⟨j,u,rfl,e⟩|⟨y,u,rfl,e⟩
   ·injection e with e1 _;rw[e1]
   ·exact nomatch e
  ·rcases keyIs_shape hb with ⟨j,u,rfl,e⟩|⟨y,u,rfl,e⟩
   ·exact nomatch e
   ·injection e with e1 _;rw[e1]
 byValue:=λk v h=>by
  rcases keyIs_shape h with ⟨i,t,rfl,rfl⟩|⟨x,t,rfl,rfl⟩<;>rfl
 pyHash:=λhv h=>by
  rcases keyIs_shape hv with ⟨i,t,rfl,rfl⟩|⟨x,t,rfl,rfl⟩
  ·exact wpAny_pyHash_int h
  ·exact wpAny_pyHash_str h
 eqBool:=λhu hv h=>by
  rcases keyIs_shape hu with ⟨i,t,rfl,rfl⟩|⟨x,t,rfl,rfl⟩
  ·rcases keyIs_shape hv with ⟨j,u,rfl,rfl⟩|⟨y,u,rfl,rfl⟩
   ·rw[key_ll] at h;exact wpAny_eqBool_int h
   ·rw[key_lr] at h;exact SeqAt.EqAt.int_str i t y u _ _ _ _ h
  ·rcases keyIs_shape hv with ⟨j,u,rfl,rfl⟩|⟨y,u,rfl,rfl⟩
   ·rw[key_rl] at h;exact SeqAt.EqAt.str_int x t j u _ _ _ _ h
   ·rw[key_rr] at h;exact wpAny_eqBool_str h
 «strs»:=λk x t v h=>by
  rcases keyIs_shape h with ⟨i,u,rfl,e⟩|⟨y,u,rfl,e⟩
  ·exact nomatch e
  ·injection e with e1 _
   subst e1
   cases v<;>rfl
theorem mixKind_int (prog:Program) (w:World) (i:Int) (t:Tok):(mixKind prog w).is (.inl i) (.int i t)=true:=keyIs_int i t
theorem mixKind_str (prog:Program) (w:World) (x:Str) (t:Tok):(mixKind prog w).is (.inr x) (.str x t)=true:=keyIs_str x t
end L2
namespace L2
open PySem PySem.Spec PyProof.Rows
inductive V where
 |non|bl (b:Bool)|int (i:Int)|str (x:Str)|byt (b:Array UInt8)|flt (b:UInt64)|ref (a:Addr)|ty (n:String)
 deriving DecidableEq
def RelV:V->Value->Prop
 |.non,u=>u=Value.none
 |.bl b,u=>u=Value.bool b
 |.int i,u=>∃t,u=Value.int i t
 |.str x,u=>∃t,u=Value.str x t
 |.byt b,u=>∃t,u=Value.bytes b t
 |.flt b,u=>∃t,u=Value.float b t
 |.ref a,u=>u=Value.ref a
 |.ty n,u=>u=Value.type n
abbrev Vals:List V->List Value->Prop:=Paired RelV
theorem Vals.length {xs:List V}{us:List Value}(r:Vals xs us):xs.length=us.length:=Paired.length r
theorem Vals.get:∀{xs:List V}{us:List Value}{i:Nat}{x:V},Vals xs us->xs[i]?=some x->∃u,us[i]?=some u/\RelV x u
 |_,_,_,_,.nil,e=>by simp at e
 |_,_,0,_,.cons r _,e=>by simp at e;subst e;exact⟨_,rfl,r⟩
 |_,_,i+1,x,.cons _ t,e=>by
  obtain⟨u,h1,h2⟩:=Vals.get (i:=i) (x:=x) t (by simpa using e)
  exact⟨u,by simpa using h1,h2⟩
theorem Vals.set {x:V}{u:Value}(r:RelV x u):∀{xs:List V}{us:List Value}(i:Nat),Vals xs us->Vals (xs.set i x) (us.set i u)
 |_,_,_,.nil=>.nil
 |_,_,0,.cons _ t=>.cons r t
 |_,_,i+1,.cons q t=>.cons q (Vals.set r i t)
theorem Vals.append:∀{xs ys:List V}{us ws:List Value},Vals xs us->Vals ys ws->Vals (xs++ys) (us++ws)
 |_,_,_,_,.nil,s=>s
 |_,_,_,_,.cons r t,s=>.cons r (Vals.append t s)
theorem Vals.take:∀{xs:List V}{us:List Value}(n:Nat),Vals xs us->Vals (xs.take n) (us.take n)
 |_,_,0,_=>.nil
 |_,_,_+1,.nil=>.nil
 |_,_,n+1,.cons r t=>.cons r (Vals.take n t)
theorem Vals.drop:∀{xs:List V}{us:List Value}(n:Nat),Vals xs us->Vals (xs.drop n) (us.drop n)
 |_,_,0,r=>r
 |_,_,_+1,.nil=>.nil
 |_,_,n+1,.cons _ t=>Vals.drop n t
def RelO:Option V->Option Value->Prop
 |some v,some u=>RelV v u
 |none,none=>True
 |_,_=>False
def KV {κ:Type}:List (κ×V)->List (κ×Value)->Prop:=Paired λ(p:κ×V) (q:κ×Value)=>p.1=q.1/\RelV p.2 q.2
def kV:Key->V
 |.inl i=>.int i
 |.inr x=>.str x
inductive HO where
 |lst (xs:List V)
 |tup (xs:List V)
 |dK (kvs:List (Key×V))|dT (kvs:List (List Key×V))
 |set (S:Int->Bool) (n:Nat)
 |ins (C dx:Addr) (fs:List (Str×V))
 |own (x:Addr)
 |xd (fs:List (Str×V))
 |met (f x:Addr)
 |rng (lo hi:Int)
 |frz (o:Obj) (u:HO)
 |tbl (ps:Array Value)
 |ext (φ:Heap->Prop)
abbrev Hp:=Addr->Option HO
def upd (H:Hp) (a:Addr) (o:HO):Hp:=λb=>if b=a then some o else H b
theorem upd_same {H:Hp}{a:Addr}{o:HO}:upd H a o a=some o:=by unfold upd;rw[if_pos rfl]
theorem upd_ne {H:Hp}{a b:Addr}{o:HO}(h:b≠a):upd H a o b=H b:=by unfold upd;rw[if_neg h]
theorem upd_upd {H:Hp}{a:Addr}{o u:HO}:upd (upd H a o) a u=upd H a u:=by
 funext b;unfold upd;split<;>rfl
theorem ne_of {H:Hp}{a b:Addr}{o u:HO}(h:H a=some o) (h':H b=some u) (d:o≠u):a≠b:=by
 intro e;subst e;rw[h] at h';exact d (Option.some.inj h')
theorem ne_of_none {H:Hp}{a b:Addr}{o:HO}(h:H a=some o) (h':H b=none):a≠b:=by
 intro e;subst e;rw[h] at h';cases h'
def IsTupX (h:Heap) (a:Addr) (items:Array Value):Prop:=∃o,h.get? a=some o/\o.cls=.type "tuple" /\ ∃n:{n:Nat // o.dict=none},o.data=.seq items n.1
theorem IsTupX.is {h:Heap}{a:Addr}{items:Array Value}(x:IsTupX h a items):IsTup h a items:=let ⟨o,h1,h2,n,h3⟩:=x;⟨o,h1,h2,n.1,h3⟩
theorem IsTupX.new (h:Heap) (items:Array Value):IsTupX (h.push { cls:=.type "tuple",data:=.seq items }) h.objs.size items:=⟨_,Heap.get?_push_size _ rfl,rfl,⟨_,rfl⟩,rfl⟩
instance {h:Heap}{a:Addr}{items:Array Value}:Coe (IsTupX h a items) (IsTup h a items):=⟨IsTupX.is⟩
instance {h:Heap}{a:Addr}{items:Array Value}:Coe (IsTupX h a items) (h.IsTuple a items):=⟨IsTupX.is⟩
section
variable (P:Program) (w:World)
def ObjOk (H:Hp) (h:Heap) (a:Addr):HO->Prop
 |.lst xs=>xs.length<=sizeLine/\∃(its:List Value) (n:Nat),Vals xs its/\h.get? a=some { cls:=.type "list",data:=.seq its.toArray n }
 |.tup xs=>xs.length<=sizeLine/\∃its:List Value,Vals xs its/\IsTupX h a its.toArray
 |.dK kvs=>kvs.length<=sizeLine/\(a==sysModules)=false/\∃vs,KV kvs vs/\h.DictOf (mixKind P w) a vs
 |.dT kvs=>kvs.length<=sizeLine/\(a==sysModules)=false/\∃xs:List (List Key×Addr×Value),
   Paired (λ(p:List Key×V) (q:List Key×Addr×Value)=>p.1=q.1/\H q.2.1=some (.tup (p.1.map kV))/\RelV p.2 q.2.2) kvs xs /\
   ∃o es ep,h.get? a=some o/\o.ExactDict/\o.data=.dict es ep/\es.toList=xs.map (entryOfKey (tupleKind (mixKind P w)))/\(xs.map (·.1)).Nodup
 |.set S n=>h.SetOf (intKind P w) a S n
 |.ins C dx fs=>H dx=some (.own a)/\fs.length<=1000/\dx≠a/\h.get? a=some (PySem.W.instObj C dx) /\
   ∃mA,h.Ns1 dx mA/\(∀f,RelO (fs.lookup f) (mA f))/\PySem.Within mA (fs.map (·.1))
 |.own _=>∃o,h.get? a=some o
 |.xd fs=>∃mA,h.Ns1 a mA/\∀f,RelO (fs.lookup f) (mA f)
 |.rng lo hi=>∃t u v,h.get? a=some { cls:=.type "range",data:=.fields #[.int lo t,.int hi u,.int 1 v] }
 |.frz o u=>h.get? a=some o/\ObjOk H h a u
 |.tbl ps=>h.get? a=some { cls:=.none,data:=.fields ps }
 |.met f x=>h.get? a=some (PySem.W.methodObj (.ref f) (.ref x))
 |.ext φ=>φ h/\(∃o,h.get? a=some o)/\∀h1 h2:Heap,φ h1->(∀o,h1.get? a=some o->h2.get? a=some o)->φ h2
def HOk (H:Hp) (h:Heap):Prop:=∀a o,H a=some o->ObjOk P w H h a o
end
section
variable {P:Program}{w:World}{H H':Hp}{h h':Heap}{a:Addr}{o:HO}
theorem ObjOk.lt (x:ObjOk P w H h a o):a<h.objs.size:=by
 cases o with
 |lst xs=>obtain⟨_,_,_,_,e⟩:=x;exact Heap.lt_size e
 |tup xs=>obtain⟨_,_,_,p⟩:=x;exact (IsTupX.is p).lt
 |dK kvs=>obtain⟨_,_,_,_,o,_,_,e,_⟩:=x;exact Heap.lt_size e
 |dT kvs=>obtain⟨_,_,_,_,o,_,_,e,_⟩:=x;exact Heap.lt_size e
 |set S n=>obtain⟨o,_,_,_,e,_⟩:=x;exact Heap.lt_size e
 |ins C dx fs=>obtain⟨_,_,_,e,_⟩:=x;exact Heap.lt_size e
 |own y=>obtain⟨_,e⟩:=x;exact Heap.lt_size e
 |xd fs=>obtain⟨_,⟨_,_,_,e,_⟩,_⟩:=x;exact Heap.lt_size e
 |rng lo hi=>obtain⟨_,_,_,e⟩:=x;exact Heap.lt_size e
 |frz ob u=>obtain⟨e,_⟩:=x;exact Heap.lt_size e
 |tbl ps=>exact Heap.lt_size (show h.get? a=some _ from x)
 |met f y=>exact Heap.lt_size (show h.get? a=some _ from x)
 |ext φ=>obtain⟨_,⟨_,e⟩,_⟩:=x;exact Heap.lt_size e
theorem Paired.mapP {α β:Type}{F G:α->β->Prop}:∀{l₁:List α}{l₂:List β},Paired F l₁ l₂->(∀a b,F a b->G a b)->Paired G l₁ l₂
 |_,_,.nil,_=>.nil
 |_,_,.cons r t,f=>.cons (f _ _ r) (Paired.mapP t f)
theorem ObjOk.stay (x:ObjOk P w H h a o) (k:∀b u,(b=a\/H b=some (.own a))->h.get? b=some u->h'.get? b=some u)
  (ho:∀b,H b=some (.own a)->H' b=some (.own a)) (ht:∀b xs,H b=some (.tup xs)->H' b=some (.tup xs)):ObjOk P w H' h' a o:=by
 induction o with
 |lst xs=>obtain⟨z,its,n,r,e⟩:=x;exact⟨z,its,n,r,k _ _ (.inl rfl) e⟩
 |tup xs=>obtain⟨z,its,r,ob,e,c⟩:=x;exact⟨z,its,r,ob,k _ _ (.inl rfl) e,c⟩
 |dK kvs=>obtain⟨z,y,vs,r,ob,es,ep,e,c⟩:=x;exact⟨z,y,vs,r,ob,es,ep,k _ _ (.inl rfl) e,c⟩
 |dT kvs=>
  obtain⟨z,y,xs,r,ob,es,ep,e,c⟩:=x
  exact⟨z,y,xs,Paired.mapP r λp q z=>⟨z.1,ht _ _ z.2.1,z.2.2⟩,ob,es,ep,k _ _ (.inl rfl) e,c⟩
 |set S n=>obtain⟨ob,es,ep,t,e,c⟩:=x;exact⟨ob,es,ep,t,k _ _ (.inl rfl) e,c⟩
 |ins C dx fs=>
  obtain⟨d,z,ne,e,mA,⟨od,es,ep,e2,c⟩,r⟩:=x
  exact⟨ho _ d,z,ne,k _ _ (.inl rfl) e,mA,⟨od,es,ep,k _ _ (.inr d) e2,c⟩,r⟩
 |own y=>obtain⟨ob,e⟩:=x;exact⟨ob,k _ _ (.inl rfl) e⟩
 |xd fs=>obtain⟨mA,⟨od,es,ep,e,c⟩,r⟩:=x;exact⟨mA,⟨od,es,ep,k _ _ (.inl rfl) e,c⟩,r⟩
 |rng lo hi=>obtain⟨t,u,v,e⟩:=x;exact⟨t,u,v,k _ _ (.inl rfl) e⟩
 |frz ob u ih=>obtain⟨e,q⟩:=x;exact⟨k _ _ (.inl rfl) e,ih q⟩
 |tbl ps=>
  have e:h.get? a=some { cls:=.none,data:=.fields ps }:=x
  show h'.get? a=some { cls:=.none,data:=.fields ps }
  exact k a _ (.inl rfl) e
 |met f y=>
  have e:h.get? a=some (PySem.W.methodObj (.ref f) (.ref y)):=x
  show h'.get? a=some (PySem.W.methodObj (.ref f) (.ref y))
  exact k a _ (.inl rfl) e
 |ext φ=>obtain⟨p,⟨o,e⟩,st⟩:=x;exact⟨st _ _ p λo q=>k _ _ (.inl rfl) q,⟨o,k _ _ (.inl rfl) e⟩,st⟩
theorem HOk.lt (x:HOk P w H h) (e:H a=some o):a<h.objs.size:=(x a o e).lt
theorem HOk.fresh (x:HOk P w H h) (e:h.objs.size<=a):H a=none:=by
 cases q:H a with
 |none=>rfl
 |some u=>exact absurd (Nat.lt_of_lt_of_le (x.lt q) e) (Nat.lt_irrefl _)
theorem HOk.kept (x:HOk P w H h) (k:∀b u,h.get? b=some u->h'.get? b=some u):HOk P w H h':=λa o e=>
 (x a o e).stay (λb u _ q=>k b u q) (λ_ q=>q) λ_ _ q=>q
theorem HOk.laid (x:HOk P w H h) (k:∀b u,h.get? b=some u->h'.get? b=some u) (hp:h.objs.size<=a) (new:ObjOk P w (upd H a o) h' a o):HOk P w (upd H a o) h':=λb u e=>by
 have hn:=x.fresh hp
 by_cases hb:b=a
 ·subst hb;rw[upd_same] at e;cases e;exact new
 ·rw[upd_ne hb] at e
  exact (x b u e).stay (λc v _ q=>k c v q) (λc q=>by rw[upd_ne (ne_of_none q hn)];exact q) λc xs q=>by rw[upd_ne (ne_of_none q hn)];exact q
end
def Rd (H:Hp) (a:Addr) (u:HO):Prop:=H a=some u\/∃o,H a=some (.frz o u)
theorem Rd.ok {P:Program}{w:World}{H:Hp}{h:Heap}{a:Addr}{u:HO}(r:Rd H a u) (x:HOk P w H h):ObjOk P w H h a u:=by
 rcases r with r|⟨o,r⟩
 ·exact x a u r
 ·obtain⟨_,q⟩:=x a _ r
  exact q
def Mut:Option HO->Prop
 |some (.lst _)=>True
 |some (.dK _)=>True
 |some (.dT _)=>True
 |some (.set _ _)=>True
 |some (.ins _ _ _)=>True
 |some (.ext _)=>True
 |_=>False
section
variable {P:Program}{w:World}{H:Hp}{h h':Heap}{x e:Addr}{o':HO}
theorem HOk.write (ok:HOk P w H h) (mu:Mut (H x)) (he:e=x\/H e=some (.own x)) (k:∀b u,b≠e->h.get? b=some u->h'.get? b=some u) (heo:∃u,h'.get? e=some u)
  (new:ObjOk P w (upd H x o') h' x o'):HOk P w (upd H x o') h':=λb u q=>by
 have nown:∀c y,H c=some (.own y)->c≠x:=λc y r z=>by subst z;rw[r] at mu;exact mu
 have ntup:∀c xs,H c=some (.tup xs)->c≠x:=λc xs r z=>by subst z;rw[r] at mu;exact mu
 by_cases hb:b=x
 ·subst hb;rw[upd_same] at q;cases q;exact new
 ·rw[upd_ne hb] at q
  by_cases hbe:b=e
  ·have q':H b=some (.own x):=by
    rcases he with z|z
    ·exact absurd (hbe.trans z) hb
    ·rw[hbe];exact z
   rw[q] at q';cases q'
   obtain⟨v,hv⟩:=heo
   exact⟨v,by rw[hbe];exact hv⟩
  ·refine (ok b u q).stay (λc v hc r=>k c v ?_ r) (λc r=>by rw[upd_ne (nown c b r)];exact r) λc xs r=>by rw[upd_ne (ntup c xs r)];exact r
   rcases hc with rfl|hc
   ·exact hbe
   ·rintro rfl
    rcases he with z|z
    ·exact nown c b hc z
    ·rw[hc] at z;cases z;exact hb rfl
end
structure Un (fs ex:List Addr) (H H':Hp) (h h':Heap):Prop where
 keep:∀b o,h.get? b=some o->H b=none->b∉fs->b∉ex->h'.get? b=some o
 slot:∀b o,h.get? b=some o->H b=none->b∈fs->b∉ex->∃sl,h'.get? b=some { o with slots:=sl }
 free:∀b o,h.get? b=some o->H b=none->b∉ex->H' b=none
 there:∀b o,h.get? b=some o->b∉ex->∃o',h'.get? b=some o'
 tups:∀b xs,H b=some (.tup xs)->H' b=some (.tup xs)
 frzs:∀b o u,H b=some (.frz o u)->H' b=some (.frz o u)
 tbls:∀b ps,H b=some (.tbl ps)->∃more,H' b=some (.tbl (ps++more))
section
variable {fs fs' ex ex':List Addr}{H H1 H2:Hp}{h h1 h2 h':Heap}{a x e:Addr}{o:HO}
theorem Un.any (u:Un fs ex H H1 h h1){b:Addr}{ob:Obj}(q:h.get? b=some ob) (n:H b=none) (hx:b∉ex):∃sl,h1.get? b=some { ob with slots:=sl }:=by
 by_cases hb:b∈fs
 ·exact u.slot b ob q n hb hx
 ·exact⟨ob.slots,u.keep b ob q n hb hx⟩
theorem Un.kept (k:∀b u,h.get? b=some u->h'.get? b=some u):Un fs ex H H h h':=
 ⟨λb ob q _ _ _=>k b ob q,λb ob q _ _ _=>⟨ob.slots,k b ob q⟩,λ_ _ _ n _=>n,λb ob q _=>⟨ob,k b ob q⟩,λ_ _ q=>q,λ_ _ _ q=>q,λ_ ps q=>⟨#[],by rw[q];simp⟩⟩
theorem Un.refl:Un fs ex H H h h:=Un.kept λ_ _ q=>q
theorem Un.laid (k:∀b u,h.get? b=some u->h'.get? b=some u) (hp:h.objs.size<=a) (hn:H a=none):Un fs ex H (upd H a o) h h' where
 keep:=λb u q _ _ _=>k b u q
 slot:=λb u q _ _ _=>⟨u.slots,k b u q⟩
 free:=λb u q n _=>by rw[upd_ne (Nat.ne_of_lt (Nat.lt_of_lt_of_le (Heap.lt_size q) hp))];exact n
 there:=λb u q _=>⟨u,k b u q⟩
 tups:=λb xs q=>by rw[upd_ne (ne_of_none q hn)];exact q
 frzs:=λb u xs q=>by rw[upd_ne (ne_of_none q hn)];exact q
 tbls:=λb ps q=>⟨#[],by rw[upd_ne (ne_of_none q hn),q];simp⟩
theorem Un.write (mu:Mut (H x)) (he:e=x\/H e=some (.own x)) (k:∀b u,b≠e->h.get? b=some u->h'.get? b=some u) (heo:∃u,h'.get? e=some u):Un fs ex H (upd H x o) h h':=by
 have hx:∀b,H b=none->b≠x:=λb n z=>by subst z;rw[n] at mu;exact mu
 have hb:∀b,H b=none->b≠e:=λb n z=>by
  subst z
  rcases he with r|r
  ·exact hx b n r
  ·rw[n] at r;cases r
 have hm:∀b u,H b=some u->¬Mut (some u)->b≠x:=λb u q nm z=>by subst z;rw[q] at mu;exact nm mu
 refine⟨λb u q n _ _=>k b u (hb b n) q,λb u q n _ _=>⟨u.slots,k b u (hb b n) q⟩,λb u q n _=>by rw[upd_ne (hx b n)];exact n,λb u q _=>?_,
  λb xs q=>by rw[upd_ne (hm b _ q λz=>z)];exact q,λb u xs q=>by rw[upd_ne (hm b _ q λz=>z)];exact q,λb ps q=>⟨#[],by rw[upd_ne (hm b _ q λz=>z),q];simp⟩⟩
 by_cases hbe:b=e
 ·subst hbe;exact heo
 ·exact⟨u,k b u hbe q⟩
end
def trk (h:Heap) (H:Hp):List Addr:=(List.range h.objs.size).filter λa=>(H a).isSome
def hidT (h:Heap) (H:Hp):Heap:=PySem.W.hideAll h (trk h H)
theorem hidT_size (h:Heap) (H:Hp):(hidT h H).objs.size=h.objs.size:=PySem.W.hideAll_size _ _
theorem hidT_get {h:Heap}{H:Hp}{b:Addr}{o:Obj}(e:h.get? b=some o) (n:H b=none):(hidT h H).get? b=some o:=
 PySem.W.hideAll_get _ e λhm=>by
  have q:(H b).isSome=true:=(List.mem_filter.mp hm).2
  rw[n] at q;simp at q
theorem of_hidT {h:Heap}{H:Hp}{b:Addr}{o:Obj}(e:(hidT h H).get? b=some o):h.get? b=some o/\H b=none:=by
 have e':h.get? b=some o:=PySem.W.of_hideAll (trk h H) e
 refine⟨e',?_⟩
 cases q:H b with
 |none=>rfl
 |some x=>
  have hm:b∈trk h H:=List.mem_filter.mpr ⟨List.mem_range.mpr (Heap.lt_size e'),by simp[q]⟩
  have z:(hidT h H).get? b=none:=PySem.W.hideAll_none (trk h H) hm
  rw[z] at e;cases e
end L2
namespace L2
open PySem PySem.Spec PyProof.Rows
structure Mod (K:PySem.W.Frag) (mg:Str->Option Value) (base:Heap):Prop where
 kin:K.In base
 glob:base.Ns mainGlobals mg
 blt:∃mb,base.Ns builtinsNs mb/\∀x:Str,x ≠ "__name__" -> mb x=bootBuiltins x
 nolimit:base.NoLimit
structure Cx where
 prog:Program
 w:World
 K:PySem.W.Frag
 mg:Str->Option Value
 base:Heap
 A:Around
 N:List Str
 s₀:Shared
 H₀:Hp
 env:Env
 outer:List Env
 stack:List Env
 ex:List Addr
 fn:Str->Bool
 calm:Bool
 pn:List (Addr×Obj)
 xe:Value->Shared->Prop
def frs (l:List Env):List Addr:=l.filterMap (·.frame)
abbrev Cx.fs (X:Cx):List Addr:=frs X.outer
def Vis (sc:Scope) (x:Str):Prop:=sc.names.lookup x=some .local\/sc.names.lookup x=some .cell\/sc.names.lookup x=some .free
def Loc (sc:Scope) (x:Str):Prop:=sc.names.lookup x=some .local\/sc.names.lookup x=some .cell
def Look (env:Env) (h:Heap) (m:Str->Option Value) (x:Str) (u:Value):Prop:=
 (env.kindOf x=some .local/\m x=some u)\/((env.kindOf x=some .cell\/env.kindOf x=some .free)/\∃c,env.cells.lookup x=some c/\h.IsCell c (some u))
structure Cx.Ok (X:Cx):Prop where
 mod:Mod X.K X.mg X.base
 kind:X.env.scope.kind=.function
 glob:X.env.globals=mainGlobals
 blt:X.env.builtins=builtinsNs
 above:X.s₀.heap.objs.size<=X.env.locals
 inj:∀x y c,X.env.cells.lookup x=some c->X.env.cells.lookup y=some c->x=y
 has:∀x,(X.env.kindOf x=some .cell\/X.env.kindOf x=some .free)->∃c,X.env.cells.lookup x=some c
 cab:∀x c,X.fn x=true->X.env.cells.lookup x=some c->X.s₀.heap.objs.size<=c
 hd:X.calm=true->X.A.handled=none
 frames:X.A.frames=some X.stack
 stk:X.stack=X.outer\/(X.stack=X.env::X.outer/\X.env.frame=some X.env.locals)
 exf:∀b∈X.ex,b≠X.env.locals/\∀x c,X.env.cells.lookup x=some c->c≠b
 bs:∀b o,X.base.get? b=some o->X.s₀.heap.get? b=some o/\X.H₀ b=none
 bsz:X.base.objs.size<=X.s₀.heap.objs.size
 noex:∀b o,X.base.get? b=some o->b∉X.ex
 exfs:∀b∈X.ex,b∉X.fs
 funs:X.s₀.heap.FunFrames X.base X.outer
 frf:∀b∈X.fs,X.H₀ b=none
structure Inv (X:Cx) (pins:List (Addr×Obj)) (σ:List (Option V)) (H:Hp) (s:Shared):Prop where
 ok:X.Ok
 os:s.os=X.s₀.os
 bare:AllBare s.gens
 base:Un X.fs X.ex X.H₀ H X.s₀.heap s.heap
 loc:∃m,s.heap.Ns X.env.locals m/\∀(i:Nat) (x:Str) (v:V),X.N[i]?=some x->σ[i]?=some (some v)->Vis X.env.scope x->∃u,RelV v u/\Look X.env s.heap m x u
 cell:∀x c,X.env.cells.lookup x=some c->∃v,s.heap.IsCell c v
 free:H X.env.locals=none
 freeC:∀x c,X.env.cells.lookup x=some c->H c=none
 pin:∀p∈X.pn++pins,s.heap.get? p.1=some p.2/\H p.1=none/\p.1≠X.env.locals/\p.1∉X.fs/\∀v,p.2.data≠.cell v
 hok:HOk X.prog X.w H s.heap
 len:σ.length=X.N.length
section
variable {X:Cx}{pins:List (Addr×Obj)}{σ:List (Option V)}{H H':Hp}{s:Shared}{h':Heap}
theorem Cx.Ok.nofr (ok:X.Ok){b:Addr}{o:Obj}(e:X.base.get? b=some o):b∉X.fs:=λhb=>by
 have:=(ok.funs.mem hb).1
 rw[e] at this;cases this
theorem Inv.bs (I:Inv X pins σ H s):∀b o,X.base.get? b=some o->s.heap.get? b=some o/\H b=none:=λb o e=>
 ⟨I.base.keep b o (I.ok.bs b o e).1 (I.ok.bs b o e).2 (I.ok.nofr e) (I.ok.noex b o e),I.base.free b o (I.ok.bs b o e).1 (I.ok.bs b o e).2 (I.ok.noex b o e)⟩
theorem Inv.bk (I:Inv X pins σ H s):∀b o,X.base.get? b=some o->s.heap.get? b=some o:=λb o e=>(I.bs b o e).1
theorem Inv.mod (I:Inv X pins σ H s):Mod X.K X.mg X.base:=I.ok.mod
theorem Inv.kIn (I:Inv X pins σ H s):X.K.In s.heap:=I.ok.mod.kin.keeps I.bk
theorem Inv.lt (I:Inv X pins σ H s):X.env.locals<s.heap.objs.size:=let ⟨_,hn,_⟩:=I.loc;hn.lt
theorem Inv.sz (I:Inv X pins σ H s):X.s₀.heap.objs.size<=s.heap.objs.size:=Nat.le_trans I.ok.above (Nat.le_of_lt I.lt)
theorem Inv.nofs (I:Inv X pins σ H s){a:Addr}(h:s.heap.objs.size<=a):a∉X.fs:=λhb=>by
 obtain⟨_,o,ho,_⟩:=I.ok.funs.mem hb
 exact absurd (Nat.lt_of_lt_of_le (Heap.lt_size ho) (Nat.le_trans I.sz h)) (Nat.lt_irrefl _)
theorem Inv.cne (I:Inv X pins σ H s):∀x c,X.env.cells.lookup x=some c->c≠X.env.locals:=λx c e z=>by
 obtain⟨v,o,ho,hd⟩:=I.cell x c e
 obtain⟨m,⟨o',es,ep,ho',hd',_⟩,_⟩:=I.loc
 rw[z,ho'] at ho;cases ho;rw[hd'] at hd;cases hd
theorem Inv.funs (I:Inv X pins σ H s):s.heap.FunFrames X.base X.outer:=by
 have all:∀(l:List Env),(∀b∈frs l,b∈X.fs)->X.s₀.heap.FunFrames X.base l->s.heap.FunFrames X.base l:=by
  intro l
  induction l with
  |nil=>intro _ _;trivial
  |cons env r ih=>
   intro hs hl
   obtain⟨hk,⟨L,o,hf,hn,ho,hd⟩,hr⟩:=hl
   have hL:L∈X.fs:=hs L (by unfold frs;rw[List.filterMap_cons,hf];exact List.mem_cons_self)
   obtain⟨sl,e⟩:=I.base.slot L o ho (I.ok.frf L hL) hL λz=>I.ok.exfs L z hL
   exact⟨hk,⟨L,_,hf,hn,e,hd⟩,ih (λb hb=>hs b (by unfold frs;rw[List.filterMap_cons,hf];exact List.mem_cons_of_mem _ hb)) hr⟩
 exact all X.outer (λ_ hb=>hb) I.ok.funs
theorem Inv.stack (I:Inv X pins σ H s):s.heap.FunFrames X.base X.stack:=by
 rcases I.ok.stk with e|⟨e,hf⟩
 ·rw[e];exact I.funs
 ·rw[e]
  obtain⟨m,hn,_⟩:=I.loc
  refine .cons (by rw[I.ok.kind];decide) hf hn ?_ I.funs
  exact Heap.get?_none_of_le (Nat.le_trans I.ok.bsz I.ok.above)
theorem Inv.stkSub (I:Inv X pins σ H s):∀b∈frs X.stack,b∈X.env.locals::X.fs:=λb hb=>by
 rcases I.ok.stk with e|⟨e,hf⟩
 ·rw[e] at hb;exact List.mem_cons_of_mem _ hb
 ·rw[e] at hb
  unfold frs at hb
  rw[List.filterMap_cons,hf] at hb
  exact hb
theorem Inv.stkFree (I:Inv X pins σ H s):∀b∈frs X.stack,H b=none:=λb hb=>by
 rcases List.mem_cons.mp (I.stkSub b hb) with e|hb
 ·rw[e];exact I.free
 ·obtain⟨_,o,ho,_⟩:=I.ok.funs.mem hb
  exact I.base.free b o ho (I.ok.frf b hb) λz=>I.ok.exfs b z hb
theorem Inv.step {g':Array GenState}{t':Nat}{d':Drawn}{ch:List Addr}(I:Inv X pins σ H s)
  (hch:∀b∈ch,(b∈X.ex\/X.s₀.heap.objs.size<=b)/\b≠X.env.locals/\(∀x c,X.env.cells.lookup x=some c->c≠b)/\∀p∈X.pn++pins,p.1≠b)
  (keep:∀b o,b≠X.env.locals->b∉X.fs->b∉ch->s.heap.get? b=some o->H b=none->h'.get? b=some o)
  (slot:∀b o,b≠X.env.locals->b∈X.fs->b∉ch->s.heap.get? b=some o->H b=none->∃sl,h'.get? b=some { o with slots:=sl }) (free:∀b o,b∉ch->s.heap.get? b=some o->H b=none->H' b=none)
  (there:∀b o,b∉ch->s.heap.get? b=some o->∃o',h'.get? b=some o')
  (tups:∀b xs,H b=some (.tup xs)->H' b=some (.tup xs)) (frzs:∀b o u,H b=some (.frz o u)->H' b=some (.frz o u)) (tbls:∀b ps,H b=some (.tbl ps)->∃more,H' b=some (.tbl (ps++more)))
  (ns:∀m,s.heap.Ns X.env.locals m->h'.Ns X.env.locals m) (hok:HOk X.prog X.w H' h') (hg:AllBare g') :
  Inv X pins σ H' { s with heap:=h',gens:=g',drawn:=d',toks:=t' }:=by
 have neL:∀b o,X.s₀.heap.get? b=some o->b≠X.env.locals:=λb o e=>Nat.ne_of_lt (Nat.lt_of_lt_of_le (Heap.lt_size e) I.ok.above)
 have neC:∀b o,X.s₀.heap.get? b=some o->b∉X.ex->b∉ch:=λb o e hx hb=>by
  rcases (hch b hb).1 with z|z
  ·exact hx z
  ·exact absurd (Nat.lt_of_lt_of_le (Heap.lt_size e) z) (Nat.lt_irrefl _)
 have cellK:∀x c,X.env.cells.lookup x=some c->∀v,s.heap.IsCell c v->h'.IsCell c v:=λx c e v ⟨o,ho,hd⟩=>by
  have nch:c∉ch:=λz=>(hch c z).2.2.1 x c e rfl
  by_cases hc:c∈X.fs
  ·obtain⟨sl,q⟩:=slot c o (I.cne x c e) hc nch ho (I.freeC x c e)
   exact⟨_,q,hd⟩
  ·exact⟨o,keep c o (I.cne x c e) hc nch ho (I.freeC x c e),hd⟩
 refine⟨I.ok,I.os,hg,⟨λb o e n hb hx=>?_,λb o e n hb hx=>?_,λb o e n hx=>?_,λb o e hx=>?_,λb xs e=>tups b xs (I.base.tups b xs e),λb o xs e=>frzs b o xs (I.base.frzs b o xs e),λb ps e=>?_⟩,?_,λx c e=>?_,?_,λx c e=>?_,λp hp=>?_,hok,I.len⟩
 ·exact keep b o (neL b o e) hb (neC b o e hx) (I.base.keep b o e n hb hx) (I.base.free b o e n hx)
 ·obtain⟨sl,e1⟩:=I.base.slot b o e n hb hx
  obtain⟨sl',e2⟩:=slot b _ (neL b o e) hb (neC b o e hx) e1 (I.base.free b o e n hx)
  exact⟨sl',e2⟩
 ·obtain⟨o',e1⟩:=I.base.there b o e hx
  exact free b o' (neC b o e hx) e1 (I.base.free b o e n hx)
 ·obtain⟨o',e1⟩:=I.base.there b o e hx
  exact there b o' (neC b o e hx) e1
 ·obtain⟨m1,e1⟩:=I.base.tbls b ps e
  obtain⟨m2,e2⟩:=tbls b _ e1
  exact⟨m1++m2,by rw[e2,Array.append_assoc]⟩
 ·obtain⟨m,hn,hl⟩:=I.loc
  refine⟨m,ns m hn,λi x v e1 e2 e3=>?_⟩
  obtain⟨u,r,l⟩:=hl i x v e1 e2 e3
  refine⟨u,r,?_⟩
  rcases l with l|⟨k,c,e,z⟩
  ·exact .inl l
  ·exact .inr ⟨k,c,e,cellK x c e _ z⟩
 ·obtain⟨v,z⟩:=I.cell x c e
  exact⟨v,cellK x c e v z⟩
 ·obtain⟨m,⟨o,_,_,ho,_⟩,_⟩:=I.loc
  exact free _ o (λz=>(hch _ z).2.1 rfl) ho I.free
 ·obtain⟨v,o,ho,hd⟩:=I.cell x c e
  exact free c o (λz=>(hch c z).2.2.1 x c e rfl) ho (I.freeC x c e)
 ·obtain⟨e,n,ne,nf,d⟩:=I.pin p hp
  have nch:p.1∉ch:=λz=>(hch p.1 z).2.2.2 p hp rfl
  exact⟨keep p.1 p.2 ne nf nch e n,free p.1 p.2 nch e n,ne,nf,d⟩
theorem Inv.un {t':Nat}(I:Inv X pins σ H s) (u:Un X.fs [] H H' s.heap h') (hok:HOk X.prog X.w H' h'):Inv X pins σ H' { s with heap:=h',toks:=t' }:=by
 obtain⟨m,⟨o,es,ep,ho,r⟩,_⟩:=id I.loc
 obtain⟨sl,hL⟩:=u.any ho I.free (by simp)
 exact I.step (g':=s.gens) (d':=s.drawn) (ch:=[]) (λ_ z=>nomatch z) (λb o _ hb _ e n=>u.keep b o e n hb (by simp)) (λb o _ hb _ e n=>u.slot b o e n hb (by simp)) (λb o _ e n=>u.free b o e n (by simp)) (λb o _ e=>u.there b o e (by simp)) u.tups u.frzs u.tbls (λm' hm=>by
  obtain⟨o',es',ep',ho',r'⟩:=hm
  rw[ho] at ho';cases ho'
  exact⟨_,es',ep',hL,r'⟩) hok I.bare
theorem Inv.call {g':Array GenState}{t':Nat}{d':Drawn}{ch:List Addr}(I:Inv X pins σ H s) (u:Un (frs X.stack) ch H H' s.heap h') (hok:HOk X.prog X.w H' h') (hg:AllBare g')
  (hch:∀b∈ch,(b∈X.ex\/X.s₀.heap.objs.size<=b)/\b≠X.env.locals/\(∀x c,X.env.cells.lookup x=some c->c≠b)/\∀p∈X.pn++pins,p.1≠b) :
  Inv X pins σ H' { s with heap:=h',gens:=g',drawn:=d',toks:=t' }:=by
 obtain⟨m,⟨o,es,ep,ho,r⟩,_⟩:=id I.loc
 obtain⟨sl,hL⟩:=u.any ho I.free λz=>(hch _ z).2.1 rfl
 exact I.step (ch:=ch) hch (λb o hL hb hc e n=>u.keep b o e n (λz=>(List.mem_cons.mp (I.stkSub b z)).elim hL hb) hc) (λb o _ _ hc e n=>u.any e n hc) (λb o hc e n=>u.free b o e n hc) (λb o hc e=>u.there b o e hc) u.tups u.frzs u.tbls (λm' hm=>by
  obtain⟨o',es',ep',ho',r'⟩:=hm
  rw[ho] at ho';cases ho'
  exact⟨_,es',ep',hL,r'⟩) hok hg
theorem Inv.turned {t':Nat}{it:Addr}(I:Inv X pins σ H s) (k:∀b o,b≠it->s.heap.get? b=some o->h'.get? b=some o) (hn:H it=none) (hL:it≠X.env.locals)
  (h1:it∈X.ex\/X.s₀.heap.objs.size<=it) (h2:∀x c,X.env.cells.lookup x=some c->c≠it) (h3:∀p∈X.pn++pins,p.1≠it):Inv X pins σ H { s with heap:=h',toks:=t' }:=by
 have nit:∀b u,H b=some u->b≠it:=λb u e z=>by rw[z,hn] at e;cases e
 refine I.step (g':=s.gens) (d':=s.drawn) (ch:=[it]) (λb hb=>?_) (λb o _ _ hc e _=>k b o (λz=>hc (by simp[z])) e) (λb o _ _ hc e _=>⟨o.slots,k b o (λz=>hc (by simp[z])) e⟩) (λ_ _ _ _ n=>n)
  (λb o hc e=>⟨o,k b o (λz=>hc (by simp[z])) e⟩) (λ_ _ e=>e) (λ_ _ _ e=>e) (λb ps e=>⟨#[],by rw[e];simp⟩) (λm hm=>?_) (λb u e=>?_) I.bare
 ·have e:b=it:=by simpa using hb
  subst e
  exact⟨h1,hL,h2,h3⟩
 ·obtain⟨o,es,ep,ho,r⟩:=hm
  exact⟨o,es,ep,k _ o (Ne.symm hL) ho,r⟩
 ·refine (I.hok b u e).stay (λc v hc q=>k c v ?_ q) (λ_ q=>q) λ_ _ q=>q
  rcases hc with z|z
  ·rw[z];exact nit b u e
  ·exact nit c _ z
theorem Inv.tok (I:Inv X pins σ H s) (t:Nat):Inv X pins σ H { s with toks:=t }:=I.un (h':=s.heap) (t':=t) Un.refl I.hok
theorem Inv.kept {t':Nat}(I:Inv X pins σ H s) (k:∀b u,s.heap.get? b=some u->h'.get? b=some u):Inv X pins σ H { s with heap:=h',toks:=t' }:=I.un (Un.kept k) (I.hok.kept k)
theorem Inv.laid {a:Addr}{o:HO}{t':Nat}(I:Inv X pins σ H s) (k:∀b u,s.heap.get? b=some u->h'.get? b=some u) (hp:s.heap.objs.size<=a) (new:ObjOk X.prog X.w (upd H a o) h' a o) :
  Inv X pins σ (upd H a o) { s with heap:=h',toks:=t' }:=I.un (Un.laid k hp (I.hok.fresh hp)) (I.hok.laid k hp new)
theorem Inv.write {x e:Addr}{o:HO}{t':Nat}(I:Inv X pins σ H s) (mu:Mut (H x)) (he:e=x\/H e=some (.own x)) (k:∀b u,b≠e->s.heap.get? b=some u->h'.get? b=some u) (heo:∃u,h'.get? e=some u)
  (new:ObjOk X.prog X.w (upd H x o) h' x o):Inv X pins σ (upd H x o) { s with heap:=h',toks:=t' }:=I.un (Un.write mu he k heo) (I.hok.write mu he k heo new)
theorem Inv.pins_of {pins':List (Addr×Obj)}(I:Inv X pins σ H s) (h:∀p∈pins',s.heap.get? p.1=some p.2/\H p.1=none/\p.1≠X.env.locals/\p.1∉X.fs/\∀v,p.2.data≠.cell v):Inv X pins' σ H s:=
 ⟨I.ok,I.os,I.bare,I.base,I.loc,I.cell,I.free,I.freeC,λp hp=>(List.mem_append.mp hp).elim (λz=>I.pin p (List.mem_append_left _ z)) (h p),I.hok,I.len⟩
theorem nodup_ix {N:List Str}(hN:N.Nodup){i j:Nat}{x:Str}(a:N[i]?=some x) (b:N[j]?=some x):i=j:=by
 obtain⟨h1,e1⟩:=List.getElem?_eq_some_iff.mp a
 obtain⟨h2,e2⟩:=List.getElem?_eq_some_iff.mp b
 exact (List.getElem_inj hN).mp (e1.trans e2.symm)
theorem store_ok2 {M:Model}{A:Around}{E:Value->Shared->Prop}{i:Nat}{x:Str}{v:V}{u:Value}{Q:Unit->Shared->Prop}(I:Inv X pins σ H s) (hN:X.N.Nodup) (hi:X.N[i]?=some x) (hx:Loc X.env.scope x) (r:RelV v u)
  (h:∀s',Inv X pins (σ.set i (some v)) H s'->(∃a,Heap.SameBut a s.heap s'.heap/\(a=X.env.locals\/X.env.cells.lookup x=some a))->Q () s') (hf:X.fn x=true\/X.env.scope.names.lookup x=some .local:=by first|exact .inl rfl|exact .inr rfl|assumption):wpAny M A (storeName X.env x u) Q E s:=by
 obtain⟨m,hn,hl⟩:=id I.loc
 have hcls:(X.env.scope.kind==.class||(X.env.scope.kind==.module&&X.env.locals != X.env.globals))=false:=by rw[I.ok.kind];rfl
 have hiσ:i<σ.length:=by rw[I.len];exact (List.getElem?_eq_some_iff.mp hi).1
 have cne:=I.cne
 have tracked:∀{a:Addr}{h':Heap},(∃o,s.heap.get? a=some o/\H a=none)->Heap.SameBut a s.heap h'->HOk X.prog X.w H h':=λ{a h'} ha hs b ob e=>by
  obtain⟨_,_,hfree⟩:=ha
  refine (I.hok b ob e).stay (λc w' hc q=>(hs.2 c ?_).trans q) (λ_ q=>q) λ_ _ q=>q
  rintro rfl
  rcases hc with rfl|hc
  ·rw[hfree] at e;cases e
  ·rw[hfree] at hc;cases hc
 rcases hx with hk|hk
 ·refine wpAny_storeName_local hk hn (λh' hn' hs=>?_) hcls
  obtain⟨oL,_,_,hoL,_⟩:=id hn
  refine h _ ⟨I.ok,I.os,I.bare,⟨λb o e n hb hx=>?_,λb o e n hb hx=>?_,I.base.free,λb o e hx=>?_,I.base.tups,I.base.frzs,I.base.tbls⟩,⟨_,hn',λj y v' e1 e2 e3=>?_⟩,λy c e=>?_,I.free,I.freeC,λp hp=>?_,tracked ⟨oL,hoL,I.free⟩ hs,by simpa using I.len⟩ ⟨_,hs,.inl rfl⟩
  ·exact (hs.2 b (Nat.ne_of_lt (Nat.lt_of_lt_of_le (Heap.lt_size e) I.ok.above))).trans (I.base.keep b o e n hb hx)
  ·obtain⟨sl,e1⟩:=I.base.slot b o e n hb hx
   exact⟨sl,(hs.2 b (Nat.ne_of_lt (Nat.lt_of_lt_of_le (Heap.lt_size e) I.ok.above))).trans e1⟩
  ·obtain⟨o',e1⟩:=I.base.there b o e hx
   exact⟨o',(hs.2 b (Nat.ne_of_lt (Nat.lt_of_lt_of_le (Heap.lt_size e) I.ok.above))).trans e1⟩
  ·by_cases hj:j=i
   ·subst hj
    rw[hi] at e1;cases e1
    rw[List.getElem?_set_self hiσ] at e2
    cases e2
    exact⟨u,r,.inl ⟨hk,by simp⟩⟩
   ·rw[List.getElem?_set_ne (Ne.symm hj)] at e2
    obtain⟨u',r',q⟩:=hl j y v' e1 e2 e3
    refine⟨u',r',?_⟩
    rcases q with ⟨k,e⟩|⟨k,c,e,z⟩
    ·refine .inl ⟨k,?_⟩
     have:y≠x:=λe=>hj (nodup_ix hN e1 (e▸hi))
     simp[this,e]
    ·exact .inr ⟨k,c,e,z.sameBut hs (cne y c e)⟩
  ·obtain⟨w',z⟩:=I.cell y c e
   exact⟨w',z.sameBut hs (cne y c e)⟩
  ·obtain⟨e,n,ne,nf,d⟩:=I.pin p hp
   exact⟨(hs.2 p.1 ne).trans e,n,ne,nf,d⟩
 ·have hfn:X.fn x=true:=by
   rcases hf with z|z
   ·exact z
   ·rw[z] at hk;cases hk
  obtain⟨c,hc⟩:=I.ok.has x (.inl hk)
  obtain⟨w',z⟩:=I.cell x c hc
  refine wpAny_storeName_cell I.ok.kind hk hc z (λh' hc' hs=>?_)
  obtain⟨oc,hoc,hocd⟩:=id z
  refine h { s with heap:=h' } ⟨I.ok,I.os,I.bare,⟨λb o e n hb hx=>?_,λb o e n hb hx=>?_,I.base.free,λb o e hx=>?_,I.base.tups,I.base.frzs,I.base.tbls⟩,⟨m,hn.sameBut hs (Ne.symm (cne x c hc)),λj y v' e1 e2 e3=>?_⟩,λy c' e=>?_,I.free,I.freeC,λp hp=>?_,tracked ⟨oc,hoc,I.freeC x c hc⟩ hs,by simpa using I.len⟩ ⟨c,hs,.inr hc⟩
  ·exact (hs.2 b (Nat.ne_of_lt (Nat.lt_of_lt_of_le (Heap.lt_size e) (I.ok.cab x c hfn hc)))).trans (I.base.keep b o e n hb hx)
  ·obtain⟨sl,e1⟩:=I.base.slot b o e n hb hx
   exact⟨sl,(hs.2 b (Nat.ne_of_lt (Nat.lt_of_lt_of_le (Heap.lt_size e) (I.ok.cab x c hfn hc)))).trans e1⟩
  ·obtain⟨o',e1⟩:=I.base.there b o e hx
   exact⟨o',(hs.2 b (Nat.ne_of_lt (Nat.lt_of_lt_of_le (Heap.lt_size e) (I.ok.cab x c hfn hc)))).trans e1⟩
  ·by_cases hj:j=i
   ·subst hj
    rw[hi] at e1;cases e1
    rw[List.getElem?_set_self hiσ] at e2
    cases e2
    exact⟨u,r,.inr ⟨.inl hk,c,hc,hc'⟩⟩
   ·rw[List.getElem?_set_ne (Ne.symm hj)] at e2
    obtain⟨u',r',q⟩:=hl j y v' e1 e2 e3
    refine⟨u',r',?_⟩
    rcases q with q|⟨k,c',e,z'⟩
    ·exact .inl q
    ·refine .inr ⟨k,c',e,z'.sameBut hs ?_⟩
     rintro rfl
     exact hj (nodup_ix hN e1 (I.ok.inj _ _ _ e hc▸hi))
  ·by_cases hcc:c'=c
   ·subst hcc;exact⟨_,hc'⟩
   ·obtain⟨w2,z2⟩:=I.cell y c' e
    exact⟨w2,z2.sameBut hs hcc⟩
  ·obtain⟨e,n,ne,nf,d⟩:=I.pin p hp
   refine⟨(hs.2 p.1 ?_).trans e,n,ne,nf,d⟩
   intro q
   rw[q,hoc] at e
   have q':oc=p.2:=Option.some.inj e
   exact d w' (by rw[<- q'];exact hocd)
theorem store_ok {M:Model}{A:Around}{E:Value->Shared->Prop}{i:Nat}{x:Str}{v:V}{u:Value}{Q:Unit->Shared->Prop}(I:Inv X pins σ H s) (hN:X.N.Nodup) (hi:X.N[i]?=some x) (hx:Loc X.env.scope x) (r:RelV v u)
  (h:∀s',Inv X pins (σ.set i (some v)) H s'->Q () s') (hf:X.fn x=true\/X.env.scope.names.lookup x=some .local:=by first|exact .inl rfl|exact .inr rfl|assumption):wpAny M A (storeName X.env x u) Q E s:=
 store_ok2 I hN hi hx r (λs' I' _=>h s' I') hf
theorem Inv.call' {s':Shared}{ch:List Addr}(I:Inv X pins σ H s) (ho:s'.os=s.os) (u:Un (frs X.stack) ch H H' s.heap s'.heap) (hok:HOk X.prog X.w H' s'.heap) (hg:AllBare s'.gens)
  (hch:∀b∈ch,(b∈X.ex\/X.s₀.heap.objs.size<=b)/\b≠X.env.locals/\(∀x c,X.env.cells.lookup x=some c->c≠b)/\∀p∈X.pn++pins,p.1≠b):Inv X pins σ H' s':=by
 obtain⟨h',g',d',t',o'⟩:=s'
 have e:o'=s.os:=ho
 subst e
 exact I.call (g':=g') (t':=t') (d':=d') u hok hg hch
end
abbrev XK:=Value->Option Addr->Hp->Prop
abbrev St:=List (Option V)
abbrev VK:=V->Hp->Prop
abbrev TE:=St->Hp->VK->Prop
abbrev TT:=St->Hp->(Bool->Hp->Prop)->Prop
abbrev TA:=St->Hp->(List V->Hp->Prop)->Prop
structure Ends where
 nx:St->Hp->Prop
 rt:VK
 bk:St->Hp->Prop:=λ_ _=>False
 ct:St->Hp->Prop:=λ_ _=>False
abbrev TS:=Ends->St->Hp->Prop
def EP (X:Cx) (pins:List (Addr×Obj)) (σ:St) (Q:VK) (u:Value) (s':Shared):Prop:=∃v H',Inv X pins σ H' s'/\RelV v u/\Q v H'
def TP (X:Cx) (pins:List (Addr×Obj)) (σ:St) (Q:Bool->Hp->Prop) (b:Bool) (s':Shared):Prop:=∃H',Inv X pins σ H' s'/\Q b H'
def AP (X:Cx) (pins:List (Addr×Obj)) (σ:St) (Q:List V->Hp->Prop) (us:List Value) (s':Shared):Prop:=∃vs H',Inv X pins σ H' s'/\Vals vs us/\Q vs H'
def SP (X:Cx) (pins:List (Addr×Obj)) (D:Ends) (f:Flow) (s':Shared):Prop:=
 match f with
 |.next=>∃σ' H',Inv X pins σ' H' s'/\D.nx σ' H'
 |.brk=>∃σ' H',Inv X pins σ' H' s'/\D.bk σ' H'
 |.cont=>∃σ' H',Inv X pins σ' H' s'/\D.ct σ' H'
 |.ret u=>∃v σ' H',Inv X pins σ' H' s'/\RelV v u/\D.rt v H'
def PE (X:Cx) (e:Expr) (t:TE):Prop:=
 ∀(pins:List (Addr×Obj)) (s:Shared) (σ:St) (H:Hp) (Q:VK),Inv X pins σ H s->t σ H Q->wpAny (model X.prog X.w) X.A (eval e X.env) (EP X pins σ Q) X.xe s
def PT (X:Cx) (e:Expr) (t:TT):Prop:=
 ∀(pins:List (Addr×Obj)) (s:Shared) (σ:St) (H:Hp) (Q:Bool->Hp->Prop),Inv X pins σ H s->t σ H Q->wpAny (model X.prog X.w) X.A (isTrue e X.env (eval e X.env)) (TP X pins σ Q) X.xe s
def PW (X:Cx) (e:Expr) (t:TT):Prop:=
 ∀(whole:Sem Value) (pins:List (Addr×Obj)) (s:Shared) (σ:St) (H:Hp) (Q:Bool->Hp->Prop),Inv X pins σ H s->t σ H Q->wpAny (model X.prog X.w) X.A (isTrue e X.env whole) (TP X pins σ Q) X.xe s
theorem PW.pt {X:Cx}{e:Expr}{t:TT}(h:PW X e t):PT X e t:=h _
def PA (X:Cx) (es:List Expr) (t:TA):Prop:=
 ∀(pos:Pos) (pins:List (Addr×Obj)) (s:Shared) (σ:St) (H:Hp) (Q:List V->Hp->Prop),Inv X pins σ H s->t σ H Q->wpAny (model X.prog X.w) X.A (spliced (backTo pos (starEach es X.env))) (AP X pins σ Q) X.xe s
def PS (X:Cx) (st:Stmt) (t:TS):Prop:=
 ∀(pins:List (Addr×Obj)) (s:Shared) (σ:St) (H:Hp) (D:Ends),Inv X pins σ H s->t D σ H->wpAny (model X.prog X.w) X.A (exec st X.env) (SP X pins D) X.xe s
def PSs (X:Cx) (st:List Stmt) (t:TS):Prop:=
 ∀(pins:List (Addr×Obj)) (s:Shared) (σ:St) (H:Hp) (D:Ends),Inv X pins σ H s->t D σ H->wpAny (model X.prog X.w) X.A (execs st X.env) (SP X pins D) X.xe s
theorem thn {α:Type}{t:Sem α}{Q Q':α->Shared->Prop}{M:Model}{A:Around}{E:Value->Shared->Prop}{s:Shared}(h:wpAny M A t Q E s) (hQ:∀a s,Q a s->Q' a s):wpAny M A t Q' E s:=wpAny_mono h hQ λ_ _ x=>x
end L2
namespace L2
open PySem PySem.Spec PyProof.Rows
section
variable {X:Cx}
def tVar (i:Nat):TE:=λσ H Q=>∃v,σ[i]?=some (some v)/\Q v H
def tC (v:V):TE:=λ_ H Q=>Q v H
theorem pe_var {i:Nat}{x:Str}{pos:Pos}(hN:X.N[i]?=some x) (hv:Vis X.env.scope x) (hd:(x==("__debug__" : Str))=false:=by decide) (hcd:(x==("__classdict__" : Str))=false:=by decide):PE X (.Name x pos) (tVar i):=by
 intro pins s σ H Q I h
 obtain⟨v,e,h⟩:=h
 obtain⟨m,hn,hl⟩:=I.loc
 obtain⟨u,r,l⟩:=hl i x v hN e hv
 have fin:EP X pins σ Q u s:=⟨v,H,I,r,h⟩
 rcases l with ⟨hk,hm⟩|⟨hk,c,hc,hcell⟩
 ·exact wpAny_Name (wpAny_loadName_local I.ok.kind hk hn hm fin) hd
 ·rcases hk with hk|hk
  ·exact wpAny_Name (wpAny_loadName_cell I.ok.kind hk hc hcell fin) hd
  ·exact wpAny_Name (wpAny_loadName_free I.ok.kind hk hc hcell fin hcd) hd
theorem pe_int {i j pos}:PE X (.Constant (.int i) j pos) (tC (.int i)):=λ_ _ _ H _ I h=>wpAny_Constant_int ⟨.int i,H,I.tok _,⟨_,rfl⟩,h⟩
theorem pe_bl {b j pos}:PE X (.Constant (.bool b) j pos) (tC (.bl b)):=λ_ _ _ H _ I h=>Constant_bool ⟨.bl b,H,I,rfl,h⟩
theorem pe_str {x j pos}:PE X (.Constant (.str x) j pos) (tC (.str x)):=λ_ _ _ H _ I h=>Calls.Constant_str ⟨.str x,H,I.tok _,⟨_,rfl⟩,h⟩
def Gl (X:Cx) (x:Str):Prop:=X.env.kindOf x=some .globalImplicit
theorem ld_glob {E:Value->Shared->Prop}{pins:List (Addr×Obj)}{s:Shared}{σ:St}{H:Hp}{x:Str}{u:Value}{pos:Pos}{Q:Value->Shared->Prop}(I:Inv X pins σ H s) (hg:Gl X x) (hm:X.mg x=some u) (h:Q u s)
  (hd:(x==("__debug__" : Str))=false:=by decide):wpAny (model X.prog X.w) X.A (eval (.Name x pos) X.env) Q E s:=
 Calls.Name_function_global I.ok.kind hg (Calls.loadGlobal_global (by rw[I.ok.glob];exact I.mod.glob.keeps I.bk) hm h) hd
theorem ld_blt {E:Value->Shared->Prop}{pins:List (Addr×Obj)}{s:Shared}{σ:St}{H:Hp}{x:Str}{u:Value}{pos:Pos}{Q:Value->Shared->Prop}(I:Inv X pins σ H s) (hg:Gl X x) (hm:X.mg x=none) (hv:bootBuiltins x=some u) (h:Q u s)
  (hn:x ≠ "__name__":=by decide) (hd:(x==("__debug__" : Str))=false:=by decide):wpAny (model X.prog X.w) X.A (eval (.Name x pos) X.env) Q E s:=by
 obtain⟨mb,h1,h2⟩:=I.mod.blt
 exact Calls.Name_function_global I.ok.kind hg (Calls.loadGlobal_builtin (by rw[I.ok.glob];exact I.mod.glob.keeps I.bk) hm (by rw[I.ok.blt];exact h1.keeps I.bk) ((h2 x hn).trans hv) h) hd
theorem pe_glob {x:Str}{v:V}{u:Value}{pos:Pos}(hg:Gl X x) (hm:X.mg x=some u) (r:RelV v u) (hd:(x==("__debug__" : Str))=false:=by decide):PE X (.Name x pos) (tC v):=
 λ_ _ _ H _ I h=>ld_glob I hg hm ⟨v,H,I,r,h⟩ hd
theorem pe_bltn {x:Str}{v:V}{u:Value}{pos:Pos}(hg:Gl X x) (hm:X.mg x=none) (hv:bootBuiltins x=some u) (r:RelV v u) (hn:x ≠ "__name__":=by decide) (hd:(x==("__debug__" : Str))=false:=by decide):PE X (.Name x pos) (tC v):=
 λ_ _ _ H _ I h=>ld_blt I hg hm hv ⟨v,H,I,r,h⟩ hn hd
variable {a b:Expr}{ta tb:TE}{pos:Pos}
def PC (X:Cx) (op:CmpOp) (a b:Expr) (t:TE):Prop:=
 ∀(pins:List (Addr×Obj)) (s:Shared) (σ:St) (H:Hp) (Q:VK),Inv X pins σ H s->t σ H Q ->
  wpAny (model X.prog X.w) X.A (eval a X.env) (λv s₁=>wpAny (model X.prog X.w) X.A (eval b X.env) (λu s₂=>wpAny (model X.prog X.w) X.A (compareOp op v u) (EP X pins σ Q) X.xe s₂) X.xe s₁) X.xe s
def tB (t:TE):TT:=λσ H Q=>t σ H λx H1=>∃c,x=.bl c/\Q c H1
theorem pt_cmp {op:CmpOp}{t:TE}(h:PC X op a b t) (h1:behindInMarks op b=false:=by first|exact nobehind _ (by decide) (by decide)|rfl):PT X (.Compare a [op] [b] pos) (tB t):=by
 intro pins s σ H Q I hw
 refine wpAny_isTrue_Compare1 (thn (h pins s σ H _ I hw) λv s1 h1=>thn h1 λu s2 h2=>thn h2 λc s3 ⟨x,H1,I1,r1,q1⟩=>?_) h1
 obtain⟨d,rfl,q⟩:=q1
 cases r1
 exact wpAny_truthy_bool ⟨H1,I1,q⟩
theorem pt_val {e:Expr}{t:TE}(h:PE X e t) (he:∀whole,isTrue e X.env whole=(do let v <- whole;standAt e.pos;holding [v] (truthy v)):=by intro _;rfl):PT X e (tB t):=by
 intro pins s σ H Q I hw
 refine isTrue_plain (thn (h pins s σ H _ I hw) λv s1 ⟨x,H1,I1,r1,q1⟩=>?_) (he _)
 obtain⟨d,rfl,q⟩:=q1
 cases r1
 exact wpAny_truthy_bool ⟨H1,I1,q⟩
variable {tA tB':TT}{rest:List Expr}
def tAnd (t u:TT):TT:=λσ H Q=>t σ H λc H1=>if c=true then u σ H1 Q else Q false H1
def tOr (t u:TT):TT:=λσ H Q=>t σ H λc H1=>if c=true then Q true H1 else u σ H1 Q
def tNot (t:TT):TT:=λσ H Q=>t σ H λc H1=>Q (!c) H1
theorem pw_and1 (ha:PT X a tA):PW X (.BoolOp .And [a] pos) tA:=by
 intro wh pins s σ H Q I h
 refine isTrue_and (thn (ha pins s σ H Q I h) λc s1 e=>?_)
 cases c with
 |true=>exact isTrue_and_nil e
 |false=>exact e
theorem pw_or1 (ha:PT X a tA):PW X (.BoolOp .Or [a] pos) tA:=by
 intro wh pins s σ H Q I h
 refine isTrue_or (thn (ha pins s σ H Q I h) λc s1 e=>?_)
 cases c with
 |false=>exact isTrue_or_nil e
 |true=>exact e
theorem pw_and (ha:PT X a tA) (hb:PW X (.BoolOp .And (b::rest) pos) tB'):PW X (.BoolOp .And (a::b::rest) pos) (tAnd tA tB'):=by
 intro wh pins s σ H Q I h
 refine isTrue_and (thn (ha pins s σ H _ I h) λc s1 ⟨H1,I1,q1⟩=>?_)
 cases c with
 |true=>exact hb wh pins s1 σ H1 Q I1 q1
 |false=>exact⟨H1,I1,q1⟩
theorem pw_or (ha:PT X a tA) (hb:PW X (.BoolOp .Or (b::rest) pos) tB'):PW X (.BoolOp .Or (a::b::rest) pos) (tOr tA tB'):=by
 intro wh pins s σ H Q I h
 refine isTrue_or (thn (ha pins s σ H _ I h) λc s1 ⟨H1,I1,q1⟩=>?_)
 cases c with
 |true=>exact⟨H1,I1,q1⟩
 |false=>exact hb wh pins s1 σ H1 Q I1 q1
theorem pt_not (ha:PT X a tA):PT X (.UnaryOp .Not a pos) (tNot tA):=by
 intro pins s σ H Q I h
 exact isTrue_not (ha pins s σ H (λc H1=>Q (!c) H1) I h)
def tAndV (ta tb:TE):TE:=λσ H Q=>ta σ H λx H1=>∃c,x=.bl c/\if c=true then tb σ H1 Q else Q (.bl false) H1
def tNotV (ta:TE):TE:=λσ H Q=>ta σ H λx H1=>∃c,x=.bl c/\Q (.bl (!c)) H1
theorem pe_one {op}{t:TE}(h:PE X a t):PE X (.BoolOp op [a] pos) t:=λpins s σ H Q I hw=>BoolOp_one (h pins s σ H Q I hw)
theorem pe_and (ha:PE X a ta) (hb:PE X (.BoolOp .And (b::rest) pos) tb):PE X (.BoolOp .And (a::b::rest) pos) (tAndV ta tb):=by
 intro pins s σ H Q I h
 refine BoolOp_and (thn (ha pins s σ H _ I h) λv s1 ⟨x,H1,I1,r1,q1⟩=>?_)
 obtain⟨c,rfl,q1⟩:=q1
 cases r1
 refine wpAny_truthy_bool ?_
 cases c with
 |true=>exact hb pins s1 σ H1 Q I1 q1
 |false=>exact⟨.bl false,H1,I1,rfl,q1⟩
theorem pe_not (ha:PE X a ta):PE X (.UnaryOp .Not a pos) (tNotV ta):=by
 intro pins s σ H Q I h
 refine UnaryOp_ (thn (ha pins s σ H _ I h) λv s1 ⟨x,H1,I1,r1,q1⟩=>?_)
 obtain⟨c,rfl,q1⟩:=q1
 cases r1
 exact not_of (wpAny_truthy_bool ⟨.bl (!c),H1,I1,rfl,q1⟩)
end
end L2
namespace L2
open PySem PySem.Spec PyProof.Rows
def SqL (K:PySem.W.Frag) (H:Hp) (a:Addr) (xs:List V):Prop:=
 Rd H a (.lst xs) \/
  ∃(o:Obj) (its:Array Value) (n:Nat),K.lookup a=some o/\o.cls=.type "list" /\ o.dict=none/\o.data=.seq its n/\its.size<=sizeLine/\Vals xs its.toList
def SqT (K:PySem.W.Frag) (H:Hp) (a:Addr) (xs:List V):Prop:=
 Rd H a (.tup xs) \/
  ∃(o:Obj) (its:Array Value) (n:Nat),K.lookup a=some o/\o.cls=.type "tuple" /\ o.data=.seq its n/\its.size<=sizeLine/\Vals xs its.toList
def absV:Value->Option V
 |.none=>some .non
 |.bool b=>some (.bl b)
 |.int i _=>some (.int i)
 |.str x _=>some (.str x)
 |.bytes b _=>some (.byt b)
 |.float b _=>some (.flt b)
 |.ref a=>some (.ref a)
 |.type n=>some (.ty n)
 |_=>none
theorem RelV.abs {x:V}{u:Value}(r:RelV x u):absV u=some x:=by
 cases x with
 |non=>cases r;rfl
 |bl _=>cases r;rfl
 |int _=>obtain⟨t,rfl⟩:=r;rfl
 |str _=>obtain⟨t,rfl⟩:=r;rfl
 |byt _=>obtain⟨t,rfl⟩:=r;rfl
 |flt _=>obtain⟨t,rfl⟩:=r;rfl
 |ref _=>cases r;rfl
 |ty _=>cases r;rfl
theorem RelV.inj {x y:V}{u:Value}(r:RelV x u) (q:RelV y u):x=y:=Option.some.inj (r.abs.symm.trans q.abs)
theorem Vals.inj:∀{xs ys:List V}{us:List Value},Vals xs us->Vals ys us->xs=ys
 |_,_,_,.nil,.nil=>rfl
 |_,_,_,.cons r t,.cons r' t'=>by rw[r.inj r',Vals.inj t t']
section
variable {X:Cx}{pins:List (Addr×Obj)}{σ:St}{H:Hp}{s:Shared}{a:Addr}{xs ys:List V}
theorem SqL.of {K:PySem.W.Frag}(h:H a=some (.lst xs)):SqL K H a xs:=.inl (.inl h)
theorem SqT.of {K:PySem.W.Frag}(h:H a=some (.tup xs)):SqT K H a xs:=.inl (.inl h)
theorem Inv.list (I:Inv X pins σ H s) (h:SqL X.K H a xs):∃its:List Value,Vals xs its/\PlainL s.heap a its.toArray/\xs.length<=sizeLine:=by
 rcases h with h|⟨o,its,n,hk,hc,hd,hs,hz,r⟩
 ·obtain⟨z,its,n,r,e⟩:=h.ok I.hok
  exact⟨its,r,⟨_,n,e,rfl,rfl,rfl⟩,z⟩
 ·refine⟨its.toList,r,⟨o,n,I.kIn a o hk,hc,hd,by simpa using hs⟩,?_⟩
  have e:=r.length
  simp only[Array.length_toList] at e
  lia
theorem Inv.tuple (I:Inv X pins σ H s) (h:SqT X.K H a xs):∃its:List Value,Vals xs its/\IsTup s.heap a its.toArray/\xs.length<=sizeLine:=by
 rcases h with h|⟨o,its,n,hk,hc,hs,hz,r⟩
 ·obtain⟨z,its,r,p⟩:=h.ok I.hok
  exact⟨its,r,p,z⟩
 ·refine⟨its.toList,r,⟨o,I.kIn a o hk,hc,n,by simpa using hs⟩,?_⟩
  have e:=r.length
  simp only[Array.length_toList] at e
  lia
theorem Inv.list_inj (I:Inv X pins σ H s) (h:SqL X.K H a xs) (h':SqL X.K H a ys):xs=ys:=by
 obtain⟨its,r,⟨o,n,e,_,_,d⟩,_⟩:=I.list h
 obtain⟨its',r',⟨o',n',e',_,_,d'⟩,_⟩:=I.list h'
 rw[e] at e';cases e'
 rw[d] at d'
 injection d' with d1 _
 have:its=its':=by simpa using congrArg Array.toList d1
 subst this
 exact r.inj r'
theorem Inv.tuple_inj (I:Inv X pins σ H s) (h:SqT X.K H a xs) (h':SqT X.K H a ys):xs=ys:=by
 obtain⟨its,r,⟨o,e,_,n,d⟩,_⟩:=I.tuple h
 obtain⟨its',r',⟨o',e',_,n',d'⟩,_⟩:=I.tuple h'
 rw[e] at e';cases e'
 rw[d] at d'
 injection d' with d1 _
 have:its=its':=by simpa using congrArg Array.toList d1
 subst this
 exact r.inj r'
end
abbrev Cx.wish (X:Cx) (E:Value->Shared->Prop):Cx:={ X with xe:=E }
abbrev Cx.nox (X:Cx):Cx:=X.wish λ_ _=>False
theorem Cx.Ok.wish {X:Cx}(ok:X.Ok) (E:Value->Shared->Prop):(X.wish E).Ok:=
 ⟨ok.mod,ok.kind,ok.glob,ok.blt,ok.above,ok.inj,ok.has,ok.cab,ok.hd,ok.frames,ok.stk,ok.exf,ok.bs,ok.bsz,ok.noex,ok.exfs,ok.funs,ok.frf⟩
theorem Cx.Ok.unwish {X:Cx}{E:Value->Shared->Prop}(ok:(X.wish E).Ok):X.Ok:=
 ⟨ok.mod,ok.kind,ok.glob,ok.blt,ok.above,ok.inj,ok.has,ok.cab,ok.hd,ok.frames,ok.stk,ok.exf,ok.bs,ok.bsz,ok.noex,ok.exfs,ok.funs,ok.frf⟩
section
variable {X:Cx}{pins:List (Addr×Obj)}{σ:St}{H:Hp}{s:Shared}{E:Value->Shared->Prop}
theorem Inv.wish (I:Inv X pins σ H s) (E:Value->Shared->Prop):Inv (X.wish E) pins σ H s:=⟨I.ok.wish E,I.os,I.bare,I.base,I.loc,I.cell,I.free,I.freeC,I.pin,I.hok,I.len⟩
theorem Inv.unwish (I:Inv (X.wish E) pins σ H s):Inv X pins σ H s:=⟨I.ok.unwish,I.os,I.bare,I.base,I.loc,I.cell,I.free,I.freeC,I.pin,I.hok,I.len⟩
theorem SP.unwish {D:Ends}{f:Flow}{s':Shared}(h:SP (X.wish E) pins D f s'):SP X pins D f s':=by
 cases f with
 |next=>obtain⟨σ',H',I,q⟩:=h;exact⟨σ',H',I.unwish,q⟩
 |brk=>obtain⟨σ',H',I,q⟩:=h;exact⟨σ',H',I.unwish,q⟩
 |cont=>obtain⟨σ',H',I,q⟩:=h;exact⟨σ',H',I.unwish,q⟩
 |ret u=>obtain⟨v,σ',H',I,r,q⟩:=h;exact⟨v,σ',H',I.unwish,r,q⟩
theorem PSs.nox {st:List Stmt}{t:TS}(h:PSs X.nox st t):PSs X st t:=λpins s σ H D I hw=>
 wpAny_mono (h pins s σ H D (I.wish _) hw) (λ_ _ q=>q.unwish) λ_ _ z=>False.elim z
end
section
variable {X:Cx}{st:Stmt}{rest:List Stmt}{t u:TS}{e:Expr}{te:TE}{pos:Pos}
def tNext:TS:=λD σ H=>D.nx σ H
def tSeq (t u:TS):TS:=λD σ H=>t { D with nx:=u D } σ H
theorem pss_nil:PSs X [] tNext:=λ_ _ σ H _ I h=>wpAny_execs_nil ⟨σ,H,I,h⟩
theorem pss_cons (h1:PS X st t) (h2:PSs X rest u):PSs X (st::rest) (tSeq t u):=by
 intro pins s σ H D I h
 refine wpAny_execs_cons (thn (h1 pins s σ H { D with nx:=u D } I h) λf s1 q=>?_)
 cases f with
 |next=>
  obtain⟨σ',H',I',q⟩:=q
  exact h2 pins s1 σ' H' D I' q
 |ret v=>exact q
 |brk=>exact q
 |cont=>exact q
theorem pss_one (h1:PS X st t):PSs X [st] t:=by
 intro pins s σ H D I h
 refine wpAny_execs_cons (thn (h1 pins s σ H D I h) λf s1 q=>?_)
 cases f with
 |next=>exact wpAny_execs_nil q
 |ret v=>exact q
 |brk=>exact q
 |cont=>exact q
theorem Inv.quiet {pins:List (Addr×Obj)}{σ:St}{H:Hp}{s:Shared}(I:Inv X pins σ H s):interactive X.env=false:=by simp[interactive,I.ok.kind]
def tDrop (te:TE):TS:=λD σ H=>te σ H λ_ H1=>D.nx σ H1
theorem ps_expr (he:PE X e te) (hs:swapsWith e none pos.line X.env=pure false:=by rfl):PS X (.Expr e pos) (tDrop te):=by
 intro pins s σ H D I h
 exact wpAny_Expr_any (thn (he pins s σ H _ I h) λv s1 ⟨x,H1,I1,r1,q1⟩=>⟨σ,H1,I1,q1⟩) I.quiet hs
def tRet (te:TE):TS:=λD σ H=>te σ H D.rt
theorem ps_ret (he:PE X e te):PS X (.Return (some e) pos) (tRet te):=by
 intro pins s σ H D I h
 exact wpAny_Return_some (thn (he pins s σ H _ I h) λv s1 ⟨x,H1,I1,r1,q1⟩=>⟨x,σ,H1,I1,r1,q1⟩)
def tIfS (c:TT) (t u:TS):TS:=λD σ H=>c σ H λb H1=>if b=true then t D σ H1 else u D σ H1
theorem ps_if {c:Expr}{a b:List Stmt}{tc:TT}(hc:PT X c tc) (ha:PSs X a t) (hb:PSs X b u):PS X (.If c a b pos) (tIfS tc t u):=by
 intro pins s σ H D I h
 refine wpAny_If (thn (hc pins s σ H _ I h) λd s1 ⟨H1,I1,q1⟩=>?_)
 cases d with
 |true=>exact ha pins s1 σ H1 D I1 q1
 |false=>exact hb pins s1 σ H1 D I1 q1
def tNever:TS:=λ_ _ _=>False
theorem pss_never {sts:List Stmt}:PSs X sts tNever:=λ_ _ _ _ _ _ h=>h.elim
end
abbrev TG:=V->St->Hp->(St->Hp->Prop)->Prop
abbrev TGs:=List V->St->Hp->(St->Hp->Prop)->Prop
def PG (X:Cx) (target:Expr) (t:TG):Prop:=
 ∀(pins:List (Addr×Obj)) (s:Shared) (σ:St) (H:Hp) (v:V) (u:Value) (Q:St->Hp->Prop),Inv X pins σ H s->RelV v u->t v σ H Q ->
  wpAny (model X.prog X.w) X.A (assign target X.env u) (λ_ s'=>∃σ' H',Inv X pins σ' H' s'/\Q σ' H') X.xe s
def PGs (X:Cx) (ts:List Expr) (t:TGs):Prop:=
 ∀(pins:List (Addr×Obj)) (s:Shared) (σ:St) (H:Hp) (vs:List V) (us:List Value) (Q:St->Hp->Prop),Inv X pins σ H s->Vals vs us->t vs σ H Q ->
  wpAny (model X.prog X.w) X.A (assignInOrder ((assignEach ts X.env).map (·.2)) us) (λ_ s'=>∃σ' H',Inv X pins σ' H' s'/\Q σ' H') X.xe s
abbrev TSet:=V->V->V->Hp->(Hp->Prop)->Prop
def PSet (X:Cx) (t:TSet):Prop:=
 ∀(pins:List (Addr×Obj)) (s:Shared) (σ:St) (H:Hp) (o i v:V) (ov iv u:Value) (Q:Hp->Prop),Inv X pins σ H s->RelV o ov->RelV i iv->RelV v u->t o i v H Q ->
  wpAny (model X.prog X.w) X.A (setItem ov iv u) (λ_ s'=>∃H',Inv X pins σ H' s'/\Q H') X.xe s
section
variable {X:Cx}{pos:Pos}
def gName (i:Nat):TG:=λv σ H Q=>Q (σ.set i (some v)) H
theorem pg_name {i:Nat}{x:Str}(hN:X.N.Nodup) (hi:X.N[i]?=some x) (hx:Loc X.env.scope x) (hf:X.fn x=true\/X.env.scope.names.lookup x=some .local:=by first|exact .inl rfl|exact .inr rfl|assumption):PG X (.Name x pos) (gName i):=by
 intro pins s σ H v u Q I r h
 exact wpAny_assign_Name (store_ok I hN hi hx r (λs' I'=>⟨_,H,I',h⟩) hf)
def gNil:TGs:=λvs σ H Q=>vs=[]/\Q σ H
def gCons (t:TG) (u:TGs):TGs:=λvs σ H Q=>∃v r,vs=v::r/\t v σ H λσ' H'=>u r σ' H' Q
theorem pgs_nil:PGs X [] gNil:=by
 intro pins s σ H vs us Q I r h
 obtain⟨e,h⟩:=h
 subst e
 cases r
 exact assignInOrder_nil ⟨σ,H,I,h⟩
theorem pgs_cons {e:Expr}{es:List Expr}{t:TG}{u:TGs}(h1:PG X e t) (h2:PGs X es u)
  (hs:(assignEach (e::es) X.env).map (·.2)=assign e X.env::(assignEach es X.env).map (·.2):=by rfl):PGs X (e::es) (gCons t u):=by
 intro pins s σ H vs us Q I r h
 obtain⟨v,vr,e1,h⟩:=h
 subst e1
 cases r with
 |cons r rr=>
  rw[hs]
  refine assignInOrder_cons (thn (h1 pins s σ H _ _ _ I r h) λ_ s1 ⟨σ1,H1,I1,q1⟩=>?_)
  exact h2 pins s1 σ1 H1 _ _ Q I1 rr q1
def gTup (K:PySem.W.Frag) (n:Nat) (t:TGs):TG:=λv σ H Q=>∃a xs,v=.ref a/\SqT K H a xs/\xs.length=n/\t xs σ H Q
theorem pg_tup {es:List Expr}{k:Nat}{t:TGs}{n:Nat}(hc:X.calm=true) (h:PGs X es t)
  (hn:(assignEach es X.env).length=n:=by rfl) (hst:(assignEach es X.env).findIdx? (·.1)=none:=by rfl):PG X (.Tuple es k pos) (gTup X.K n t):=by
 intro pins s σ H v u Q I r hw
 obtain⟨a,xs,e1,hq,hl,hw⟩:=hw
 subst e1
 cases r
 obtain⟨its,rv,ht,hz⟩:=I.tuple hq
 refine assign_Tuple_tuple (I.ok.hd hc) ht (by simp[hn,<- hl,rv.length]) hst λh' hx=>?_
 have I1:Inv X pins σ H { s with heap:=h' }:=I.kept (t':=s.toks) λb o e=>hx b o (Nat.ne_of_lt (Heap.lt_size e)) e
 exact h pins _ σ H xs _ Q I1 (by simpa using rv) hw
def gSub (to ti:TE) (t:TSet):TG:=λv σ H Q=>to σ H λo H1=>ti σ H1 λi H2=>t o i v H2 λH3=>Q σ H3
theorem pg_sub {o i:Expr}{to ti:TE}{t:TSet}(ho:PE X o to) (hi:PE X i ti) (hs:PSet X t)
  (ha:∀v,assign (.Subscript o i pos) X.env v=(do
   let ov <- holding [v] (eval o X.env)
   let iv <- holding [v,ov] (eval i X.env)
   standAt pos
   holding [v,ov,iv] (setItem ov iv v)
   release [v,ov,iv] []):=by intro _;rfl):PG X (.Subscript o i pos) (gSub to ti t):=by
 intro pins s σ H v u Q I r h
 rw[ha]
 refine wpAny_bind (wpAny_holding (thn (ho pins s σ H _ I h) λov s1 ⟨x,H1,I1,r1,q1⟩=>?_))
 refine wpAny_bind (wpAny_holding (thn (hi pins s1 σ H1 _ I1 q1) λiv s2 ⟨y,H2,I2,r2,q2⟩=>?_))
 refine wpAny_bind (wpAny_standAt (wpAny_bind (wpAny_holding (thn (hs pins s2 σ H2 x y v ov iv u _ I2 r1 r2 r q2) λ_ s3 ⟨H3,I3,q3⟩=>?_))))
 exact wpAny_release ⟨σ,H3,I3,q3⟩
def tAsg (te:TE) (g:TG):TS:=λD σ H=>te σ H λx H1=>g x σ H1 D.nx
theorem ps_asg {tg e:Expr}{te:TE}{g:TG}(he:PE X e te) (hg:PG X tg g) (hs:swapsWithSole [tg] e pos.line X.env=pure false:=by rfl) (hw:swappedStores [tg] e X.env=pure none:=by rfl)
  (h1:(assignEach [tg] X.env).map (·.2)=[assign tg X.env]:=by rfl):PS X (.Assign [tg] e pos) (tAsg te g):=by
 intro pins s σ H D I h
 refine wpAny_Assign_stores (thn (he pins s σ H _ I h) λv s1 ⟨x,H1,I1,r1,q1⟩=>?_) hs hw
 rw[h1]
 exact thn (hg pins s1 σ H1 x v _ I1 r1 q1) λ_ s2 q=>q
theorem ps_set {i:Nat}{x:Str}{e:Expr}{te:TE}{pos':Pos}(hN:X.N.Nodup) (hi:X.N[i]?=some x) (hx:Loc X.env.scope x) (he:PE X e te) (hs:swapsWith e (some (.Name x pos')) pos.line X.env=pure false:=by rfl) (hf:X.fn x=true\/X.env.scope.names.lookup x=some .local:=by first|exact .inl rfl|exact .inr rfl|assumption) :
  PS X (.Assign [.Name x pos'] e pos) (tAsg te (gName i)):=by
 intro pins s σ H D I h
 refine wpAny_Assign_Name (thn (he pins s σ H _ I h) λv s1 ⟨y,H1,I1,r1,q1⟩=>?_) hs
 exact store_ok I1 hN hi hx r1 (λs2 I2=>⟨_,H1,I2,q1⟩) hf
end
section
variable {X:Cx}{pos:Pos}
end
structure It where
 go:Nat->Hp->Prop
 yld:Nat->Hp->V->Hp->Prop
 stop:Nat->Hp->Prop
def FpOk (X:Cx) (pins:List (Addr×Obj)) (H:Hp) (b:Addr):Prop:=
 H b=none/\b≠X.env.locals/\b∉X.fs/\(b∈X.ex\/X.s₀.heap.objs.size<=b)/\(∀x c,X.env.cells.lookup x=some c->c≠b)/\∀p∈X.pn++pins,p.1≠b
theorem Inv.fpOk {X:Cx}{pins:List (Addr×Obj)}{σ:St}{H H':Hp}{s:Shared}{b:Addr}(I:Inv X pins σ H s) (hb:s.heap.objs.size<=b) (hn:H' b=none):FpOk X pins H' b:=by
 refine⟨hn,Nat.ne_of_gt (Nat.lt_of_lt_of_le I.lt hb),I.nofs hb,.inr (Nat.le_trans I.sz hb),λx c e z=>?_,λp hp z=>?_⟩
 ·obtain⟨v,q⟩:=I.cell x c e
  exact absurd (Nat.lt_of_lt_of_le q.lt (by rw[z];exact hb)) (Nat.lt_irrefl _)
 ·exact absurd (Nat.lt_of_lt_of_le (Heap.lt_size (I.pin p hp).1) (by rw[z];exact hb)) (Nat.lt_irrefl _)
structure Turn (P:Program) (w:World) (K:PySem.W.Frag) (tg:Expr) (J:It) (fp:List Addr) (it:Addr) (tn:Nat->Heap->Prop):Prop where
 mem:it∈fp
 obj:∀i h,tn i h->∀b∈fp,∃o,h.get? b=some o/\∀v,o.data≠.cell v
 keep:∀i h h',tn i h->(∀b∈fp,∀o,h.get? b=some o->h'.get? b=some o)->tn i h'
 item:∀(X:Cx),X.prog=P->X.w=w->X.K=K->X.calm=true->∀(i:Nat) (pins:List (Addr×Obj)) (s:Shared) (σ:St) (H:Hp) (E:Value->Shared->Prop),Inv X pins σ H s->(∀b∈fp,FpOk X pins H b)->tn i s.heap->J.go i H ->
  wpAny (model P w) X.A (pyNext (.ref it)) (λr s1=>∃u,r=some u /\
   wpAny (model P w) X.A (letOwnedTupleGo tg (.ref it) u) (λ_ s2=>∃x H',Inv X pins σ H' s2/\RelV x u/\J.yld i H x H'/\tn (i+1) s2.heap/\∀b∈fp,H' b=none) E s1) E s
 done:∀(X:Cx),X.prog=P->X.w=w->X.K=K->X.calm=true->∀(i:Nat) (pins:List (Addr×Obj)) (s:Shared) (σ:St) (H:Hp) (E:Value->Shared->Prop),Inv X pins σ H s->(∀b∈fp,FpOk X pins H b)->tn i s.heap->J.stop i H ->
  wpAny (model P w) X.A (pyNext (.ref it)) (λr s1=>r=none/\Inv X pins σ H s1) E s
 self:∀(A:Around) (i:Nat) (s:Shared) (Q:Value->Shared->Prop) (E:Value->Shared->Prop),tn i s.heap->Q (.ref it) s->wpAny (model P w) A (pyIter (.ref it)) Q E s
abbrev TI:=St->Hp->(It->Hp->Prop)->Prop
def PIE (X:Cx) (pins:List (Addr×Obj)) (σ:St) (tg:Expr) (R:It->Hp->Prop) (itv:Value) (s2:Shared):Prop:=
 ∃(it:Addr) (fp:List Addr) (tn:Nat->Heap->Prop) (J:It) (H':Hp),itv=.ref it/\Inv X pins σ H' s2/\Turn X.prog X.w X.K tg J fp it tn/\tn 0 s2.heap/\(∀b∈fp,FpOk X pins H' b)/\R J H'
def PI (X:Cx) (tg iter:Expr) (wi:TI):Prop:=
 ∀(pins:List (Addr×Obj)) (s:Shared) (σ:St) (H:Hp) (R:It->Hp->Prop),Inv X pins σ H s->wi σ H R ->
  wpAny (model X.prog X.w) X.A (eval iter X.env) (λv s1=>wpAny (model X.prog X.w) X.A (pyIter v) (PIE X pins σ tg R) X.xe s1) X.xe s
theorem go_of {M:Model}{A:Around}{E:Value->Shared->Prop}{s:Shared}{tg:Expr}{it:Addr}{u:Value}{o:Obj}{n:String}{vs:Array Value}{Q:Unit->Shared->Prop}(ho:s.heap.get? it=some o) (hc:o.cls=.type n) (hd:o.data=.fields vs)
  (hn:["enumerate", "zip", "dict_itemiterator", "dict_reverseitemiterator", "odict_iterator", "itertools.zip_longest", "itertools.pairwise"].contains n=false) (hQ:Q () s):wpAny M A (letOwnedTupleGo tg (.ref it) u) Q E s:=by
 unfold letOwnedTupleGo
 cases tg<;>first
  |exact wpAny_pure hQ
  |(cases u<;>first
    |exact wpAny_pure hQ
    |(refine wpAny_bind (wpAny_load ho ?_)
      rw[hc,hd]
      show wpAny M A (if (["enumerate", "zip", "dict_itemiterator", "dict_reverseitemiterator", "odict_iterator", "itertools.zip_longest", "itertools.pairwise"].contains n&&vs[0]?==some (rawInt _))=true then _ else _) Q E s
      rw[if_neg (by intro h;rw[hn,Bool.false_and] at h;cases h)]
      exact wpAny_pure hQ))
def Itl (K:PySem.W.Frag) (a:Addr):It:=
 ⟨λi H=>∃xs x,SqL K H a xs/\xs[i]?=some x,λi H x H'=>H'=H/\∀xs,SqL K H a xs->xs[i]?=some x,λi H=>∃xs,SqL K H a xs/\xs.length<=i⟩
def Itt (K:PySem.W.Frag) (a:Addr):It:=
 ⟨λi H=>∃xs x,SqT K H a xs/\xs[i]?=some x,λi H x H'=>H'=H/\∀xs,SqT K H a xs->xs[i]?=some x,λi H=>∃xs,SqT K H a xs/\xs.length<=i⟩
def Itr (lo:Int) (n:Nat):It:=⟨λi _=>i<n,λi H x H'=>H'=H/\x=.int (lo+i),λi _=>n<=i⟩
theorem turn_list {P:Program}{w:World}{K:PySem.W.Frag}{tg:Expr}(a it:Addr):Turn P w K tg (Itl K a) [it] it (λi h=>h.IsListIter it a i) where
 mem:=by simp
 obj:=λi h st b hb=>by
  have e:b=it:=by simpa using hb
  subst e
  obtain⟨o,e,c,d⟩:=st
  exact⟨o,e,λv z=>by rw[d] at z;cases z⟩
 keep:=λi h h' st k=>st.at λo e=>k it (by simp) o e
 item:=by
  intro X hP hw hK hc i pins s σ H E I hf st hg
  subst hP hw hK
  obtain⟨xs,x,hq,hx⟩:=hg
  obtain⟨its,rv,p,hz⟩:=I.list hq
  obtain⟨u,hu,ru⟩:=rv.get hx
  obtain⟨f0,f1,f2,f3,f4,f5⟩:=hf it (by simp)
  refine wpAny_pyNext_list_item st p.isList (x:=u) (by simpa using hu) λh' st' sb=>?_
  have I1:Inv X pins σ H { s with heap:=h' }:=I.turned (t':=s.toks) (λb o hb e=>(sb.2 b hb).trans e) f0 f1 f3 f4 f5
  obtain⟨o,e,c,d⟩:=id st'
  exact⟨u,rfl,go_of (s:={ s with heap:=h' }) e c d (by decide) ⟨x,H,I1,ru,⟨rfl,λys hy=>by rw[I.list_inj hy hq];exact hx⟩,st',λb hb=>(hf b hb).1⟩⟩
 done:=by
  intro X hP hw hK hc i pins s σ H E I hf st hg
  subst hP hw hK
  obtain⟨xs,hq,hx⟩:=hg
  obtain⟨its,rv,p,hz⟩:=I.list hq
  obtain⟨f0,f1,f2,f3,f4,f5⟩:=hf it (by simp)
  have hl:=rv.length
  exact wpAny_pyNext_list_end (I.ok.hd hc) st p.isList (by simp;lia) λh' eb=>⟨rfl,I.turned (t':=s.toks) (λb o hb e=>eb b o hb e) f0 f1 f3 f4 f5⟩
 self:=λ_ _ _ _ _ st h=>wpAny_pyIter_listiter st h
theorem turn_tuple {P:Program}{w:World}{K:PySem.W.Frag}{tg:Expr}(a it:Addr):Turn P w K tg (Itt K a) [it] it (λi h=>h.IsTupleIter it a i) where
 mem:=by simp
 obj:=λi h st b hb=>by
  have e:b=it:=by simpa using hb
  subst e
  obtain⟨o,e,c,d⟩:=st
  exact⟨o,e,λv z=>by rw[d] at z;cases z⟩
 keep:=λi h h' st k=>st.at λo e=>k it (by simp) o e
 item:=by
  intro X hP hw hK hc i pins s σ H E I hf st hg
  subst hP hw hK
  obtain⟨xs,x,hq,hx⟩:=hg
  obtain⟨its,rv,p,hz⟩:=I.tuple hq
  obtain⟨u,hu,ru⟩:=rv.get hx
  obtain⟨f0,f1,f2,f3,f4,f5⟩:=hf it (by simp)
  refine wpAny_pyNext_tuple_item st (show s.heap.IsTuple a its.toArray from p) (x:=u) (by simpa using hu) λh' st' sb=>?_
  have I1:Inv X pins σ H { s with heap:=h' }:=I.turned (t':=s.toks) (λb o hb e=>(sb.2 b hb).trans e) f0 f1 f3 f4 f5
  obtain⟨o,e,c,d⟩:=id st'
  exact⟨u,rfl,go_of (s:={ s with heap:=h' }) e c d (by decide) ⟨x,H,I1,ru,⟨rfl,λys hy=>by rw[I.tuple_inj hy hq];exact hx⟩,st',λb hb=>(hf b hb).1⟩⟩
 done:=by
  intro X hP hw hK hc i pins s σ H E I hf st hg
  subst hP hw hK
  obtain⟨xs,hq,hx⟩:=hg
  obtain⟨its,rv,p,hz⟩:=I.tuple hq
  obtain⟨f0,f1,f2,f3,f4,f5⟩:=hf it (by simp)
  have hl:=rv.length
  exact wpAny_pyNext_tuple_end (I.ok.hd hc) st (show s.heap.IsTuple a its.toArray from p) (by simp;lia) λh' eb=>⟨rfl,I.turned (t':=s.toks) (λb o hb e=>eb b o hb e) f0 f1 f3 f4 f5⟩
 self:=λ_ _ _ _ _ st h=>wpAny_pyIter_tupleiter st h
theorem turn_range {P:Program}{w:World}{K:PySem.W.Frag}{tg:Expr}(it:Addr) (lo:Int) (n:Nat):Turn P w K tg (Itr lo n) [it] it (λi h=>IsRangeIter h it (lo+(i:Nat)*1) ((n:Int)-(i:Nat)) 1) where
 mem:=by simp
 obj:=λi h st b hb=>by
  have e:b=it:=by simpa using hb
  subst e
  exact⟨_,st,λv z=>by
   have z':Data.fields _=Data.cell v:=z
   cases z'⟩
 keep:=λi h h' st k=>k it (by simp) _ st
 item:=by
  intro X hP hw hK hc i pins s σ H E I hf st hg
  subst hP hw hK
  obtain⟨f0,f1,f2,f3,f4,f5⟩:=hf it (by simp)
  have W:=Walks.range (prog:=X.prog) (w:=X.w) (I.ok.hd hc) it lo 1 n
  refine W.item i s _ _ hg st λv h' tk hv st' kk=>?_
  obtain⟨t,rfl⟩:=hv
  have I1:Inv X pins σ H { s with heap:=h',toks:=tk }:=I.turned (λb o hb e=>kk b o (by simpa using hb) e) f0 f1 f3 f4 f5
  refine⟨_,rfl,go_of (s:={ s with heap:=h',toks:=tk }) (n:= "range_iterator") st' rfl rfl (by decide) ⟨.int (lo+i),H,I1,⟨t,?_⟩,⟨rfl,rfl⟩,st',λb hb=>(hf b hb).1⟩⟩
  rw[Int.mul_one]
 done:=by
  intro X hP hw hK hc i pins s σ H E I hf st hg
  subst hP hw hK
  obtain⟨f0,f1,f2,f3,f4,f5⟩:=hf it (by simp)
  exact wpAny_pyNext_range_end (I.ok.hd hc) st (by have:n<=i:=hg;lia) λh' eb=>⟨rfl,I.turned (t':=s.toks) (λb o hb e=>eb b o hb e) f0 f1 f3 f4 f5⟩
 self:=λ_ _ _ _ _ st h=>wpAny_pyIter_rangeiter st h
end L2
namespace L2
open PySem PySem.Spec PyProof.Rows
section
variable {X:Cx}{tg:Expr}
def iList (K:PySem.W.Frag) (tl:TE):TI:=λσ H R=>tl σ H λx H1=>∃a,x=.ref a/\(∃xs,SqL K H1 a xs)/\R (Itl K a) H1
def iTup (K:PySem.W.Frag) (tl:TE):TI:=λσ H R=>tl σ H λx H1=>∃a,x=.ref a/\(∃xs,SqT K H1 a xs)/\R (Itt K a) H1
theorem pi_list {l:Expr}{tl:TE}(hl:PE X l tl):PI X tg l (iList X.K tl):=by
 intro pins s σ H R I h
 refine thn (hl pins s σ H _ I h) λv s1 ⟨x,H1,I1,r1,q1⟩=>?_
 obtain⟨a,e,⟨xs,hq⟩,q⟩:=q1
 subst e
 cases r1
 obtain⟨its,rv,p,hz⟩:=I1.list hq
 refine wpAny_pyIter_list p.isList ?_
 refine⟨s1.heap.objs.size,[s1.heap.objs.size],_,_,H1,rfl,I1.kept (t':=s1.toks) λb o e=>Heap.get?_push_of_some _ e,turn_list a _,⟨_,Heap.get?_push_size _ rfl,rfl,rfl⟩,λb hb=>?_,q⟩
 have e:b=s1.heap.objs.size:=by simpa using hb
 subst e
 exact I1.fpOk (Nat.le_refl _) (I1.hok.fresh (Nat.le_refl _))
theorem pi_tup {l:Expr}{tl:TE}(hl:PE X l tl):PI X tg l (iTup X.K tl):=by
 intro pins s σ H R I h
 refine thn (hl pins s σ H _ I h) λv s1 ⟨x,H1,I1,r1,q1⟩=>?_
 obtain⟨a,e,⟨xs,hq⟩,q⟩:=q1
 subst e
 cases r1
 obtain⟨its,rv,p,hz⟩:=I1.tuple hq
 refine wpAny_pyIter_tuple (show s1.heap.IsTuple a its.toArray from p) ?_
 refine⟨s1.heap.objs.size,[s1.heap.objs.size],_,_,H1,rfl,I1.kept (t':=s1.toks) λb o e=>Heap.get?_push_of_some _ e,turn_tuple a _,⟨_,Heap.get?_push_size _ rfl,rfl,rfl⟩,λb hb=>?_,q⟩
 have e:b=s1.heap.objs.size:=by simpa using hb
 subst e
 exact I1.fpOk (Nat.le_refl _) (I1.hok.fresh (Nat.le_refl _))
theorem range_it {pins:List (Addr×Obj)}{σ:St}{H:Hp}{s:Shared}{R:It->Hp->Prop}{E:Value->Shared->Prop}{lo hi:Int}{t u v:Tok}{tk:Nat}(I:Inv X pins σ H s) (h1:-(2^62)<=lo) (h2:lo<2^62) (h3:-(2^62)<=hi) (h4:hi<2^62)
  (q:R (Itr lo (hi-lo).toNat) H):wpAny (model X.prog X.w) X.A (pyIter (.ref s.heap.objs.size)) (PIE X pins σ tg R) E { s with heap:=s.heap.push { cls:=.type "range",data:=.fields #[.int lo t,.int hi u,.int 1 v] },toks:=tk }:=by
 refine wpAny_pyIter_range (IsRange.new ..) (small_one h1 h2 h3 h4) ?_
 have I1:Inv X pins σ H { s with heap:=s.heap.push { cls:=.type "range",data:=.fields #[.int lo t,.int hi u,.int 1 v] },toks:=tk }:=I.kept λb o e=>Heap.get?_push_of_some _ e
 refine⟨(s.heap.push { cls:=.type "range",data:=.fields #[.int lo t,.int hi u,.int 1 v] }).objs.size,[(s.heap.push { cls:=.type "range",data:=.fields #[.int lo t,.int hi u,.int 1 v] }).objs.size],_,_,H,rfl,
  I1.kept (t':=tk) λb o e=>Heap.get?_push_of_some _ e,turn_range _ lo (hi-lo).toNat,?_,λb hb=>?_,q⟩
 ·have e1:lo+((0:Nat):Int)*1=lo:=by simp
  have e2:(((hi-lo).toNat:Nat):Int)-((0:Nat):Int)=Builtin.Range.rangeSize lo hi 1:=by rw[rangeSize_one];split<;>lia
  show IsRangeIter _ _ (lo+((0:Nat):Int)*1) ((((hi-lo).toNat:Nat):Int)-((0:Nat):Int)) 1
  rw[e1,e2]
  exact Heap.get?_push_size _ rfl
 ·have e:b=(s.heap.push { cls:=.type "range",data:=.fields #[.int lo t,.int hi u,.int 1 v] }).objs.size:=by simpa using hb
  subst e
  exact I1.fpOk (Nat.le_refl _) (I1.hok.fresh (Nat.le_refl _))
def iRng1 (ta:TA):TI:=λσ H R=>ta σ H λvs H1=>∃j:Int,vs=[.int j]/\-(2^62)<=j/\j<2^62/\R (Itr 0 j.toNat) H1
theorem pi_range1 {a:Expr}{ta:TA}{p pos:Pos}(hg:Gl X "range") (hm:X.mg "range" = none) (ha:PA X [a] ta) (hs:starEach [a] X.env=[(false,eval a X.env)]:=by rfl):PI X tg (.Call (.Name "range" p) [a] [] pos) (iRng1 ta):=by
 intro pins s σ H R I h
 refine Call_ (ld_blt I hg hm boot_range (PyProof.Rows.callWith_type1 (thn (ha pos pins s σ H _ I h) λus s1 ⟨vs,H1,I1,r1,q1⟩=>?_) hs rfl))
 obtain⟨j,e,q1,q2,q⟩:=q1
 subst e
 cases r1 with
 |cons r rr=>
  cases rr
  obtain⟨t,rfl⟩:=r
  exact call_range_1 (range_it I1 (by lia) (by lia) q1 q2 (by simpa using q))
def tFor (wi:TI) (g:TG) (tb:TS):TS:=λD σ H=>wi σ H λJ H1=>∃W:Nat->Nat->St->Hp->Prop,(∃m,W 0 m σ H1)/\∀i m σ H,W i m σ H ->
 (J.stop i H/\D.nx σ H)\/(J.go i H/\∃N:St->Hp->Prop,(∀σ' H',N σ' H'->∃m',m'<m/\W (i+1) m' σ' H')/\∀x H',J.yld i H x H'->g x σ H' λσ2 H2=>tb { D with nx:=N,ct:=N,bk:=D.nx } σ2 H2)
def pinsAt (fp:List Addr) (h:Heap):List (Addr×Obj):=fp.filterMap λb=>(h.get? b).map λo=>(b,o)
theorem mem_pinsAt {fp:List Addr}{h:Heap}{b:Addr}{o:Obj}(hb:b∈fp) (e:h.get? b=some o):(b,o)∈pinsAt fp h:=List.mem_filterMap.mpr ⟨b,hb,by rw[e];rfl⟩
theorem of_pinsAt {fp:List Addr}{h:Heap}{p:Addr×Obj}(hp:p∈pinsAt fp h):p.1∈fp/\h.get? p.1=some p.2:=by
 obtain⟨b,hb,e⟩:=List.mem_filterMap.mp hp
 cases q:h.get? b with
 |none=>rw[q] at e;cases e
 |some o=>
  rw[q] at e
  have e':(b,o)=p:=Option.some.inj e
  subst e'
  exact⟨hb,q⟩
theorem Inv.pinned {pins:List (Addr×Obj)}{σ:St}{H:Hp}{s:Shared}{fp:List Addr}(I:Inv X pins σ H s) (hf:∀b∈fp,FpOk X pins H b) (ho:∀b∈fp,∃o,s.heap.get? b=some o/\∀v,o.data≠.cell v):Inv X (pins++pinsAt fp s.heap) σ H s:=
 I.pins_of λp hp=>(List.mem_append.mp hp).elim (λz=>I.pin p (List.mem_append_right _ z)) λz=>by
  obtain⟨hb,e⟩:=of_pinsAt z
  obtain⟨f0,f1,f2,_⟩:=hf p.1 hb
  obtain⟨o,e',d⟩:=ho p.1 hb
  rw[e] at e';cases e'
  exact⟨e,f0,f1,f2,d⟩
theorem Inv.unpinned {pins pl:List (Addr×Obj)}{σ:St}{H:Hp}{s:Shared}(I:Inv X (pins++pl) σ H s):Inv X pins σ H s:=I.pins_of λp hp=>I.pin p (List.mem_append_right _ (List.mem_append_left _ hp))
theorem ps_for {iter:Expr}{body:List Stmt}{wi:TI}{g:TG}{tb:TS}{pos:Pos}(hp:PassesOwn (model X.prog X.w) X.A X.env X.xe) (hc:X.calm=true) (hi:PI X tg iter wi) (hg:PG X tg g) (hb:PSs X body tb)
  (hs:∀x,foldedSetIterable iter X.env x=pure x:=by intro _;rfl):PS X (.For tg iter body [] pos) (tFor wi g tb):=by
 intro pins s σ H D I h
 refine wpAny_For (thn (hi pins s σ H _ I h) λv s1 h1=>thn h1 λitv s2 h2=>?_) hs
 obtain⟨it,fp,tn,J,H2,e,I2,T,st2,f2,W,⟨m0,w0⟩,turn⟩:=h2
 subst e
 have stat:∀{H':Hp},(∀b∈fp,H' b=none)->∀b∈fp,FpOk X pins H' b:=λhn b hb=>⟨hn b hb,(f2 b hb).2⟩
 refine codeAny_forLoop_any (λn s'=>∃i σ' H',Inv X pins σ' H' s'/\tn i s'.heap/\(∀b∈fp,H' b=none)/\W i n σ' H') ?_ m0 ⟨0,σ,H2,I2,st2,λb hb=>(f2 b hb).1,w0⟩
 rintro n s3 ⟨i,σ3,H3,I3,st3,fr3,w3⟩
 rcases turn i n σ3 H3 w3 with ⟨stop,qn⟩|⟨go,N,hN,step⟩
 ·refine wpAny_passesOwn hp (thn (T.done X rfl rfl rfl hc i pins s3 σ3 H3 X.xe I3 (stat fr3) st3 stop) λr s4 ⟨hr,I4⟩=>?_)
  subst hr
  exact wpAny_execs_nil ⟨σ3,H3,I4,qn⟩
 ·refine wpAny_passesOwn hp (thn (T.item X rfl rfl rfl hc i pins s3 σ3 H3 X.xe I3 (stat fr3) st3 go) λr s4 ⟨u,hr,h4⟩=>?_)
  subst hr
  refine wpAny_passesOwn hp (thn h4 λ_ s5 ⟨x,H5,I5,r5,y5,st5,fr5⟩=>?_)
  have I5':=I5.pinned (stat fr5) (T.obj _ _ st5)
  refine wpAny_passesOwn hp (thn (hg _ s5 σ3 H5 x u _ I5' r5 (step x H5 y5)) λ_ s6 ⟨σ6,H6,I6,q6⟩=>?_)
  refine wpAny_passesOwn hp (thn (hb _ s6 σ6 H6 _ I6 q6) λf s7 q7=>?_)
  have again:∀{σ7:St}{H7:Hp},Inv X (pins++pinsAt fp s5.heap) σ7 H7 s7->N σ7 H7->∃m,m<n/\∃i σ' H',Inv X pins σ' H' s7/\tn i s7.heap/\(∀b∈fp,H' b=none)/\W i m σ' H':=λ{σ7 H7} I7 n7=>by
   obtain⟨m',hm,w7⟩:=hN σ7 H7 n7
   refine⟨m',hm,i+1,σ7,H7,I7.unpinned,T.keep _ _ _ st5 λb hb o e=>(I7.pin (b,o) (List.mem_append_right _ (List.mem_append_right _ (mem_pinsAt hb e)))).1,λb hb=>?_,w7⟩
   obtain⟨o,e,d⟩:=T.obj _ _ st5 b hb
   exact (I7.pin (b,o) (List.mem_append_right _ (List.mem_append_right _ (mem_pinsAt hb e)))).2.1
  cases f with
  |next=>obtain⟨σ7,H7,I7,n7⟩:=q7;exact again I7 n7
  |cont=>obtain⟨σ7,H7,I7,n7⟩:=q7;exact again I7 n7
  |brk=>obtain⟨σ7,H7,I7,q7⟩:=q7;exact⟨σ7,H7,I7.unpinned,q7⟩
  |ret v=>obtain⟨x7,σ7,H7,I7,r7,q7⟩:=q7;exact⟨x7,σ7,H7,I7.unpinned,r7,q7⟩
end
theorem for_list {K:PySem.W.Frag}{a:Addr}{xs:List V}{g:TG}{tb:TS}{D:Ends}{σ:St}{H:Hp}(Pv:Nat->St->Hp->Prop) (h0:Pv 0 σ H) (hl:∀i σ H,i<=xs.length->Pv i σ H->SqL K H a xs)
  (hs:∀i x σ H,xs[i]?=some x->Pv i σ H->g x σ H λσ2 H2=>tb { D with nx:=Pv (i+1),ct:=Pv (i+1),bk:=D.nx } σ2 H2) (hd:∀σ H,Pv xs.length σ H->D.nx σ H) :
  ∃W:Nat->Nat->St->Hp->Prop,(∃m,W 0 m σ H)/\∀i m σ H,W i m σ H ->
   ((Itl K a).stop i H/\D.nx σ H)\/((Itl K a).go i H/\∃N:St->Hp->Prop,(∀σ' H',N σ' H'->∃m',m'<m/\W (i+1) m' σ' H')/\∀x H',(Itl K a).yld i H x H'->g x σ H' λσ2 H2=>tb { D with nx:=N,ct:=N,bk:=D.nx } σ2 H2):=by
 refine⟨λi m σ H=>m=xs.length-i/\i<=xs.length/\Pv i σ H,⟨xs.length,by simp,Nat.zero_le _,h0⟩,?_⟩
 rintro i m σ H ⟨rfl,hi,p⟩
 have q:=hl i σ H hi p
 by_cases hlt:i<xs.length
 ·refine .inr ⟨⟨xs,xs[i],q,by simp[hlt]⟩,Pv (i+1),λσ' H' p'=>⟨xs.length-(i+1),by lia,rfl,hlt,p'⟩,λx H' y=>?_⟩
  obtain⟨e,y⟩:=y
  subst e
  exact hs i x σ _ (y xs q) p
 ·have e:i=xs.length:=by lia
  subst e
  exact .inl ⟨⟨xs,q,Nat.le_refl _⟩,hd σ H p⟩
theorem for_tup {K:PySem.W.Frag}{a:Addr}{xs:List V}{g:TG}{tb:TS}{D:Ends}{σ:St}{H:Hp}(Pv:Nat->St->Hp->Prop) (h0:Pv 0 σ H) (hl:∀i σ H,i<=xs.length->Pv i σ H->SqT K H a xs)
  (hs:∀i x σ H,xs[i]?=some x->Pv i σ H->g x σ H λσ2 H2=>tb { D with nx:=Pv (i+1),ct:=Pv (i+1),bk:=D.nx } σ2 H2) (hd:∀σ H,Pv xs.length σ H->D.nx σ H) :
  ∃W:Nat->Nat->St->Hp->Prop,(∃m,W 0 m σ H)/\∀i m σ H,W i m σ H ->
   ((Itt K a).stop i H/\D.nx σ H)\/((Itt K a).go i H/\∃N:St->Hp->Prop,(∀σ' H',N σ' H'->∃m',m'<m/\W (i+1) m' σ' H')/\∀x H',(Itt K a).yld i H x H'->g x σ H' λσ2 H2=>tb { D with nx:=N,ct:=N,bk:=D.nx } σ2 H2):=by
 refine⟨λi m σ H=>m=xs.length-i/\i<=xs.length/\Pv i σ H,⟨xs.length,by simp,Nat.zero_le _,h0⟩,?_⟩
 rintro i m σ H ⟨rfl,hi,p⟩
 have q:=hl i σ H hi p
 by_cases hlt:i<xs.length
 ·refine .inr ⟨⟨xs,xs[i],q,by simp[hlt]⟩,Pv (i+1),λσ' H' p'=>⟨xs.length-(i+1),by lia,rfl,hlt,p'⟩,λx H' y=>?_⟩
  obtain⟨e,y⟩:=y
  subst e
  exact hs i x σ _ (y xs q) p
 ·have e:i=xs.length:=by lia
  subst e
  exact .inl ⟨⟨xs,q,Nat.le_refl _⟩,hd σ H p⟩
theorem for_range {lo:Int}{n:Nat}{g:TG}{tb:TS}{D:Ends}{σ:St}{H:Hp}(Pv:Nat->St->Hp->Prop) (h0:Pv 0 σ H)
  (hs:∀i σ H,i<n->Pv i σ H->g (.int (lo+i)) σ H λσ2 H2=>tb { D with nx:=Pv (i+1),ct:=Pv (i+1),bk:=D.nx } σ2 H2) (hd:∀σ H,Pv n σ H->D.nx σ H) :
  ∃W:Nat->Nat->St->Hp->Prop,(∃m,W 0 m σ H)/\∀i m σ H,W i m σ H ->
   ((Itr lo n).stop i H/\D.nx σ H)\/((Itr lo n).go i H/\∃N:St->Hp->Prop,(∀σ' H',N σ' H'->∃m',m'<m/\W (i+1) m' σ' H')/\∀x H',(Itr lo n).yld i H x H'->g x σ H' λσ2 H2=>tb { D with nx:=N,ct:=N,bk:=D.nx } σ2 H2):=by
 refine⟨λi m σ H=>m=n-i/\i<=n/\Pv i σ H,⟨n,by simp,Nat.zero_le _,h0⟩,?_⟩
 rintro i m σ H ⟨rfl,hi,p⟩
 by_cases hlt:i<n
 ·refine .inr ⟨hlt,Pv (i+1),λσ' H' p'=>⟨n-(i+1),by lia,rfl,hlt,p'⟩,λx H' y=>?_⟩
  obtain⟨e,y⟩:=y
  subst e y
  exact hs i σ _ hlt p
 ·have e:i=n:=by lia
  subst e
  exact .inl ⟨Nat.le_refl _,hd σ H p⟩
end L2
namespace L2
open PySem PySem.Spec PyProof.Rows
abbrev R2:=V->V->Hp->VK->Prop
def OpR (X:Cx) (f:Value->Value->Sem Value) (r:R2):Prop:=
 ∀(pins:List (Addr×Obj)) (s:Shared) (σ:St) (H:Hp) (x y:V) (v u:Value) (Q:VK),Inv X pins σ H s->RelV x v->RelV y u->r x y H Q ->
  wpAny (model X.prog X.w) X.A (f v u) (EP X pins σ Q) X.xe s
def CallR (X:Cx) (f:Value) (r:List V->Hp->VK->Prop):Prop:=
 ∀(pins:List (Addr×Obj)) (s:Shared) (σ:St) (H:Hp) (xs:List V) (us:List Value) (Q:VK),Inv X pins σ H s->Vals xs us->r xs H Q ->
  wpAny (model X.prog X.w) X.A (call f us) (EP X pins σ Q) X.xe s
def tOp (r:R2) (ta tb:TE):TE:=λσ H Q=>ta σ H λx H1=>tb σ H1 λy H2=>r x y H2 Q
def rI (C:Int->Int->Prop) (g:Int->Int->V):R2:=λx y H Q=>∃i j,x=.int i/\y=.int j/\C i j/\Q (g i j) H
def rI0 (g:Int->Int->V):R2:=λx y H Q=>∃i j,x=.int i/\y=.int j/\Q (g i j) H
section
variable {X:Cx}{a b c:Expr}{ta tb tc:TE}{pos:Pos}
theorem binT (ha:PE X a ta) (hb:PE X b tb){pins:List (Addr×Obj)}{s:Shared}{σ:St}{H:Hp}{R:V->V->Hp->Prop}(I:Inv X pins σ H s)
  (h:ta σ H λx H1=>tb σ H1 λy H2=>R x y H2){Q:Value->Shared->Prop}{f:Value->Value->Sem Value}
  (hf:∀v u s2 x y H2,Inv X pins σ H2 s2->RelV x v->RelV y u->R x y H2->wpAny (model X.prog X.w) X.A (f v u) Q X.xe s2) :
  wpAny (model X.prog X.w) X.A (eval a X.env) (λv s₁=>wpAny (model X.prog X.w) X.A (eval b X.env) (λu s₂=>wpAny (model X.prog X.w) X.A (f v u) Q X.xe s₂) X.xe s₁) X.xe s:=by
 refine thn (ha pins s σ H _ I h) λv s1 ⟨x,H1,I1,r1,q1⟩=>?_
 refine thn (hb pins s1 σ H1 _ I1 q1) λu s2 ⟨y,H2,I2,r2,q2⟩=>?_
 exact hf v u s2 x y H2 I2 r1 r2 q2
theorem pe_op {op:Operator}{r:R2}(ho:OpR X (binaryOp op) r) (ha:PE X a ta) (hb:PE X b tb):PE X (.BinOp a op b pos) (tOp r ta tb):=by
 intro pins s σ H Q I h
 exact wpAny_BinOp (binT ha hb I h λv u s2 x y H2 I2 rx ry q=>ho pins s2 σ H2 x y v u Q I2 rx ry q)
theorem opI {f:Value->Value->Sem Value}{C:Int->Int->Prop}{g:Int->Int->Int}
  (rule:∀(i j:Int) (t u:Tok) (s:Shared) (Q:Value->Shared->Prop) (E:Value->Shared->Prop),C i j->Q (.int (g i j) s.toks) { s with toks:=s.toks+1 }->wpAny (model X.prog X.w) X.A (f (.int i t) (.int j u)) Q E s) :
  OpR X f (rI C λi j=>.int (g i j)):=by
 intro pins s σ H x y v u Q I rx ry h
 obtain⟨i,j,rfl,rfl,hc,q⟩:=h
 obtain⟨t,rfl⟩:=rx
 obtain⟨t',rfl⟩:=ry
 exact rule i j t t' s _ _ hc ⟨.int (g i j),H,I.tok _,⟨_,rfl⟩,q⟩
theorem opI0 {f:Value->Value->Sem Value}{g:Int->Int->Int}
  (rule:∀(i j:Int) (t u:Tok) (s:Shared) (Q:Value->Shared->Prop) (E:Value->Shared->Prop),Q (.int (g i j) s.toks) { s with toks:=s.toks+1 }->wpAny (model X.prog X.w) X.A (f (.int i t) (.int j u)) Q E s) :
  OpR X f (rI0 λi j=>.int (g i j)):=by
 intro pins s σ H x y v u Q I rx ry h
 obtain⟨i,j,rfl,rfl,q⟩:=h
 obtain⟨t,rfl⟩:=rx
 obtain⟨t',rfl⟩:=ry
 exact rule i j t t' s _ _ ⟨.int (g i j),H,I.tok _,⟨_,rfl⟩,q⟩
theorem opB0 {f:Value->Value->Sem Value}{g:Int->Int->Bool}
  (rule:∀(i j:Int) (t u:Tok) (s:Shared) (Q:Value->Shared->Prop) (E:Value->Shared->Prop),Q (.bool (g i j)) s->wpAny (model X.prog X.w) X.A (f (.int i t) (.int j u)) Q E s) :
  OpR X f (rI0 λi j=>.bl (g i j)):=by
 intro pins s σ H x y v u Q I rx ry h
 obtain⟨i,j,rfl,rfl,q⟩:=h
 obtain⟨t,rfl⟩:=rx
 obtain⟨t',rfl⟩:=ry
 exact rule i j t t' s _ _ ⟨.bl (g i j),H,I,rfl,q⟩
def CDiv (i j:Int):Prop:=0<j/\j<1073741824
def CPow (i j:Int):Prop:=0<=j/\j<=1000000/\i.natAbs<2^64
def CMul (i j:Int):Prop:=(-(2^64)<i/\i<2^64)\/(-(2^64)<j/\j<2^64)
theorem CMul.ok {i j:Int}(h:CMul i j):IntMulOk i j:=by
 rcases h with ⟨h1,h2⟩|⟨h1,h2⟩
 ·exact .of_left (intBits_le_64 h1 h2)
 ·exact .of_right (intBits_le_64 h1 h2)
theorem op_add:OpR X (binaryOp .Add) (rI0 λi j=>.int (i+j)):=opI0 λ_ _ _ _ _ _ _ q=>add_int q
theorem op_sub:OpR X (binaryOp .Sub) (rI0 λi j=>.int (i-j)):=opI0 λ_ _ _ _ _ _ _ q=>sub_int q
theorem op_mul:OpR X (binaryOp .Mult) (rI CMul λi j=>.int (i*j)):=opI λ_ _ _ _ _ _ _ hc q=>mul_int q hc.ok
theorem op_fdiv:OpR X (binaryOp .FloorDiv) (rI CDiv λi j=>.int (i/j)):=opI λi j _ _ _ _ _ hc q=>by
 have h1:(0:Int)<j:=hc.1
 have h2:j<1073741824:=hc.2
 exact floordiv_int (by lia) (by rw[Int.fdiv_eq_ediv_of_nonneg i (by lia)];exact q) (.inl (PyProof.noPylong_small (by lia)))
theorem op_mod:OpR X (binaryOp .Mod) (rI (λ_ j=>0<j) λi j=>.int (i%j)):=opI λi j _ _ _ _ _ hc q=>by
 have h1:(0:Int)<j:=hc
 exact mod_int' (by lia) (by rw[Int.fmod_eq_emod_of_nonneg i (by lia)];exact q)
theorem op_pow:OpR X (binaryOp .Pow) (rI CPow λi j=>.int (i^j.toNat)):=opI λ_ _ _ _ _ _ _ hc q=>pow_int_small hc.1 hc.2.1 hc.2.2 q
end
def scal:V->V->Bool
 |.non,.non=>true|.non,.int _=>true|.int _,.non=>true|.non,.bl _=>true|.bl _,.non=>true|.non,.str _=>true|.str _,.non=>true
 |.int _,.int _=>true|.bl _,.bl _=>true|.str _,.str _=>true|.byt _,.byt _=>true
 |.int _,.str _=>true|.str _,.int _=>true|.bl _,.str _=>true|.str _,.bl _=>true
 |_,_=>false
def rEq:R2:=λx y H Q=>scal x y=true/\Q (.bl (decide (x=y))) H
def rNe:R2:=λx y H Q=>scal x y=true/\Q (.bl (!decide (x=y))) H
theorem dec_int {i j:Int}:decide (V.int i=V.int j)=(i==j):=by
 rw[Bool.eq_iff_iff]
 simp
theorem dec_bl {i j:Bool}:decide (V.bl i=V.bl j)=(i==j):=by
 rw[Bool.eq_iff_iff]
 simp
theorem dec_str {i j:Str}:decide (V.str i=V.str j)=(i==j):=by
 rw[Bool.eq_iff_iff]
 simp
theorem dec_byt {i j:Array UInt8}:decide (V.byt i=V.byt j)=(i.toList==j.toList):=by
 rw[Bool.eq_iff_iff]
 cases i
 cases j
 simp
section
variable {X:Cx}{a b c:Expr}{ta tb tc:TE}{pos:Pos}
theorem fin_bl {pins:List (Addr×Obj)}{σ:St}{H:Hp}{s:Shared}{Q:VK}{k k':Bool}(I:Inv X pins σ H s) (q:Q (.bl k) H) (e:k=k'):EP X pins σ Q (.bool k') s:=by
 subst e
 exact⟨.bl k,H,I,rfl,q⟩
theorem op_eq:OpR X (compareOp .Eq) rEq:=by
 intro pins s σ H x y v u Q I rx ry h
 obtain⟨hs,q⟩:=h
 cases x with
 |non=>
  cases rx
  cases y with
  |non=>cases ry;exact PySem.EqNone.eq_none_none (fin_bl I q (by simp))
  |bl j=>cases ry;exact PySem.EqNone.eq_none_bool (fin_bl I q (by simp))
  |int j=>obtain⟨t',rfl⟩:=ry;exact PySem.EqNone.eq_none_int (fin_bl I q (by simp))
  |str j=>obtain⟨t',rfl⟩:=ry;exact PySem.EqNone.eq_none_str (fin_bl I q (by simp))
  |_=>exact absurd (show false=true from hs) Bool.false_ne_true
 |bl i=>
  cases rx
  cases y with
  |non=>cases ry;exact PySem.EqNone.eq_bool_none (fin_bl I q (by simp))
  |bl j=>cases ry;exact eq_bool (fin_bl I q dec_bl)
  |str j=>obtain⟨t',rfl⟩:=ry;exact PySem.EqMixed.eq_bool_str (fin_bl I q (by simp))
  |_=>exact absurd (show false=true from hs) Bool.false_ne_true
 |int i=>
  obtain⟨t,rfl⟩:=rx
  cases y with
  |non=>cases ry;exact PySem.EqNone.eq_int_none (fin_bl I q (by simp))
  |int j=>obtain⟨t',rfl⟩:=ry;exact eq_int (fin_bl I q dec_int)
  |str j=>obtain⟨t',rfl⟩:=ry;exact PySem.EqMixed.eq_int_str (fin_bl I q (by simp))
  |_=>exact absurd (show false=true from hs) Bool.false_ne_true
 |str i=>
  obtain⟨t,rfl⟩:=rx
  cases y with
  |non=>cases ry;exact PySem.EqNone.eq_str_none (fin_bl I q (by simp))
  |bl j=>cases ry;exact PySem.EqMixed.eq_str_bool (fin_bl I q (by simp))
  |int j=>obtain⟨t',rfl⟩:=ry;exact PySem.EqMixed.eq_str_int (fin_bl I q (by simp))
  |str j=>obtain⟨t',rfl⟩:=ry;exact eq_str (fin_bl I q dec_str)
  |_=>exact absurd (show false=true from hs) Bool.false_ne_true
 |byt i=>
  obtain⟨t,rfl⟩:=rx
  cases y with
  |byt j=>obtain⟨t',rfl⟩:=ry;exact PySem.W.eq_bytes (fin_bl I q dec_byt)
  |_=>exact absurd (show false=true from hs) Bool.false_ne_true
 |_=>cases y<;>exact absurd (show false=true from hs) Bool.false_ne_true
theorem op_ne:OpR X (compareOp .NotEq) rNe:=by
 intro pins s σ H x y v u Q I rx ry h
 obtain⟨hs,q⟩:=h
 cases x with
 |non=>
  cases rx
  cases y with
  |non=>cases ry;exact PySem.EqNone.ne_none_none (fin_bl I q (by simp))
  |bl j=>cases ry;exact PySem.EqNone.ne_none_bool (fin_bl I q (by simp))
  |int j=>obtain⟨t',rfl⟩:=ry;exact PySem.EqNone.ne_none_int (fin_bl I q (by simp))
  |str j=>obtain⟨t',rfl⟩:=ry;exact PySem.EqNone.ne_none_str (fin_bl I q (by simp))
  |_=>exact absurd (show false=true from hs) Bool.false_ne_true
 |bl i=>
  cases rx
  cases y with
  |non=>cases ry;exact PySem.EqNone.ne_bool_none (fin_bl I q (by simp))
  |bl j=>cases ry;exact ne_bool (fin_bl I q (congrArg not dec_bl))
  |str j=>obtain⟨t',rfl⟩:=ry;exact PySem.EqMixed.ne_bool_str (fin_bl I q (by simp))
  |_=>exact absurd (show false=true from hs) Bool.false_ne_true
 |int i=>
  obtain⟨t,rfl⟩:=rx
  cases y with
  |non=>cases ry;exact PySem.EqNone.ne_int_none (fin_bl I q (by simp))
  |int j=>obtain⟨t',rfl⟩:=ry;exact ne_int (fin_bl I q (congrArg not dec_int))
  |str j=>obtain⟨t',rfl⟩:=ry;exact PySem.EqMixed.ne_int_str (fin_bl I q (by simp))
  |_=>exact absurd (show false=true from hs) Bool.false_ne_true
 |str i=>
  obtain⟨t,rfl⟩:=rx
  cases y with
  |non=>cases ry;exact PySem.EqNone.ne_str_none (fin_bl I q (by simp))
  |bl j=>cases ry;exact PySem.EqMixed.ne_str_bool (fin_bl I q (by simp))
  |int j=>obtain⟨t',rfl⟩:=ry;exact PySem.EqMixed.ne_str_int (fin_bl I q (by simp))
  |str j=>obtain⟨t',rfl⟩:=ry;exact ne_str (fin_bl I q (congrArg not dec_str))
  |_=>exact absurd (show false=true from hs) Bool.false_ne_true
 |byt i=>
  obtain⟨t,rfl⟩:=rx
  cases y with
  |byt j=>obtain⟨t',rfl⟩:=ry;exact PySem.W.ne_bytes (fin_bl I q (congrArg not dec_byt))
  |_=>exact absurd (show false=true from hs) Bool.false_ne_true
 |_=>cases y<;>exact absurd (show false=true from hs) Bool.false_ne_true
theorem op_lt:OpR X (compareOp .Lt) (rI0 λi j=>.bl (decide (i<j))):=opB0 λ_ _ _ _ _ _ _ q=>lt_int q
theorem op_le:OpR X (compareOp .LtE) (rI0 λi j=>.bl (decide (i<=j))):=opB0 λ_ _ _ _ _ _ _ q=>le_int q
theorem op_gt:OpR X (compareOp .Gt) (rI0 λi j=>.bl (decide (j<i))):=opB0 λ_ _ _ _ _ _ _ q=>gt_int q
theorem nomark (b:Expr){op:CmpOp}(h:op≠.In:=by decide) (h2:op≠.NotIn:=by decide):behindInMarks op b=false:=by
 have e1:(op==CmpOp.In)=false:=by cases op<;>first|rfl|exact absurd rfl h
 have e2:(op==CmpOp.NotIn)=false:=by cases op<;>first|rfl|exact absurd rfl h2
 cases b<;>simp[behindInMarks,e1,e2]
theorem pe_cmpR {op:CmpOp}{r:R2}(ho:OpR X (compareOp op) r) (ha:PE X a ta) (hb:PE X b tb) (hm:behindInMarks op b=false):PE X (.Compare a [op] [b] pos) (tOp r ta tb):=by
 intro pins s σ H Q I h
 exact wpAny_Compare1 (binT ha hb I h λv u s2 x y H2 I2 rx ry q=>ho pins s2 σ H2 x y v u Q I2 rx ry q) hm
def tTest (t:TE):TT:=λσ H Q=>t σ H λx H'=>∃k,x=.bl k/\Q k H'
theorem pt_cmpR {op:CmpOp}{r:R2}(ho:OpR X (compareOp op) r) (ha:PE X a ta) (hb:PE X b tb) (hm:behindInMarks op b=false):PT X (.Compare a [op] [b] pos) (tTest (tOp r ta tb)):=by
 intro pins s σ H Q I h
 refine wpAny_isTrue_Compare1 (thn (ha pins s σ H _ I h) λv s1 ⟨x,H1,I1,r1,q1⟩=>thn (hb pins s1 σ H1 _ I1 q1) λu s2 ⟨y,H2,I2,r2,q2⟩=>
  thn (ho pins s2 σ H2 x y v u _ I2 r1 r2 q2) λc s3 ⟨z,H3,I3,r3,k,e,q3⟩=>?_) hm
 subst e
 cases r3
 exact wpAny_truthy_bool ⟨H3,I3,q3⟩
def tChain (r r':R2) (ta tb tc:TE):TE:=λσ H Q=>ta σ H λx H1=>tb σ H1 λy H2=>r x y H2 λz H3=>∃k,z=.bl k /\
 (if k=true then tc σ H3 λw' H4=>r' y w' H4 Q else Q (.bl false) H3)
theorem pe_chain {op op':CmpOp}{r r':R2}(ho:OpR X (compareOp op) r) (ho':OpR X (compareOp op') r') (ha:PE X a ta) (hb:PE X b tb) (hc:PE X c tc)
  (hm:lastMarks [op,op'] [b,c]=false:=by with_unfolding_all rfl):PE X (.Compare a [op,op'] [b,c] pos) (tChain r r' ta tb tc):=by
 intro pins s σ H Q I h
 refine Compare_chain (thn (ha pins s σ H _ I h) λv s1 ⟨x,H1,I1,r1,q1⟩=>chain_link (thn (hb pins s1 σ H1 _ I1 q1) λu s2 ⟨y,H2,I2,r2,q2⟩=>
  thn (ho pins s2 σ H2 x y v u _ I2 r1 r2 q2) λd s3 ⟨z,H3,I3,r3,k,e,q3⟩=>?_)) hm
 subst e
 cases r3
 refine wpAny_truthy_bool ?_
 cases k with
 |false=>exact ite_ff ⟨.bl false,H3,I3,rfl,q3⟩
 |true=>exact ite_tt (chain_last (thn (hc pins s3 σ H3 _ I3 q3) λw' s4 ⟨z',H4,I4,r4,q4⟩=>ho' pins s4 σ H4 y z' u w' Q I4 r2 r4 q4))
theorem line63:(sizeLine:Nat)<2^63:=by rw[sizeLine_eq];decide
theorem vals1 {x:V}{us:List Value}(r:Vals [x] us):∃u,us=[u]/\RelV x u:=by
 cases r with
 |cons r1 r2=>cases r2;exact⟨_,rfl,r1⟩
theorem vals2 {x y:V}{us:List Value}(r:Vals [x,y] us):∃u w',us=[u,w']/\RelV x u/\RelV y w':=by
 cases r with
 |cons r1 r2=>
  cases r2 with
  |cons r3 r4=>cases r4;exact⟨_,_,rfl,r1,r3⟩
theorem call_abs:CallR X (.builtin "abs") (λxs H Q=>∃i,xs=[.int i]/\Q (.int (if i<0 then -i else i)) H):=by
 intro pins s σ H xs us Q I r h
 obtain⟨i,rfl,q⟩:=h
 obtain⟨u,rfl,t,rfl⟩:=vals1 r
 exact call_abs_int λu tk=>⟨.int (if i<0 then -i else i),H,I.tok _,⟨_,rfl⟩,q⟩
theorem call_max2 (hc:X.calm=true):CallR X (.builtin "max") (λxs H Q=>∃i j,xs=[.int i,.int j]/\Q (.int (if j>i then j else i)) H):=by
 intro pins s σ H xs us Q I r h
 obtain⟨i,j,rfl,q⟩:=h
 obtain⟨u,w',rfl,⟨t,rfl⟩,⟨t',rfl⟩⟩:=vals2 r
 refine max_two_ints (I.ok.hd hc) λh' tk k=>⟨_,H,I.kept k,?_,q⟩
 by_cases hj:j>i
 ·rw[if_pos hj,if_pos hj];exact⟨_,rfl⟩
 ·rw[if_neg hj,if_neg hj];exact⟨_,rfl⟩
theorem call_min2 (hc:X.calm=true):CallR X (.builtin "min") (λxs H Q=>∃i j,xs=[.int i,.int j]/\Q (.int (if j<i then j else i)) H):=by
 intro pins s σ H xs us Q I r h
 obtain⟨i,j,rfl,q⟩:=h
 obtain⟨u,w',rfl,⟨t,rfl⟩,⟨t',rfl⟩⟩:=vals2 r
 refine min_two_ints (I.ok.hd hc) λh' tk k=>⟨_,H,I.kept k,?_,q⟩
 by_cases hj:j<i
 ·rw[if_pos hj,if_pos hj];exact⟨_,rfl⟩
 ·rw[if_neg hj,if_neg hj];exact⟨_,rfl⟩
theorem call_int1:CallR X (.type "int") (λxs H Q=>(∃i,xs=[.int i]/\Q (.int i) H)\/∃k,xs=[.bl k]/\Q (.int (if k then 1 else 0)) H):=by
 intro pins s σ H xs us Q I r h
 rcases h with ⟨i,rfl,q⟩|⟨k,rfl,q⟩
 ·obtain⟨u,rfl,t,rfl⟩:=vals1 r
  exact call_int_int ⟨.int i,H,I,⟨_,rfl⟩,q⟩
 ·obtain⟨u,rfl,r1⟩:=vals1 r
  cases r1
  exact call_int_bool ⟨.int (if k then 1 else 0),H,I.tok _,⟨_,rfl⟩,q⟩
end
end L2
namespace L2
open PySem PySem.Spec PyProof.Rows
structure ObjM (h:Heap) (x dx C:Addr) (mA:Str->Option Value):Prop where
 obj:h.get? x=some (PySem.W.instObj C dx)
 ns:h.Ns1 dx mA
 ne:dx≠x
theorem lookIn_ns {h:Heap}{dx:Addr}{mA:Str->Option Value}(n:h.Ns1 dx mA):∃od,h.get? dx=some od/\∀name,PySem.W.lookIn name od=some (mA name):=by
 obtain⟨o,es,ep,ho,hd,hk,_,hm⟩:=n
 refine⟨o,ho,λname=>?_⟩
 have e:=hm name
 unfold nsFind findBy at e
 rw[<- Array.find?_toList] at e
 unfold PySem.W.lookIn
 rw[hd]
 dsimp only
 split
 ·rename_i y q
  rw[q] at e
  exact congrArg some e
 ·rename_i q
  rw[q] at e
  have a:es.toList.any (·.refKey)=false:=by
   rw[List.any_eq_false]
   intro y hy
   obtain⟨z,t,hkey⟩:=hk y (Array.mem_toList_iff.mp hy)
   simp[DictEntry.refKey,hkey]
  have a':¬es.toList.any (·.refKey)=true:=by rw[a];exact Bool.false_ne_true
  rw[if_neg a']
  exact congrArg some e
theorem ObjM.look {h:Heap}{x dx C:Addr}{mA:Str->Option Value}(I:ObjM h x dx C mA):∃od,PySem.W.InstAt h x (PySem.W.instObj C dx) C (some od)/\∀name,PySem.W.lookIn name od=some (mA name):=
 let ⟨od,ho,hl⟩:=lookIn_ns I.ns
 ⟨od,⟨I.obj,rfl,rfl,ho⟩,hl⟩
section
variable {prog:Program}{w:World}{A:Around}{E:Value->Shared->Prop}{s:Shared}{K:PySem.W.Frag}{x dx C f:Addr}{mA:Str->Option Value}{name:Str}{v:Value}
end
section
variable {P:Program}{w:World}{H H':Hp}{h h':Heap}{a C dx:Addr}{fs fs':List (Str×V)}
theorem ins_get (hok:HOk P w H h) (e:H a=some (.ins C dx fs)):∃mA,ObjM h a dx C mA/\(∀f,RelO (fs.lookup f) (mA f))/\PySem.Within mA (fs.map (·.1))/\fs.length<=1000/\H dx=some (.own a):=by
 obtain⟨d,z,ne,ob,mA,n,r,q⟩:=(show ObjOk P w H h a (.ins C dx fs) from hok a _ e)
 exact⟨mA,⟨ob,n,ne⟩,r,q,z,d⟩
end
structure Cls (K:PySem.W.Frag) (C:Addr):Prop where
 pg:PySem.W.plainGet K C Str.empty=true
 hd:PySem.W.hasDictIn K C=true
 po:PySem.W.plainOver K C=true
 sa:PySem.W.findIn K (.ref C) "__setattr__" = some (some (.builtin "object.__setattr__"))
theorem Cls.get {K:PySem.W.Frag}{C:Addr}(c:Cls K C) (f:Str):PySem.W.plainGet K C f=true:=c.pg
section
variable {X:Cx}{pins:List (Addr×Obj)}{σ:St}{H:Hp}{s:Shared}{a C dx:Addr}{fs:List (Str×V)}{f:Str}{v:V}{A:Around}{E:Value->Shared->Prop}
end
section
variable {X:Cx}{o e value:Expr}{f:Str}{pos pos' tpos:Pos}{ta tv:TE}
end
section
variable {X:Cx}{pins:List (Addr×Obj)}{σ:St}{H:Hp}{s:Shared}{A:Around}{E:Value->Shared->Prop}{Q:Value->Shared->Prop}{c:Value}{b:Bool}
inductive TyOf (K:PySem.W.Frag) (H:Hp):V->Value->Prop where
 |non:TyOf K H .non (.type "NoneType")
 |bl (x:Bool):TyOf K H (.bl x) (.type "bool")
 |int (i:Int):TyOf K H (.int i) (.type "int")
 |str (x:Str):TyOf K H (.str x) (.type "str")
 |flt (x:UInt64):TyOf K H (.flt x) (.type "float")
 |lst {a:Addr}{xs:List V}(e:H a=some (.lst xs)):TyOf K H (.ref a) (.type "list")
 |frz {a:Addr}{o:Obj}{xs:List V}(e:H a=some (.frz o (.lst xs))):TyOf K H (.ref a) (.type "list")
 |tup {a:Addr}{xs:List V}(e:H a=some (.tup xs)):TyOf K H (.ref a) (.type "tuple")
 |dK {a:Addr}{kvs:List (Key×V)}(e:H a=some (.dK kvs)):TyOf K H (.ref a) (.type "dict")
 |dT {a:Addr}{kvs:List (List Key×V)}(e:H a=some (.dT kvs)):TyOf K H (.ref a) (.type "dict")
 |ins {a C dx:Addr}{fs:List (Str×V)}(e:H a=some (.ins C dx fs)) (cl:Cls K C) (ha:PySem.W.findIn K (.ref C) "__class__" = some (some (.builtin "object.__class__")))
   (hn:PySem.W.specialIn K (.builtin "object.__class__") "__get__" = some (some (.builtin "getset_descriptor.__get__"))) (htk:PySem.W.takesIn K (.builtin "object.__class__")=some true)
   (hm:PySem.W.mroIn K C (.type "object")=some true):TyOf K H (.ref a) (.ref C)
theorem isinst_ok {x:V}{u t:Value}(I:Inv X pins σ H s) (rx:RelV x u) (ty:TyOf X.K H x t) (e:PySem.W.kitOne X.K t c=some b) (h:∀tk,Q (.bool b) { s with toks:=tk }) :
  wpAny (model X.prog X.w) A (call (.builtin "isinstance") [u,c]) Q E s:=by
 cases ty with
 |non=>cases (show u=Value.none from rx);exact PySem.W.kia_one PySem.W.kitx_none I.kIn True.intro e (λz=>nomatch z) h
 |bl y=>cases (show u=Value.bool y from rx);exact PySem.W.kia_one PySem.W.kitx_bool I.kIn True.intro e (λz=>nomatch z) h
 |int i=>obtain⟨t,q⟩:=(show ∃t,u=Value.int i t from rx);cases q;exact PySem.W.kia_one PySem.W.kitx_int I.kIn True.intro e (λz=>nomatch z) h
 |str y=>obtain⟨t,q⟩:=(show ∃t,u=Value.str y t from rx);cases q;exact PySem.W.kia_one PySem.W.kitx_str I.kIn True.intro e (λz=>nomatch z) h
 |flt y=>obtain⟨t,q⟩:=(show ∃t,u=Value.float y t from rx);cases q;exact PySem.W.kia_one PySem.W.kitx_float I.kIn True.intro e (λz=>nomatch z) h
 |@lst a xs ea=>
  cases (show u=Value.ref a from rx)
  obtain⟨_,_,n,_,h1⟩:=(show ObjOk X.prog X.w H s.heap a (.lst xs) from I.hok a _ ea)
  exact PySem.W.kia_one PySem.W.kitx_list I.kIn ⟨_,h1,rfl⟩ e (λz=>nomatch z) h
 |@frz a ob xs ea=>
  cases (show u=Value.ref a from rx)
  obtain⟨_,_,_,n,_,h1⟩:=(show ObjOk X.prog X.w H s.heap a (.frz ob (.lst xs)) from I.hok a _ ea)
  exact PySem.W.kia_one PySem.W.kitx_list I.kIn ⟨_,h1,rfl⟩ e (λz=>nomatch z) h
 |@tup a xs ea=>
  cases (show u=Value.ref a from rx)
  obtain⟨_,_,_,p⟩:=(show ObjOk X.prog X.w H s.heap a (.tup xs) from I.hok a _ ea)
  obtain⟨o,h1,h2,_⟩:=p
  exact PySem.W.kia_one PySem.W.kitx_tuple I.kIn ⟨o,h1,h2⟩ e (λz=>nomatch z) h
 |@dK a kvs ea=>
  cases (show u=Value.ref a from rx)
  obtain⟨_,_,vs,_,p⟩:=(show ObjOk X.prog X.w H s.heap a (.dK kvs) from I.hok a _ ea)
  obtain⟨o,es,ep,h1,h2,_⟩:=p
  exact PySem.W.kia_one PySem.W.kitx_dict I.kIn ⟨o,h1,h2.1⟩ e (λz=>nomatch z) h
 |@dT a kvs ea=>
  cases (show u=Value.ref a from rx)
  obtain⟨_,_,xs,_,o,es,ep,h1,h2,_⟩:=(show ObjOk X.prog X.w H s.heap a (.dT kvs) from I.hok a _ ea)
  exact PySem.W.kia_one PySem.W.kitx_dict I.kIn ⟨o,h1,h2.1⟩ e (λz=>nomatch z) h
 |@ins a C dx fs ea cl ha hn htk hm=>
  cases (show u=Value.ref a from rx)
  obtain⟨mA,O,_⟩:=ins_get I.hok ea
  obtain⟨od,J,_⟩:=O.look
  exact PySem.W.kia_one (PySem.W.kitx_own (cl.get _) cl.hd ha hn htk hm) I.kIn J e (λz=>nomatch z) h
end
end L2
namespace L2
open PySem PySem.Spec PyProof.Rows
structure Room (k:Nat) (A:Around):Prop where
 hd:A.handled=none
 dp:A.depth+3*k+5<recursionLimit
 un:A.units+16*k+200<cLine
 gd:A.guards=some []
theorem Room.mono {j k:Nat}{A:Around}(r:Room k A) (h:j<=k):Room j A:=⟨r.hd,by have:=r.dp;lia,by have:=r.un;lia,r.gd⟩
theorem Room.deeper {k:Nat}{A:Around}(r:Room (k+1) A) (env:Env):Room k (A.deeper env):=
 ⟨r.hd,by have:=r.dp;show A.depth+1+3*k+5<_;lia,by have:=r.un;show A.units+3+16*k+200<_;lia,r.gd⟩
theorem Room.depth {k:Nat}{A:Around}(r:Room k A):A.depth<recursionLimit:=by have:=r.dp;lia
theorem Room.units {k:Nat}{A:Around}(r:Room k A):A.units+64<cLine:=by have:=r.un;lia
def tNil:TA:=λ_ H Q=>Q [] H
def tCons (ta:TE) (tr:TA):TA:=λσ H Q=>ta σ H λx H1=>tr σ H1 λxs H2=>Q (x::xs) H2
section
variable {X:Cx}{e:Expr}{es:List Expr}{te:TE}{t:TA}{pos:Pos}
theorem pa_nil:PA X [] tNil:=λ_ _ _ _ H Q I h=>Calls.spliced_nil ⟨[],H,I,.nil,h⟩
theorem pa_cons (ha:PE X e te) (hr:PA X es t) (hs:starEach (e::es) X.env=(false,eval e X.env)::starEach es X.env:=by rfl):PA X (e::es) (tCons te t):=by
 intro pos pins s σ H Q I h
 rw[hs]
 show wpAny _ _ (spliced ((false,eval e X.env)::backTo pos (starEach es X.env))) _ _ s
 refine Calls.spliced_cons (thn (ha pins s σ H _ I h) λu s1 ⟨x,H1,I1,r1,q1⟩=>?_)
 exact thn (hr pos pins s1 σ H1 _ I1 q1) λus s2 ⟨xs,H2,I2,r2,q2⟩=>⟨x::xs,H2,I2,.cons r1 r2,q2⟩
def tTup (t:TA):TE:=λσ H Q=>t σ H λxs H1=>xs.length<=sizeLine/\∀p,H1 p=none->Q (.ref p) (upd H1 p (.tup xs))
def tLst (t:TA):TE:=λσ H Q=>t σ H λxs H1=>xs.length<=sizeLine/\∀p,H1 p=none->Q (.ref p) (upd H1 p (.lst xs))
theorem pe_tup {x1} (h:PA X es t):PE X (.Tuple es x1 pos) (tTup t):=by
 intro pins s σ H Q I hq
 refine wpAny_Tuple_spliced (thn (h pos pins s σ H _ I hq) λus s1 ⟨xs,H1,I1,r,z,q⟩=>⟨by rw[<- r.length];exact z,?_⟩)
 have hf:H1 s1.heap.objs.size=none:=I1.hok.fresh (Nat.le_refl _)
 refine⟨.ref s1.heap.objs.size,upd H1 s1.heap.objs.size (.tup xs),I1.laid (t':=s1.toks) (λb u e=>Heap.get?_push_of_some _ e) (Nat.le_refl _) ?_,rfl,q _ hf⟩
 exact⟨z,us,r,⟨_,Heap.get?_push_size _ rfl,rfl,⟨_,rfl⟩,rfl⟩⟩
theorem pe_lst (h:PA X es t):PE X (.List es pos) (tLst t):=by
 intro pins s σ H Q I hq
 refine wpAny_List_spliced (thn (h pos pins s σ H _ I hq) λus s1 ⟨xs,H1,I1,r,z,q⟩=>⟨by rw[<- r.length];exact z,?_⟩)
 have hf:H1 s1.heap.objs.size=none:=I1.hok.fresh (Nat.le_refl _)
 refine⟨.ref s1.heap.objs.size,upd H1 s1.heap.objs.size (.lst xs),I1.laid (t':=s1.toks) (λb u e=>Heap.get?_push_of_some _ e) (Nat.le_refl _) ?_,rfl,q _ hf⟩
 exact⟨z,us,0,r,Heap.get?_push_size _ rfl⟩
end
abbrev Sp:=List V->Hp->VK->XK->Prop
abbrev CXT:=List Env->Hp->Shared->XK->Value->Shared->Prop
structure Env0 (P:Program) (w:World) (K:PySem.W.Frag) (mg:Str->Option Value) (base:Heap) (A:Around) (outer:List Env) (s:Shared) (H:Hp):Prop where
 frames:A.frames=some outer
 mod:Mod K mg base
 bs:∀b o,base.get? b=some o->s.heap.get? b=some o/\H b=none
 bsz:base.objs.size<=s.heap.objs.size
 funs:s.heap.FunFrames base outer
 frf:∀b∈frs outer,H b=none
 hok:HOk P w H s.heap
 bare:AllBare s.gens
def CE (outer:List Env) (P:Program) (w:World) (H:Hp) (s:Shared) (Q:VK) (u:Value) (s':Shared):Prop:=
 ∃v H',s'.os=s.os/\AllBare s'.gens/\Un (frs outer) [] H H' s.heap s'.heap/\HOk P w H' s'.heap/\RelV v u/\Q v H'
def CR (CX:CXT) (outer:List Env) (P:Program) (w:World) (H:Hp) (s:Shared) (Q:VK) (E:XK) (r:Result) (s':Shared):Prop:=
 match r with
 |.ok (.ret u)=>CE outer P w H s Q u s'
 |.ok _=>False
 |.error e=>CX outer H s E e s'
structure FnOk (P:Program) (w:World) (K:PySem.W.Frag) (mg:Str->Option Value) (base:Heap) (CX:CXT) (k:Nat) (f:Addr) (fd:FuncData) (ps:List Str) (sp:Sp):Prop where
 len:∀vs H Q E,sp vs H Q E->vs.length=ps.length
 run:∀(A:Around) (outer:List Env) (s:Shared) (H:Hp) (args:Args) (us:List Value) (vs:List V) (Q:VK) (E:XK),Room k A->Env0 P w K mg base A outer s H->BindsTo s fd args (ps.zip us)->Vals vs us->sp vs H Q E ->
  codeAny (model P w) A (.call (.ref f) args) (CR CX outer P w H s Q E) s
section
variable {X:Cx}{pins:List (Addr×Obj)}{σ:St}{H:Hp}{s s':Shared}
theorem Inv.env0 (I:Inv X pins σ H s):Env0 X.prog X.w X.K X.mg X.base X.A X.stack s H:=
 ⟨I.ok.frames,I.ok.mod,I.bs,Nat.le_trans I.ok.bsz I.sz,I.stack,I.stkFree,I.hok,I.bare⟩
theorem Inv.after {Q:VK}{u:Value}(I:Inv X pins σ H s) (h:CE X.stack X.prog X.w H s Q u s'):EP X pins σ Q u s':=by
 obtain⟨v,H',os,bare,un,hok,r,q⟩:=h
 obtain⟨hh,g,d,t,os'⟩:=s'
 obtain rfl:os'=s.os:=os
 exact⟨v,H',I.call (h':=hh) (g':=g) (d':=d) (t':=t) (ch:=[]) un hok bare (λb z=>absurd z (by simp)),r,q⟩
end
def tCall (sp:Sp) (dvs:List V) (E:XK) (t:TA):TE:=λσ H Q=>t σ H λvs H1=>sp (vs++dvs) H1 Q E
def Binds (K:PySem.W.Frag) (fd:FuncData) (ps:List Str) (ds:List Value):Prop:=
 ∀(s:Shared) (us:List Value),K.In s.heap->(us++ds).length=ps.length->BindsTo s fd ⟨us,[]⟩ (ps.zip (us++ds))
theorem Binds.all {K:PySem.W.Frag}{fd:FuncData}{ps:List Str}(h:∀us:List Value,us.length=ps.length->bindArgs fd ⟨us,[]⟩=pure (ps.zip us)):Binds K fd ps []:=λs us _ hl=>by
 rw[List.append_nil] at hl ⊢
 exact .of_eq (h us hl)
def Passes (CX:CXT) (X:Cx) (E:XK):Prop:=∀(pins:List (Addr×Obj)) (σ:St) (H:Hp) (s:Shared) (e:Value) (s':Shared),Inv X pins σ H s->CX X.stack H s E e s'->X.xe e s'
section
variable {X:Cx}{CX:CXT}{k:Nat}{f C:Addr}{fd:FuncData}{ps:List Str}{sp:Sp}{dvs:List V}{ds:List Value}{E:XK}{x m:Str}{p pos apos:Pos}{e o:Expr}{es:List Expr}{ta:TE}{t:TA}
theorem run_fn {pins:List (Addr×Obj)}{σ:St}{H:Hp}{s:Shared}{Q:VK}{us:List Value}{vs:List V}(F:FnOk X.prog X.w X.K X.mg X.base CX k f fd ps sp) (hr:Room k X.A) (hb:Binds X.K fd ps ds) (hd:Vals dvs ds) (hx:Passes CX X E)
  (I:Inv X pins σ H s) (r:Vals vs us) (h:sp (vs++dvs) H Q E):wpAny (model X.prog X.w) X.A (call (.ref f) us) (EP X pins σ Q) X.xe s:=by
 have r2:Vals (vs++dvs) (us++ds):=r.append hd
 have hl:(us++ds).length=ps.length:=by rw[<- r2.length];exact F.len _ _ _ _ h
 refine wpAny_call (codeAny_mono (F.run X.A X.stack s H ⟨us,[]⟩ (us++ds) (vs++dvs) Q E hr I.env0 (hb s us I.kIn hl) r2 h) λr s' hq=>?_)
 cases r with
 |error e=>exact hx pins σ H s e s' I hq
 |ok fl=>
  cases fl with
  |ret u=>exact I.after hq
  |next=>exact False.elim hq
  |brk=>exact False.elim hq
  |cont=>exact False.elim hq
theorem pe_call (F:FnOk X.prog X.w X.K X.mg X.base CX k f fd ps sp) (hr:Room k X.A) (hg:Gl X x) (hm:X.mg x=some (.ref f)) (hk:PySem.W.keepIn X.K (.ref f)=true) (hb:Binds X.K fd ps ds) (hd:Vals dvs ds) (hx:Passes CX X E)
  (ha:PA X (e::es) t) (hdb:(x==("__debug__" : Str))=false:=by decide) (he:starEach (e::es) X.env=(false,eval e X.env)::starEach es X.env:=by rfl) (hpl:(backTo pos (starEach es X.env)).any (·.1)=false:=by rfl) :
  PE X (.Call (.Name x p) (e::es) [] pos) (tCall sp dvs E t):=by
 intro pins s σ H Q I h
 refine wpAny_Call_Name_kw (ld_glob I hg hm ?_ hdb)
 refine PySem.W.callWith_K (h₀:=X.base) I.ok.mod.kin hk (thn (ha pos pins s σ H _ I h) λus s1 ⟨vs,H1,I1,r,q⟩=>⟨I1.kIn,?_⟩) he hpl
 exact run_fn F hr hb hd hx I1 r q
end
section
variable {X:Cx}{CX:CXT}{k:Nat}{f C:Addr}{fd:FuncData}{ps ks:List Str}{sp:Sp}{E:XK}{x m:Str}{p pos apos kpos:Pos}{e o:Expr}{es:List Expr}{kws:List Keyword}{te ta:TE}{t tk:TA}{nm:Option Str}
variable {g:List Value->List Value->List Value}{gV:List V->List V->List V}
end
structure FnScope (N P:List Str) (sc:Scope):Prop where
 kind:sc.kind=.function
 co:sc.isCoroutine=false
 gen:sc.isGenerator=false
 nd:N.Nodup
 pre:N.take P.length=P
 par:∀x∈P,sc.names.lookup x=some .local\/sc.names.lookup x=some .cell
 nofree:∀y∈sc.names,y.2≠.free
theorem bindL_out {kindOf:Str->Option NameKind}{x:Str}:∀{binds:List (Str×Value)}{m:Str->Option Value},(∀v,(x,v)∉binds)->bindL kindOf binds m x=m x
 |[],_,_=>rfl
 |(n,v)::r,m,h=>by
  unfold bindL
  rw[bindL_out λw hw=>h w (List.mem_cons_of_mem _ hw)]
  split
  ·have:x≠n:=by rintro rfl;exact h v List.mem_cons_self
   simp[this]
  ·rfl
theorem bindC_out {kindOf:Str->Option NameKind}{x:Str}:∀{binds:List (Str×Value)}{m:Str->Option Value},(∀v,(x,v)∉binds)->bindC kindOf binds m x=m x
 |[],_,_=>rfl
 |(n,v)::r,m,h=>by
  unfold bindC
  rw[bindC_out λw hw=>h w (List.mem_cons_of_mem _ hw)]
  split
  ·rfl
  ·have:x≠n:=by rintro rfl;exact h v List.mem_cons_self
   simp[this]
theorem bindL_get {kindOf:Str->Option NameKind}{x:Str}{v:Value}:∀{P:List Str}{vs:List Value}{i:Nat}{m:Str->Option Value},P.Nodup->P[i]?=some x->vs[i]?=some v->kindOf x=some .local ->
  bindL kindOf (P.zip vs) m x=some v
 |[],_,_,_,_,h,_,_=>by simp at h
 |_::_,[],_,_,_,_,h,_=>by simp at h
 |p::P,w::vs,0,m,nd,h1,h2,hk=>by
  simp at h1 h2;subst h1;subst h2
  show bindL kindOf ((p,w)::P.zip vs) m p=_
  unfold bindL
  rw[bindL_out λv hv=>(List.nodup_cons.mp nd).1 (List.of_mem_zip hv).1,if_pos hk]
  simp
 |p::P,w::vs,i+1,m,nd,h1,h2,hk=>by
  show bindL kindOf ((p,w)::P.zip vs) m x=_
  unfold bindL
  exact bindL_get (i:=i) (List.nodup_cons.mp nd).2 (by simpa using h1) (by simpa using h2) hk
theorem bindC_get {kindOf:Str->Option NameKind}{x:Str}{v:Value}:∀{P:List Str}{vs:List Value}{i:Nat}{m:Str->Option Value},P.Nodup->P[i]?=some x->vs[i]?=some v->kindOf x≠some .local ->
  bindC kindOf (P.zip vs) m x=some v
 |[],_,_,_,_,h,_,_=>by simp at h
 |_::_,[],_,_,_,_,h,_=>by simp at h
 |p::P,w::vs,0,m,nd,h1,h2,hk=>by
  simp at h1 h2;subst h1;subst h2
  show bindC kindOf ((p,w)::P.zip vs) m p=_
  unfold bindC
  rw[bindC_out λv hv=>(List.nodup_cons.mp nd).1 (List.of_mem_zip hv).1,if_neg hk]
  simp
 |p::P,w::vs,i+1,m,nd,h1,h2,hk=>by
  show bindC kindOf ((p,w)::P.zip vs) m x=_
  unfold bindC
  exact bindC_get (i:=i) (List.nodup_cons.mp nd).2 (by simpa using h1) (by simpa using h2) hk
def start (N:List Str) (vs:List V):St:=vs.map some++List.replicate (N.length-vs.length) none
def cxOf (CX:CXT) (P:Program) (w:World) (K:PySem.W.Frag) (mg:Str->Option Value) (base:Heap) (N:List Str) (qual:Str) (scope:Scope) (f:Addr) (cd:Value) (A:Around) (outer:List Env) (s:Shared) (H:Hp) (E:XK):Cx where
 prog:=P
 w:=w
 K:=K
 mg:=mg
 base:=base
 A:=A.deeper (envOfC qual scope s.heap.objs.size f cd)
 N:=N
 s₀:=s
 H₀:=H
 env:=envOfC qual scope s.heap.objs.size f cd
 outer:=outer
 stack:=envOfC qual scope s.heap.objs.size f cd::outer
 ex:=[]
 calm:=true
 fn:=λ_=>true
 pn:=[]
 xe:=λe s'=>wpAny (model P w) (A.deeper (envOfC qual scope s.heap.objs.size f cd)) (leaving (envOfC qual scope s.heap.objs.size f cd) e) (λ_ s''=>CX outer H s E e s'') (λe' s''=>CX outer H s E e' s'') s'
theorem cell_has {sc:Scope}{n:Nat}{x:Str}(h:sc.names.lookup x=some .cell):∃c,(cellsFrom n sc.names []).lookup x=some c:=by
 have q:=PySem.W.cellsFrom_some sc.names n [] (.inl h)
 exact Option.isSome_iff_exists.mp q
theorem inv_start {CX:CXT}{P:Program}{w:World}{K:PySem.W.Frag}{mg:Str->Option Value}{base:Heap}{N ps:List Str}{qual:Str}{scope:Scope}{f:Addr}{cd:Value}{A:Around}{outer:List Env}{s s1:Shared}{H:Hp}{E:XK}{us:List Value}{vs:List V}
  (S:FnScope N ps scope) (hd:A.handled=none) (e0:Env0 P w K mg base A outer s H) (hl:vs.length=ps.length) (r:Vals vs us)
  (x:InCallC s s.heap.objs.size (bindL (envOfC qual scope s.heap.objs.size f cd).kindOf (ps.zip us) λ_=>none) (cellsFrom (s.heap.objs.size+1) scope.names []) (bindC (envOfC qual scope s.heap.objs.size f cd).kindOf (ps.zip us) λ_=>none) s1) :
  Inv (cxOf CX P w K mg base N qual scope f cd A outer s H E) [] (start N vs) H s1:=by
 have hpl:ps.length<=N.length:=by have:=congrArg List.length S.pre;rw[List.length_take] at this;lia
 obtain⟨h1,tk,rfl,hk⟩:=x.done
 have noA:∀b:Addr,b∉(cxOf CX P w K mg base N qual scope f cd A outer s H E).ex:=λb z=>absurd (show b∈([]:List Addr) from z) (by simp)
 refine⟨⟨e0.mod,S.kind,rfl,rfl,Nat.le_refl _,λy z c h1 h2=>?_,λy hy=>?_,λy c _ h=>?_,λ_=>hd,Around.frames_deeper e0.frames,.inr ⟨rfl,rfl⟩,λb z=>absurd z (noA b),e0.bs,e0.bsz,λb _ _=>noA b,λb z=>absurd z (noA b),e0.funs,e0.frf⟩,
  rfl,e0.bare,Un.kept hk,⟨_,x.toInCall.ns,λi y v h1 h2 h3=>?_⟩,λy c h=>⟨_,x.cell y c h⟩,e0.hok.fresh (Nat.le_refl _),λy c h=>?_,λp hp=>absurd (show p∈([]:List (Addr×Obj)) from hp) (by simp),e0.hok.kept hk,?_⟩
 ·exact name_of_addr x.apart (PySem.mem_of_lookup h1) (PySem.mem_of_lookup h2)
 ·have hy:scope.names.lookup y=some .cell\/scope.names.lookup y=some .free:=hy
  rcases hy with hy|hy
  ·exact cell_has hy
  ·exact absurd rfl (S.nofree _ (PySem.mem_of_lookup hy))
 ·exact Nat.le_of_lt (x.above y c (PySem.mem_of_lookup h))
 ·have hi:i<vs.length:=by
   unfold start at h2
   by_cases hi:i<vs.length
   ·exact hi
   ·rw[List.getElem?_append_right (by simpa using hi)] at h2
    rw[List.getElem?_replicate] at h2
    split at h2<;>cases h2
  have ha:vs[i]?=some v:=by
   unfold start at h2
   rw[List.getElem?_append_left (by simpa using hi),List.getElem?_map] at h2
   cases e:vs[i]? with
   |none=>rw[e] at h2;cases h2
   |some a=>rw[e] at h2;cases h2;rfl
  obtain⟨u,hu,rv⟩:=r.get ha
  have hp:ps[i]?=some y:=by
   rw[<- S.pre,List.getElem?_take_of_lt (by lia)];exact h1
  have ndP:ps.Nodup:=by rw[<- S.pre];exact S.nd.sublist (List.take_sublist _ _)
  refine⟨u,rv,?_⟩
  rcases S.par y (List.mem_of_getElem? hp) with k|k
  ·exact .inl ⟨k,bindL_get ndP hp hu k⟩
  ·obtain⟨c,e⟩:=cell_has (n:=s.heap.objs.size+1) k
   refine .inr ⟨.inl k,c,e,?_⟩
   have q:=x.cell y c e
   rw[bindC_get ndP hp hu (by show scope.names.lookup y≠_;rw[k];decide)] at q
   exact q
 ·exact e0.hok.fresh (Nat.le_of_lt (x.above y c (PySem.mem_of_lookup h)))
 ·unfold start
  show _=N.length
  rw[List.length_append,List.length_map,List.length_replicate]
  lia
theorem fn_of {CX:CXT}{P:Program}{w:World}{K:PySem.W.Frag}{mg:Str->Option Value}{base:Heap}{k:Nat}{f:Addr}{name qual:Str}{params:Arguments}{body:List Stmt}{scope:Scope}{dV kV doc pm cdv ct oc:Value}{an od:Option Addr}
  {osl:Array (Option Value)}{N ps:List Str}{sp:Sp}(lk:K.lookup f=some ⟨oc,od,.func (PySem.W.fnOf name qual params body scope dV kV doc pm an cdv ct),osl⟩) (hcd:PySem.W.codeIn K cdv qual=true) (S:FnScope N ps scope)
  (len:∀vs H Q E,sp vs H Q E->vs.length=ps.length)
  (hbody:∀(A:Around) (outer:List Env) (s:Shared) (H:Hp) (vs:List V) (Q:VK) (E:XK),Room k (A.deeper (envOfC qual scope s.heap.objs.size f cdv))->sp vs H Q E ->
   ∃t,PSs (cxOf CX P w K mg base N qual scope f cdv A outer s H E) body t/\t { nx:=λ_ H'=>Q .non H',rt:=Q } (start N vs) H) :
  FnOk P w K mg base CX (k+1) f (PySem.W.fnOf name qual params body scope dV kV doc pm an cdv ct) ps sp:=by
 refine⟨len,λA outer s H args us vs Q E hr e0 hb r hsp=>?_⟩
 have hl:=len _ _ _ _ hsp
 have KX:K.In s.heap:=e0.mod.kin.keeps λb o e=>(e0.bs b o e).1
 have lim:s.heap.NoLimit:=e0.mod.nolimit.keeps λb o e=>(e0.bs b o e).1
 have hkind:∀y∈ps.zip us,scope.names.lookup y.1=some .local\/(scope.names.lookup y.1=some .cell/\((cellsFrom (s.heap.objs.size+1) scope.names []).lookup y.1).isSome=true):=λ⟨n,v⟩ hy=>by
  rcases S.par n (List.of_mem_zip hy).1 with q|q
  ·exact .inl q
  ·exact .inr ⟨q,PySem.W.cellsFrom_some _ _ _ (.inl q)⟩
 refine codeAny_call_function hr.depth (KX _ _ lk) rfl S.co S.gen rfl (PySem.W.codeRec_of KX hcd) (hb _ _ _ _ ?_)
 refine wpAny_newFunctionEnv_cells S.kind hkind λenv he s1 x=>?_
 subst he
 refine⟨lim.keeps x.toInCall.keep,codeAny_func ?_⟩
 obtain⟨t,ht,hq⟩:=hbody A outer s H vs Q E (hr.deeper _) hsp
 have I:Inv (cxOf CX P w K mg base N qual scope f cdv A outer s H E) [] (start N vs) H s1:=inv_start S hr.hd e0 hl r x
 refine wpAny_mono (ht [] s1 (start N vs) H _ I hq) (λfl s' hs=>?_) λe s' hs=>hs
 have fin:∀{σ':St}{H':Hp}{v:V}{u:Value},Inv (cxOf CX P w K mg base N qual scope f cdv A outer s H E) [] σ' H' s'->RelV v u->Q v H'->CE outer P w H s Q u s':=
  λ{σ' H' v u} J rv q=>⟨v,H',J.os,J.bare,J.base,J.hok,rv,q⟩
 cases fl with
 |ret u=>
  obtain⟨v,σ',H',J,rv,q⟩:=hs
  exact fin J rv q
 |next=>
  obtain⟨σ',H',J,q⟩:=hs
  exact fin (v:=V.non) (u:=Value.none) J rfl q
 |brk=>
  obtain⟨_,_,_,q⟩:=hs
  exact False.elim q
 |cont=>
  obtain⟨_,_,_,q⟩:=hs
  exact False.elim q
end L2
namespace L2
open PySem PySem.Spec PyProof.Rows
section
variable {X:Cx}{x:Str}{p pos:Pos}{e:Expr}{es:List Expr}{t:TA}{id T:String}{r:List V->Hp->VK->Prop}
def tCB (r:List V->Hp->VK->Prop) (t:TA):TE:=λσ H Q=>t σ H λvs H1=>r vs H1 Q
theorem pe_callB (hc:CallR X (.builtin id) r) (hg:Gl X x) (hm:X.mg x=none) (hv:bootBuiltins x=some (.builtin id)) (ha:PA X (e::es) t) (hn:x ≠ "__name__":=by decide) (hdb:(x==("__debug__" : Str))=false:=by decide)
  (he:starEach (e::es) X.env=(false,eval e X.env)::starEach es X.env:=by rfl) (hpl:(backTo pos (starEach es X.env)).any (·.1)=false:=by rfl):PE X (.Call (.Name x p) (e::es) [] pos) (tCB r t):=by
 intro pins s σ H Q I h
 refine wpAny_Call_Name_kw (ld_blt I hg hm hv ?_ hn hdb)
 exact PyProof.Rows.callWith_builtin1 (thn (ha pos pins s σ H _ I h) λus s1 ⟨vs,H1,I1,r1,q1⟩=>hc pins s1 σ H1 vs us Q I1 r1 q1) he hpl
theorem pe_callTy (hc:CallR X (.type T) r) (hg:Gl X x) (hm:X.mg x=none) (hv:bootBuiltins x=some (.type T)) (ha:PA X (e::es) t) (hn:x ≠ "__name__":=by decide) (hdb:(x==("__debug__" : Str))=false:=by decide)
  (he:starEach (e::es) X.env=(false,eval e X.env)::starEach es X.env:=by rfl) (hpl:(backTo pos (starEach es X.env)).any (·.1)=false:=by rfl):PE X (.Call (.Name x p) (e::es) [] pos) (tCB r t):=by
 intro pins s σ H Q I h
 refine wpAny_Call_Name_kw (ld_blt I hg hm hv ?_ hn hdb)
 exact PyProof.Rows.callWith_type1 (thn (ha pos pins s σ H _ I h) λus s1 ⟨vs,H1,I1,r1,q1⟩=>hc pins s1 σ H1 vs us Q I1 r1 q1) he hpl
end
end L2
namespace HT
open PySem PyProof.Rows
section
open PySem.SeqAt
open PySem.AutoSeq1 (wpAny_loadPart')
open PySem.MeetsSeq PySem.MeetsSeq2 PySem.MeetsSeq3
end
section
variable {prog:Program}{w:World}{A:Around}{E:Value->Shared->Prop}{s:Shared}
theorem cat_tup {t b:Addr}{vs ws:List Value}{Q:Value->Shared->Prop}(ht:IsTup s.heap t vs.toArray) (hb:IsTup s.heap b ws.toArray) (hv:vs≠[])
  (h1:ws=[]->Q (.ref t) s) (h2:ws≠[]->Q (.ref s.heap.objs.size) { s with heap:=s.heap.push { cls:=.type "tuple",data:=.seq (vs++ws).toArray } })
  (hsz:vs.length+ws.length<=sizeLine):wpAny (model prog w) A (binaryOp .Add (.ref t) (.ref b)) Q E s:=by
 obtain⟨⟨cls,dd,data,sl⟩,ho,hc,n,hd⟩:=id ht
 obtain⟨⟨cls2,dd2,data2,sl2⟩,ho2,hc2,n2,hd2⟩:=id hb
 simp only at hc hd hc2 hd2
 subst hc hd hc2 hd2
 have e:vs.toArray++ws.toArray=(vs++ws).toArray:=by simp
 by_cases hw:ws=[]
 ·exact concat_meets ⟨_,ho,rfl⟩ ⟨_,ho2,rfl⟩ noFill_tuple_add seq_tuple_add PySem.F.slot_tuple_add PySem.F.entry_tuple_add (PySem.F.args_tuple_add_2 _ _)
   (tuple_addW1 t b vs.toArray ws.toArray n n2 dd dd2 sl sl2 (by simpa using hv) (by simp[hw])) ⟨ho,ho2,h1 hw⟩
 ·refine concat_meets ⟨_,ho,rfl⟩ ⟨_,ho2,rfl⟩ noFill_tuple_add seq_tuple_add PySem.F.slot_tuple_add PySem.F.entry_tuple_add (PySem.F.args_tuple_add_2 _ _)
   (tuple_addW2 t b vs.toArray ws.toArray n n2 dd dd2 sl sl2 (by simpa using hv) (by simpa using hw) (by rw[List.size_toArray,List.size_toArray];exact hsz)) ⟨ho,ho2,?_⟩
  rw[e]
  exact h2 hw
def sIx (n d:Nat):Option Int->Nat
 |none=>d
 |some v=>if v<0 then (v+(n:Int)).toNat else min v.toNat n
theorem sIx_none (n d:Nat):sIx n d none=d:=rfl
theorem sIx_nat (n d k:Nat):sIx n d (some (k:Int))=min k n:=by
 show (if (k:Int)<0 then ((k:Int)+(n:Int)).toNat else min (k:Int).toNat n)=min k n
 rw[if_neg (by lia),Int.toNat_natCast]
theorem sIx_le (n d:Nat) (hd:d<=n) (o:Option Int):sIx n d o<=n:=by
 cases o with
 |none=>exact hd
 |some v=>
  show (if v<0 then (v+(n:Int)).toNat else min v.toNat n)<=n
  by_cases hv:v<0
  ·rw[if_pos hv];lia
  ·rw[if_neg hv];exact Nat.min_le_right _ _
theorem clip_eq (v:Int) (n d:Nat):(if v<0 then max (v+(n:Int)) 0 else min v (n:Int))=((sIx n d (some v):Nat):Int):=by
 show (if v<0 then max (v+(n:Int)) 0 else min v (n:Int))=(((if v<0 then (v+(n:Int)).toNat else min v.toNat n):Nat):Int)
 by_cases hv:v<0
 ·simp only[if_pos hv];lia
 ·simp only[if_neg hv];lia
theorem adjust_gen (lo hi:Option Int) (n:Nat):Builtin.Slice.sliceAdjust lo hi 1 (n:Int)=(((sIx n 0 lo:Nat):Int),((sIx n n hi:Nat):Int)):=by
 have h1:¬((1:Int)<0):=by lia
 unfold Builtin.Slice.sliceAdjust
 simp only[h1,if_false]
 refine Prod.ext ?_ ?_
 ·cases lo with
  |none=>rfl
  |some v=>exact clip_eq v n 0
 ·cases hi with
  |none=>rfl
  |some v=>exact clip_eq v n n
theorem places_gen (i j:Nat):Builtin.Slice.slicePlaces (i:Int) (j:Int) 1=j-i:=by
 unfold Builtin.Slice.slicePlaces
 have h1:(1:Int)>0:=by lia
 simp only[h1,if_true,Int.ediv_one]
 split<;>lia
theorem slicePart_ {v:Value}{o:Option Int}{Q:Option Int->Shared->Prop}(p:IsPart v o) (h:Q o s):wpAny (model prog w) A (Builtin.Slice.slicePartIndex v) Q E s:=by
 cases p with
 |none=>exact slicePart_none h
 |int i t=>exact slicePart_int h
theorem sliceApplied_gen {sl:Addr}{vl vu:Value}{lo hi:Option Int}{n:Nat}{Q:Int×Int×Nat->Shared->Prop}(hs:s.heap.IsSliceOf sl vl vu .none) (pl:IsPart vl lo) (pu:IsPart vu hi)
  (h:Q (((sIx n 0 lo:Nat):Int),1,sIx n n hi-sIx n 0 lo) s):wpAny (model prog w) A (Builtin.Slice.sliceApplied (.ref sl) (pure (n:Int))) Q E s:=by
 obtain⟨os,hos,hcs,hds⟩:=id hs
 unfold Builtin.Slice.sliceApplied Builtin.Slice.sliceFields
 refine wpAny_bind (wpAny_bind (wpAny_field hos hds (x:=vl) rfl (wpAny_bind (wpAny_field hos hds (x:=vu) rfl (wpAny_bind (wpAny_field hos hds (x:=.none) rfl (wpAny_pure ?_)))))))
 refine wpAny_bind (slicePart_none ?_)
 show wpAny _ _ (if ((1:Int)==0)=true then _ else _) _ _ s
 rw[if_neg (by decide)]
 refine wpAny_bind (slicePart_ pl (wpAny_bind (slicePart_ pu (wpAny_bind (wpAny_pure ?_)))))
 show wpAny _ _ (match Builtin.Slice.sliceAdjust lo hi 1 (n:Int) with|(lo,hi)=>pure (lo,(1:Int),Builtin.Slice.slicePlaces lo hi 1)) _ _ s
 rw[adjust_gen lo hi n]
 show wpAny _ _ (pure (((sIx n 0 lo:Nat):Int),(1:Int),Builtin.Slice.slicePlaces ((sIx n 0 lo:Nat):Int) ((sIx n n hi:Nat):Int) 1)) _ _ s
 rw[places_gen]
 exact wpAny_pure h
theorem pick_gen (xs:Array Value) (i k:Nat):((List.range k).filterMap λ(m:Nat)=>xs[((i:Int)+(m:Int)*1).toNat]?).toArray=((xs.toList.drop i).take k).toArray:=by
 have e:(λ(m:Nat)=>xs[((i:Int)+(m:Int)*1).toNat]?)=λm=>xs[i+m]?:=by
  funext m
  have:((i:Int)+(m:Int)*1).toNat=i+m:=by lia
  rw[this]
 rw[e]
 have:=pick_run xs i k
 rw[List.filterMap_map] at this
 have e2:((λx=>xs[x]?)∘λx=>i+x)=λm=>xs[i+m]?:=rfl
 rw[e2] at this
 rw[this]
theorem getItem_tuple_cut {t sl:Addr}{items:Array Value}{vl vu:Value}{lo hi:Option Int}{Q:Value->Shared->Prop}(ht:IsTup s.heap t items) (hs:s.heap.IsSliceOf sl vl vu .none) (pl:IsPart vl lo) (pu:IsPart vu hi)
  (hw:¬(sIx items.size 0 lo=0/\sIx items.size items.size hi=items.size))
  (h:Q (.ref s.heap.objs.size) { s with heap:=s.heap.push { cls:=.type "tuple",data:=.seq ((items.toList.drop (sIx items.size 0 lo)).take (sIx items.size items.size hi-sIx items.size 0 lo)).toArray } })
  (hsz:items.size<=sizeLine):wpAny (model prog w) A (getItem (.ref t) (.ref sl)) Q E s:=by
 have htake:sizeOk (.seq ((items.toList.drop (sIx items.size 0 lo)).take (sIx items.size items.size hi-sIx items.size 0 lo)).toArray):=by
  show ((items.toList.drop (sIx items.size 0 lo)).take (sIx items.size items.size hi-sIx items.size 0 lo)).toArray.size<=sizeLine
  rw[List.size_toArray,List.length_take,List.length_drop,Array.length_toList]
  lia
 have hj:sIx items.size items.size hi<=items.size:=sIx_le _ _ (Nat.le_refl _) hi
 obtain⟨os,hos,hcs,hds⟩:=id hs
 have hTs:s.TypeIs (.ref sl) "slice":=⟨os,hos,hcs⟩
 unfold getItem
 try with_reducible refine wpAny_holding ?_
 first|refine wpAny_bind (wpAny_pure ?_)|skip
 refine wpAny_bind (wpAny_sequenceKey ht.typeIs (by decide) ?_)
 refine wpAny_bind (wpAny_callSpecial?_slot (name:=Str.ofString "__getitem__") ht.typeIs PyProof.Rows.slot_tuple_getitem
  (wpAny_call_entry PyProof.Rows.slot_tuple_getitem ht.typeIs entry_tuple_getitem ?_ (args_tuple_getitem _ _)))
 show wpAny _ _ (Builtin.Tuple.tupleItemsOf (.ref t) >>= _) _ _ s
 refine wpAny_bind (tupleItemsOf_ ht ?_)
 refine wpAny_bind (wpAny_typeOf hTs ?_)
 rw[if_pos (by decide)]
 refine wpAny_bind (sliceApplied_gen hs pl pu ?_)
 have hno:¬((((sIx items.size 0 lo:Nat):Int)==0&&(1:Int)==1&&(sIx items.size items.size hi-sIx items.size 0 lo)==items.size)=true):=by
  intro q
  rw[Bool.and_eq_true,Bool.and_eq_true] at q
  have q1:((sIx items.size 0 lo:Nat):Int)=0:=eq_of_beq q.1.1
  have q2:sIx items.size items.size hi-sIx items.size 0 lo=items.size:=eq_of_beq q.2
  exact hw ⟨by lia,by lia⟩
 show wpAny _ _ (if (((sIx items.size 0 lo:Nat):Int)==0&&(1:Int)==1&&(sIx items.size items.size hi-sIx items.size 0 lo)==items.size)=true then _ else _) _ _ s
 rw[if_neg hno,pick_gen]
 first
  |exact wpAny_bind (m:=Builtin.Tuple.tupleExact _) (wpAny_newObj_type (wpAny_pure ⟨_,rfl,wpAny_pure h⟩) htake)
  |exact wpAny_bind (m:=Builtin.Tuple.tupleExact _) (wpAny_newObj_type (wpAny_bind (wpAny_pure (wpAny_pure ⟨_,rfl,wpAny_pure h⟩))) htake)
  |exact wpAny_bind (wpAny_bind (m:=Builtin.Tuple.tupleExact _) (wpAny_newObj_type (wpAny_pure (wpAny_pure ⟨_,rfl,wpAny_pure h⟩)) htake))
  |exact wpAny_bind (wpAny_bind (m:=Builtin.Tuple.tupleExact _) (wpAny_newObj_type (wpAny_pure ⟨_,rfl,wpAny_pure h⟩) htake))
end
end HT
namespace L2
open PySem PySem.Spec PyProof.Rows
abbrev TO:=St->Hp->(Option Int->Hp->Prop)->Prop
def PO (X:Cx) (e:Option Expr) (t:TO):Prop:=
 ∀(pins:List (Addr×Obj)) (s:Shared) (σ:St) (H:Hp) (Q:Option Int->Hp->Prop),Inv X pins σ H s->t σ H Q ->
  wpAny (model X.prog X.w) X.A (evalPart e X.env) (λu s'=>∃o H',Inv X pins σ H' s'/\IsPart u o/\Q o H') X.xe s
def tNoPart:TO:=λ_ H Q=>Q none H
def tPart (t:TE):TO:=λσ H Q=>t σ H λx H1=>∃i,x=.int i/\Q (some i) H1
section
variable {X:Cx}{e:Expr}{te:TE}{lo hi:Option Expr}{tl th:TO}{pos p2:Pos}
theorem po_none:PO X none tNoPart:=by
 intro pins s σ H Q I h
 rw[evalPart_none]
 exact wpAny_pure ⟨none,H,I,.none,h⟩
theorem po_some (h:PE X e te):PO X (some e) (tPart te):=by
 intro pins s σ H Q I hw
 rw[evalPart_some]
 refine thn (h pins s σ H _ I hw) λu s1 ⟨x,H1,I1,r1,q1⟩=>?_
 obtain⟨i,rfl,q⟩:=q1
 obtain⟨t,rfl⟩:=r1
 exact⟨some i,H1,I1,.int i t,q⟩
def SlR (X:Cx) (r:V->Option Int->Option Int->Hp->VK->Prop):Prop:=
 ∀(pins:List (Addr×Obj)) (s:Shared) (σ:St) (H:Hp) (x:V) (v vl vu:Value) (lo hi:Option Int) (sl:Addr) (Q:VK),Inv X pins σ H s->RelV x v->s.heap.IsSliceOf sl vl vu .none->IsPart vl lo->IsPart vu hi->r x lo hi H Q ->
  ∃T id,typeLookup (.type T) "__getitem__" = pure (some (.builtin id))/\s.TypeIs v T/\wpAny (model X.prog X.w) X.A (getItem v (.ref sl)) (EP X pins σ Q) X.xe s
def tSl (r:V->Option Int->Option Int->Hp->VK->Prop) (te:TE) (tl th:TO):TE:=λσ H Q=>te σ H λx H1=>tl σ H1 λl H2=>th σ H2 λu H3=>r x l u H3 Q
theorem pe_slice {r:V->Option Int->Option Int->Hp->VK->Prop}(hr:SlR X r) (he:PE X e te) (hl:PO X lo tl) (hu:PO X hi th):PE X (.Subscript e (.Slice lo hi none p2) pos) (tSl r te tl th):=by
 intro pins s σ H Q I h
 refine Subscript_ (thn (he pins s σ H _ I h) λv s1 ⟨x,H1,I1,r1,q1⟩=>?_)
 refine wpAny_Slice (thn (hl pins s1 σ H1 _ I1 q1) λvl s2 ⟨l,H2,I2,pl,q2⟩=>thn (hu pins s2 σ H2 _ I2 q2) λvu s3 ⟨u,H3,I3,pu,q3⟩=>?_)
 rw[evalPart_none]
 refine wpAny_pure ?_
 have I4:Inv X pins σ H3 { s3 with heap:=s3.heap.push { cls:=.type "slice",data:=.fields #[vl,vu,.none] } }:=I3.kept (t':=s3.toks) λb ob q=>Heap.get?_push_of_some _ q
 obtain⟨T,id,hT,ht,hg⟩:=hr pins { s3 with heap:=s3.heap.push { cls:=.type "slice",data:=.fields #[vl,vu,.none] } } σ H3 x v vl vu l u s3.heap.objs.size Q I4 r1 (Heap.IsSliceOf.new ..) pl pu q3
 show wpAny (model X.prog X.w) X.A (subscriptTail e (.Slice lo hi none p2) v (.ref s3.heap.objs.size)) (EP X pins σ Q) X.xe { s3 with heap:=s3.heap.push { cls:=.type "slice",data:=.fields #[vl,vu,.none] } }
 exact tail_any (ops:=[.ref s3.heap.objs.size,v]) ht hT hg (by with_unfolding_all rfl)
def cutV (xs:List V) (lo hi:Option Int):List V:=(xs.drop (HT.sIx xs.length 0 lo)).take (HT.sIx xs.length xs.length hi-HT.sIx xs.length 0 lo)
theorem cutV_length (xs:List V) (lo hi:Option Int):(cutV xs lo hi).length<=xs.length:=by
 unfold cutV
 rw[List.length_take,List.length_drop]
 lia
def rSlT (K:PySem.W.Frag):V->Option Int->Option Int->Hp->VK->Prop:=λx lo hi H Q=>∃a xs,x=.ref a/\SqT K H a xs /\
 ¬(HT.sIx xs.length 0 lo=0/\HT.sIx xs.length xs.length hi=xs.length)/\∀p,H p=none->Q (.ref p) (upd H p (.tup (cutV xs lo hi)))
theorem sl_tup:SlR X (rSlT X.K):=by
 intro pins s σ H x v vl vu lo hi sl Q I rx hs pl pu h
 obtain⟨a,xs,rfl,hx,hw,q⟩:=h
 cases rx
 obtain⟨its,r,ht,hz⟩:=I.tuple hx
 have hlen:its.toArray.size=xs.length:=by rw[List.size_toArray];exact r.length.symm
 refine⟨"tuple",_,PyProof.Rows.slot_tuple_getitem.lookup,ht.typeIs,?_⟩
 refine HT.getItem_tuple_cut ht hs pl pu (by rw[hlen];exact hw) ?_ (by rw[hlen];exact hz)
 rw[hlen]
 refine⟨.ref s.heap.objs.size,_,I.laid (t':=s.toks) (o:=.tup (cutV xs lo hi)) (λb ob q=>Heap.get?_push_of_some _ q) (Nat.le_refl _) ?_,rfl,q _ (I.hok.fresh (Nat.le_refl _))⟩
 exact⟨Nat.le_trans (cutV_length xs lo hi) hz,_,(r.drop (HT.sIx xs.length 0 lo)).take (HT.sIx xs.length xs.length hi-HT.sIx xs.length 0 lo),IsTupX.new _ _⟩
def rCatT (K:PySem.W.Frag):R2:=λx y H Q=>∃a b xs ys,x=.ref a/\y=.ref b/\SqT K H a xs/\SqT K H b ys/\xs≠[]/\xs.length+ys.length<=sizeLine /\
 (ys=[]->Q (.ref a) H)/\(ys≠[]->∀p,H p=none->Q (.ref p) (upd H p (.tup (xs++ys))))
theorem Vals.nil_iff {xs:List V}{us:List Value}(r:Vals xs us):us=[]<->xs=[]:=by
 cases r with
 |nil=>simp
 |cons _ _=>simp
theorem op_catT:OpR X (binaryOp .Add) (rCatT X.K):=by
 intro pins s σ H x y v u Q I rx ry h
 obtain⟨a,b,xs,ys,rfl,rfl,ha,hb,hx,hz,q1,q2⟩:=h
 cases rx
 cases ry
 obtain⟨its,r1,p1,_⟩:=I.tuple ha
 obtain⟨its2,r2,p2,_⟩:=I.tuple hb
 refine HT.cat_tup p1 p2 (λz=>hx (r1.nil_iff.mp z)) (λz=>⟨.ref a,H,I,rfl,q1 (r2.nil_iff.mp z)⟩) (λz=>?_) (by rw[<- r1.length,<- r2.length];exact hz)
 refine⟨.ref s.heap.objs.size,_,I.laid (t':=s.toks) (o:=.tup (xs++ys)) (λb ob q=>Heap.get?_push_of_some _ q) (Nat.le_refl _) ?_,rfl,q2 (λw=>z (r2.nil_iff.mpr w)) _ (I.hok.fresh (Nat.le_refl _))⟩
 exact⟨by rw[List.length_append];exact hz,_,r1.append r2,IsTupX.new _ _⟩
end
end L2
namespace L2
open PySem PySem.Spec PyProof.Rows
def ixN (n:Nat) (i:Int):Option Nat:=if 0<=i then (if i<n then some i.toNat else none) else if -(n:Int)<=i then some (i+n).toNat else none
def atI {α:Type}(xs:List α) (i:Int):Option α:=(ixN xs.length i).bind λj=>xs[j]?
theorem ixN_seq {n:Nat}{i:Int}{j:Nat}(h:ixN n i=some j):seqIndex? i n=some j/\j<n/\-(n:Int)<=i/\i<n:=by
 unfold ixN at h
 by_cases h0:0<=i
 ·rw[if_pos h0] at h
  by_cases h1:i<n
  ·rw[if_pos h1] at h
   have e:i.toNat=j:=Option.some.inj h
   exact⟨by rw[seqIndex_of h0 h1,e],by lia,by lia,h1⟩
  ·rw[if_neg h1] at h;cases h
 ·rw[if_neg h0] at h
  by_cases h1:-(n:Int)<=i
  ·rw[if_pos h1] at h
   have e:(i+n).toNat=j:=Option.some.inj h
   exact⟨by rw[seqIndex_neg (by lia) h1,e],by lia,h1,by lia⟩
  ·rw[if_neg h1] at h;cases h
theorem atI_get {α:Type}{xs:List α}{i:Int}{v:α}(h:atI xs i=some v):∃j,seqIndex? i xs.length=some j/\xs[j]?=some v/\j<xs.length/\-(xs.length:Int)<=i/\i<xs.length:=by
 unfold atI at h
 cases e:ixN xs.length i with
 |none=>rw[e] at h;cases h
 |some j=>
  rw[e] at h
  obtain⟨h1,h2,h3,h4⟩:=ixN_seq e
  exact⟨j,h1,h,h2,h3,h4⟩
theorem atI_nat {α:Type}{xs:List α}{j:Nat}{v:α}(h:xs[j]?=some v):atI xs (j:Int)=some v:=by
 have hj:j<xs.length:=(List.getElem?_eq_some_iff.mp h).1
 have e:ixN xs.length (j:Int)=some j:=by
  unfold ixN
  rw[if_pos (by lia),if_pos (by lia)];simp
 unfold atI;rw[e];exact h
def PlainIx (b:Expr):Prop:=∀o i,subscripted b false o i=operate [o,i] (getItem o i)
def IxR (X:Cx) (r:R2):Prop:=
 ∀(value slice:Expr) (pins:List (Addr×Obj)) (s:Shared) (σ:St) (H:Hp) (x y:V) (v u:Value) (Q:VK),Inv X pins σ H s->RelV x v->RelV y u->r x y H Q ->
  subscripted slice false v u=operate [v,u] (getItem v u)->wpAny (model X.prog X.w) X.A (subscriptTail value slice v u) (EP X pins σ Q) X.xe s
def MtR (X:Cx) (id:String) (r:V->List V->Hp->VK->Prop):Prop:=
 ∀(pins:List (Addr×Obj)) (s:Shared) (σ:St) (H:Hp) (x:V) (xs:List V) (v:Value) (us:List Value) (Q:VK),Inv X pins σ H s->RelV x v->Vals xs us->r x xs H Q ->
  wpAny (model X.prog X.w) X.A (call (.builtin id) (v::us)) (EP X pins σ Q) X.xe s
section
variable {X:Cx}{a b:Expr}{ta tb:TE}{pos:Pos}
theorem pe_ix {r:R2}(hr:IxR X r) (ha:PE X a ta) (hb:PE X b tb) (hs:PlainIx b):PE X (.Subscript a b pos) (tOp r ta tb):=by
 intro pins s σ H Q I h
 exact Subscript_ (binT ha hb I h λv u s2 x y H2 I2 rx ry q=>hr a b pins s2 σ H2 x y v u Q I2 rx ry q (hs _ _))
def rIxL (K:PySem.W.Frag):R2:=λx y H Q=>∃p xs i v,x=.ref p/\y=.int i/\SqL K H p xs/\atI xs i=some v/\Q v H
def rIxT (K:PySem.W.Frag):R2:=λx y H Q=>∃p xs i v,x=.ref p/\y=.int i/\SqT K H p xs/\atI xs i=some v/\Q v H
theorem ix_list:IxR X (rIxL X.K):=by
 intro value slice pins s σ H x y v u Q I rx ry h hs
 obtain⟨p,xs,i,z,rfl,rfl,hq,he,q⟩:=h
 cases rx
 obtain⟨t,rfl⟩:=ry
 obtain⟨its,r,pl,hz⟩:=I.list hq
 obtain⟨j,h1,h2,h3,h4,h5⟩:=atI_get he
 obtain⟨w,ew,rw'⟩:=r.get h2
 have hl:=r.length
 have hn:=line63
 have fin:EP X pins σ Q w s:=⟨z,H,I,rw',q⟩
 by_cases h0:0<=i
 ·have hj:i.toNat=j:=by
   rw[seqIndex_of h0 h5] at h1
   exact Option.some.inj h1
  exact item_listR pl.isList h0 (by lia) (by rw[hj];simpa using ew) fin hs
 ·have hj:(i+(its.toArray.size:Int)).toNat=j:=by
   rw[seqIndex_neg (by lia) h4] at h1
   rw[List.size_toArray,<- hl]
   exact Option.some.inj h1
  exact subscriptTail_builtinR (x:=w) pl.isList.typeIs slot_list_getitem.lookup
   (wpAny_getItem_list_neg (Q:=λr s'=>r=w/\EP X pins σ Q r s') pl.isList (by lia) (by rw[List.size_toArray]<;>lia) (by lia) (by rw[hj];simpa using ew) ⟨rfl,fin⟩) hs
theorem ix_tup:IxR X (rIxT X.K):=by
 intro value slice pins s σ H x y v u Q I rx ry h hs
 obtain⟨p,xs,i,z,rfl,rfl,hq,he,q⟩:=h
 cases rx
 obtain⟨t,rfl⟩:=ry
 obtain⟨its,r,pl,hz⟩:=I.tuple hq
 obtain⟨j,h1,h2,h3,h4,h5⟩:=atI_get he
 obtain⟨w,ew,rw'⟩:=r.get h2
 have hl:=r.length
 have hn:=line63
 have fin:EP X pins σ Q w s:=⟨z,H,I,rw',q⟩
 exact subscriptTail_builtinR (x:=w) pl.typeIs slot_tuple_getitem.lookup
  (getItem_tuple (j:=j) (Q:=λr s'=>r=w/\EP X pins σ Q r s') pl (by lia) (by lia) (by rw[List.size_toArray,<- hl];exact h1) (by simpa using ew) ⟨rfl,fin⟩) hs
theorem mapSeq_set (its:List Value) (n j:Nat) (u:Value):Obj.mapSeq (·.setIfInBounds j u) { cls:=.type "list",data:=.seq its.toArray n }={ cls:=.type "list",data:=.seq (its.set j u).toArray n }:=by
 simp[Obj.mapSeq]
theorem Inv.lst {pins:List (Addr×Obj)}{σ:St}{H:Hp}{s:Shared}{p:Addr}{xs:List V}(I:Inv X pins σ H s) (h:H p=some (.lst xs)) :
  ∃(its:List Value) (n:Nat),Vals xs its/\s.heap.get? p=some { cls:=.type "list",data:=.seq its.toArray n }/\xs.length<=sizeLine:=by
 obtain⟨z,its,n,r,e⟩:=I.hok p _ h
 exact⟨its,n,r,e,z⟩
theorem Inv.lstUpd {pins:List (Addr×Obj)}{σ:St}{H:Hp}{s:Shared}{p:Addr}{xs ys:List V}{its its':List Value}{n n':Nat}{f:Obj->Obj}(I:Inv X pins σ H s) (h:H p=some (.lst xs))
  (ho:s.heap.get? p=some { cls:=.type "list",data:=.seq its.toArray n }) (hf:f { cls:=.type "list",data:=.seq its.toArray n }={ cls:=.type "list",data:=.seq its'.toArray n' }) (r:Vals ys its') (hz:ys.length<=sizeLine) (t:Nat) :
  Inv X pins σ (upd H p (.lst ys)) { s with heap:=s.heap.update p f,toks:=t }:=by
 have e:(s.heap.update p f).get? p=some { cls:=.type "list",data:=.seq its'.toArray n' }:=by
  rw[Heap.get?_update_self f ho (by rw[hf]<;>rfl),hf]
 refine I.write (x:=p) (e:=p) (by rw[h];trivial) (.inl rfl) (λb u hb q=>(Heap.get?_update_other _ _ (Ne.symm hb)).trans q) ⟨_,e⟩ ?_
 exact⟨hz,its',n',r,e⟩
def rSetL:V->V->V->Hp->(Hp->Prop)->Prop:=λo i v H Q=>∃p xs k j,o=.ref p/\i=.int k/\H p=some (.lst xs)/\ixN xs.length k=some j/\Q (upd H p (.lst (xs.set j v)))
theorem set_list:PSet X rSetL:=by
 intro pins s σ H o i v ov iv u Q I ro ri rv h
 obtain⟨p,xs,k,j,rfl,rfl,hp,hj,q⟩:=h
 cases ro
 obtain⟨t,rfl⟩:=ri
 obtain⟨its,n,r,ho,hz⟩:=I.lst hp
 obtain⟨h1,h2,h3,h4⟩:=ixN_seq hj
 have hl:=r.length
 have hn:=line63
 have I':Inv X pins σ (upd H p (.lst (xs.set j v))) { s with heap:=s.heap.update p (Obj.mapSeq (·.setIfInBounds j u)) }:=
  I.lstUpd hp ho (mapSeq_set its n j u) (r.set rv j) (by rw[List.length_set];exact hz) s.toks
 by_cases h0:0<=k
 ·have hk:k.toNat=j:=by
   rw[seqIndex_of h0 h4] at h1
   exact Option.some.inj h1
  exact PySem.W.ki_setAt ho h0 (by lia) (by rw[List.size_toArray,<- hl];exact h4) (by rw[hk];exact⟨_,I',q⟩)
 ·have hk:(k+(its.toArray.size:Int)).toNat=j:=by
   rw[seqIndex_neg (by lia) h3] at h1
   rw[List.size_toArray,<- hl]
   exact Option.some.inj h1
  exact PySem.W.ki_setBack ho (by lia) (by rw[List.size_toArray,<- hl];exact h3) (by lia) (by rw[hk];exact⟨_,I',q⟩)
def flatV:V->Bool
 |.non=>true
 |.bl _=>true
 |.int _=>true
 |.str _=>true
 |_=>false
def eqV:V->V->Bool
 |.non,.non=>true
 |.bl a,.bl b=>a==b
 |.bl a,.int b=>(if a then 1 else 0)==b
 |.int a,.bl b=>a==(if b then 1 else 0)
 |.int a,.int b=>a==b
 |.str a,.str b=>a==b
 |_,_=>false
theorem eqAt_V {A:Around}{s:Shared}{y x:V}{u v:Value}(ry:RelV y u) (rx:RelV x v) (fy:flatV y=true) (fx:flatV x=true):SeqAt.EqAt A s u v (eqV y x):=by
 cases y with
 |non=>
  cases ry
  cases x with
  |non=>cases rx;exact SeqAt.EqAt.same _
  |bl b=>cases rx;exact SeqAt.EqAt.none_bool b
  |int b=>obtain⟨t,rfl⟩:=rx;exact SeqAt.EqAt.none_int b t
  |str b=>obtain⟨t,rfl⟩:=rx;exact SeqAt.EqAt.none_str b t
  |_=>exact absurd (show false=true from fx) Bool.false_ne_true
 |bl a=>
  cases ry
  cases x with
  |non=>cases rx;exact SeqAt.EqAt.bool_none a
  |bl b=>cases rx;exact SeqAt.EqAt.bool_bool a b
  |int b=>obtain⟨t,rfl⟩:=rx;exact SeqAt.EqAt.bool_int a b t
  |str b=>obtain⟨t,rfl⟩:=rx;exact SeqAt.EqAt.bool_str a b t
  |_=>exact absurd (show false=true from fx) Bool.false_ne_true
 |int a=>
  obtain⟨t',rfl⟩:=ry
  cases x with
  |non=>cases rx;exact SeqAt.EqAt.int_none a t'
  |bl b=>cases rx;exact SeqAt.EqAt.int_bool a t' b
  |int b=>obtain⟨t,rfl⟩:=rx;exact SeqAt.EqAt.int_int a t' b t
  |str b=>obtain⟨t,rfl⟩:=rx;exact SeqAt.EqAt.int_str a t' b t
  |_=>exact absurd (show false=true from fx) Bool.false_ne_true
 |str a=>
  obtain⟨t',rfl⟩:=ry
  cases x with
  |non=>cases rx;exact SeqAt.EqAt.str_none a t'
  |bl b=>cases rx;exact SeqAt.EqAt.str_bool a t' b
  |int b=>obtain⟨t,rfl⟩:=rx;exact SeqAt.EqAt.str_int a t' b t
  |str b=>obtain⟨t,rfl⟩:=rx;exact SeqAt.EqAt.str_str a t' b t
  |_=>exact absurd (show false=true from fx) Bool.false_ne_true
 |_=>exact absurd (show false=true from fy) Bool.false_ne_true
def eqU (x:V) (u:Value):Bool:=match u with
 |.none=>eqV .non x
 |.bool b=>eqV (.bl b) x
 |.int i _=>eqV (.int i) x
 |.str z _=>eqV (.str z) x
 |_=>false
theorem eqU_of {x y:V}{u:Value}(r:RelV y u) (f:flatV y=true):eqU x u=eqV y x:=by
 cases y with
 |non=>cases r;rfl
 |bl b=>cases r;rfl
 |int i=>obtain⟨t,rfl⟩:=r;rfl
 |str z=>obtain⟨t,rfl⟩:=r;rfl
 |_=>exact absurd (show false=true from f) Bool.false_ne_true
theorem any_eqU {x:V}:∀{xs:List V}{us:List Value},Vals xs us->xs.all flatV=true->us.any (eqU x)=xs.any λy=>eqV y x
 |_,_,.nil,_=>rfl
 |y::xs,u::us,.cons r t,f=>by
  rw[List.all_cons,Bool.and_eq_true] at f
  rw[List.any_cons,List.any_cons,eqU_of r f.1,any_eqU t f.2]
theorem mem_eqAt {A:Around}{s:Shared}{x:V}{v:Value}(rx:RelV x v) (fx:flatV x=true):∀{xs:List V}{us:List Value},Vals xs us->xs.all flatV=true->∀u∈us,SeqAt.EqAt A s u v (eqU x u)
 |_,_,.nil,_=>λu hu=>by cases hu
 |y::xs,u::us,.cons r t,f=>λu' hu=>by
  rw[List.all_cons,Bool.and_eq_true] at f
  rcases List.mem_cons.mp hu with rfl|hu
  ·rw[eqU_of r f.1];exact eqAt_V r rx f.1 fx
  ·exact mem_eqAt rx fx t f.2 u' hu
def inV (x:V) (xs:List V):Bool:=xs.any λy=>eqV y x
def rIn (K:PySem.W.Frag) (neg:Bool):R2:=λx y H Q=>∃p xs,y=.ref p/\(SqL K H p xs\/SqT K H p xs)/\flatV x=true/\xs.all flatV=true/\Q (.bl (if neg then !inV x xs else inV x xs)) H
theorem op_notIn_seq:OpR X (compareOp .NotIn) (rIn X.K true):=by
 intro pins s σ H x y v u Q I rx ry h
 obtain⟨p,xs,rfl,hq,fx,fs,q⟩:=h
 cases ry
 rcases hq with hq|hq
 ·obtain⟨its,r,pl,hz⟩:=I.list hq
  refine SeqAt.notIn_listAt (eqU x) pl.isList (λw hw=>mem_eqAt rx fx r fs w (by simpa using hw)) ⟨.bl _,H,I,rfl,?_⟩
  rw[show its.toArray.any (eqU x)=its.any (eqU x) by simp,any_eqU r fs]
  exact q
 ·obtain⟨its,r,pl,hz⟩:=I.tuple hq
  refine SeqAt.notIn_tupleAt (eqU x) pl (λw hw=>mem_eqAt rx fx r fs w (by simpa using hw)) ⟨.bl _,H,I,rfl,?_⟩
  rw[show its.toArray.any (eqU x)=its.any (eqU x) by simp,any_eqU r fs]
  exact q
theorem call_len_seq:CallR X (.builtin "len") (λxs H Q=>∃p ys,xs=[.ref p]/\(SqL X.K H p ys\/SqT X.K H p ys)/\Q (.int ys.length) H):=by
 intro pins s σ H xs us Q I r h
 obtain⟨p,ys,rfl,hq,q⟩:=h
 obtain⟨u,rfl,rx⟩:=vals1 r
 cases rx
 have hn:=line63
 rcases hq with hq|hq
 ·obtain⟨its,r',pl,hz⟩:=I.list hq
  have hlen:=r'.length
  exact Calls.call_len_list pl.isList (by simp only[List.size_toArray]<;>lia) ⟨.int ys.length,H,I.tok _,⟨s.toks+1,by rw[List.size_toArray,hlen]⟩,q⟩
 ·obtain⟨its,r',pl,hz⟩:=I.tuple hq
  have hlen:=r'.length
  exact len_tuple pl (by simp only[List.size_toArray]<;>lia) ⟨.int ys.length,H,I.tok _,⟨s.toks+1,by rw[List.size_toArray,hlen]⟩,q⟩
theorem call_tuple_of:CallR X (.type "tuple") (λxs H Q=>∃p ys,xs=[.ref p]/\((SqL X.K H p ys/\∀l,H l=none->Q (.ref l) (upd H l (.tup ys)))\/(SqT X.K H p ys/\Q (.ref p) H))):=by
 intro pins s σ H xs us Q I r h
 obtain⟨p,ys,rfl,h⟩:=h
 obtain⟨u,rfl,rx⟩:=vals1 r
 cases rx
 rcases h with ⟨hq,q⟩|⟨hq,q⟩
 ·obtain⟨its,r',pl,hz⟩:=I.list hq
  have hlen:=r'.length
  refine call_tuple_list pl.isList (λh' kp=>?_) (by simp only[List.size_toArray]<;>lia)
  have I1:Inv X pins σ H { s with heap:=h' }:=I.kept (t':=s.toks) kp
  have I2:Inv X pins σ (upd H h'.objs.size (.tup ys)) { s with heap:=h'.push { cls:=.type "tuple",data:=.seq its.toArray } }:=
   I1.laid (t':=s.toks) (λb o e=>Heap.get?_push_of_some _ e) (Nat.le_refl _) (show ObjOk X.prog X.w _ _ _ (.tup ys) from ⟨hz,its,r',IsTupX.new _ _⟩)
  exact⟨.ref h'.objs.size,_,I2,rfl,q _ (I1.hok.fresh (Nat.le_refl _))⟩
 ·obtain⟨its,r',pl,hz⟩:=I.tuple hq
  exact call_tuple_same pl ⟨.ref p,H,I,rfl,q⟩
def tyV (K:PySem.W.Frag) (T:String) (x:V) (H:Hp):Prop:=match x with
 |.str _=>T = "str"
 |.int _=>T = "int"
 |.ref p=>(T = "list" /\ ∃xs,SqL K H p xs)\/(T = "tuple" /\ ∃o,K.lookup p=some o/\o.cls=.type "tuple" /\ o.dict=none) \/
   (T = "dict" /\ ((∃kvs,H p=some (.dK kvs))\/∃kvs,H p=some (.dT kvs)))\/(T = "set" /\ ∃S n,H p=some (.set S n))
 |_=>False
theorem tyV_is {pins:List (Addr×Obj)}{σ:St}{H:Hp}{s:Shared}{T:String}{x:V}{v:Value}(I:Inv X pins σ H s) (r:RelV x v) (ty:tyV X.K T x H) :
  s.TypeIs v T/\∀a,v=.ref a->∃ob,s.heap.get? a=some ob/\ob.dict=none:=by
 cases x with
 |str z=>
  obtain⟨t,rfl⟩:=r
  cases (show T = "str" from ty)
  exact⟨typeIs_str s z t,λ_ e=>nomatch e⟩
 |int i=>
  obtain⟨t,rfl⟩:=r
  cases (show T = "int" from ty)
  exact⟨typeIs_int s i t,λ_ e=>nomatch e⟩
 |ref p=>
  cases r
  rcases ty with ⟨rfl,xs,hq⟩|⟨rfl,o,hk,hc,hd⟩|⟨rfl,hk⟩|⟨rfl,S,n,hk⟩
  ·obtain⟨its,_,pl,_⟩:=I.list hq
   refine⟨pl.isList.typeIs,λa e=>?_⟩
   cases e
   obtain⟨o,n,e,c,hd,_⟩:=pl
   exact⟨o,e,hd⟩
  ·refine⟨⟨o,I.kIn p o hk,hc⟩,λa e=>?_⟩
   cases e
   exact⟨o,I.kIn _ o hk,hd⟩
  ·have z:∃o,s.heap.get? p=some o/\o.ExactDict:=by
    rcases hk with ⟨kvs,hk⟩|⟨kvs,hk⟩
    ·obtain⟨_,_,_,_,o,_,_,e,ex,_⟩:=I.hok p _ hk
     exact⟨o,e,ex⟩
    ·obtain⟨_,_,_,_,o,_,_,e,ex,_⟩:=I.hok p _ hk
     exact⟨o,e,ex⟩
   obtain⟨o,e,ex⟩:=z
   refine⟨⟨o,e,ex.1⟩,λa e2=>?_⟩
   cases e2
   exact⟨o,e,ex.2.1⟩
  ·obtain⟨o,_,_,_,e,ex,_⟩:=I.hok p _ hk
   refine⟨⟨o,e,ex.1⟩,λa e2=>?_⟩
   cases e2
   exact⟨o,e,ex.2.1⟩
 |_=>exact False.elim ty
def tBM0 (K:PySem.W.Frag) (T:String) (r:V->List V->Hp->VK->Prop) (to:TE):TE:=λσ H Q=>to σ H λx H1=>tyV K T x H1/\r x [] H1 Q
def tBM (K:PySem.W.Frag) (T:String) (r:V->List V->Hp->VK->Prop) (to:TE) (t:TA):TE:=λσ H Q=>to σ H λx H1=>tyV K T x H1/\t σ H1 λxs H2=>r x xs H2 Q
variable {o e:Expr}{es:List Expr}{to:TE}{t:TA}{name:Str}{apos cpos:Pos}{T id:String}{r:V->List V->Hp->VK->Prop}
theorem pe_bm0 (pa:PlainAttrs T) (slot:Slot T name id) (hty:typeOf (.builtin id)=pure (.type "method_descriptor")) (hm:MtR X id r) (ho:PE X o to)
  (hbase:attributeBase o name X.env (eval o X.env)=eval o X.env:=by rfl) (hline:(apos.endLine==cpos.line)=true:=by rfl):PE X (.Call (.Attribute o name apos) [] [] cpos) (tBM0 X.K T r to):=by
 intro pins s σ H Q I h
 refine wpAny_Call_method0_late hbase hline (thn (ho pins s σ H _ I h) λv s1 ⟨x,H1,I1,r1,ty,q1⟩=>?_)
 obtain⟨h1,h2⟩:=tyV_is I1 r1 ty
 exact⟨T,id,pa,slot,hty,h1,h2,Calls.callWith_builtin rfl (PySem.evalArgs_none (hm pins s1 σ H1 x [] v [] Q I1 r1 .nil q1))⟩
theorem pe_bm (pa:PlainAttrs T) (slot:Slot T name id) (hty:typeOf (.builtin id)=pure (.type "method_descriptor")) (hm:MtR X id r) (ho:PE X o to) (ha:PA X (e::es) t)
  (hbase:attributeBase o name X.env (eval o X.env)=eval o X.env:=by rfl)
  (hfew:((backTo cpos (starEach (e::es) X.env)).all (λx=>!x.1)&&(backToKw cpos (keywordEach [] X.env)).all (λx=>x.1.isSome)
   && decide ((e::es).length+([]:List Keyword).length+(if ([]:List Keyword).isEmpty then 0 else 1)<30))=true:=by rfl)
  (hline:(apos.endLine==cpos.line)=true:=by rfl) (hs:starEach (e::es) X.env=(false,eval e X.env)::starEach es X.env:=by rfl) (hplain:(backTo cpos (starEach es X.env)).any (·.1)=false:=by rfl) :
  PE X (.Call (.Attribute o name apos) (e::es) [] cpos) (tBM X.K T r to t):=by
 intro pins s σ H Q I h
 refine wpAny_Call_method_late hbase hfew hline rfl (thn (ho pins s σ H _ I h) λv s1 ⟨x,H1,I1,r1,ty,q1⟩=>?_)
 obtain⟨h1,h2⟩:=tyV_is I1 r1 ty
 refine⟨T,id,pa,slot,hty,h1,h2,?_⟩
 have hA:=ha cpos pins s1 σ H1 _ I1 q1
 rw[hs] at hA ⊢
 refine Calls.callWith_builtin (by show (false||(backTo cpos (starEach es X.env)).any (·.1))=false;rw[hplain]<;>rfl) (Calls.evalArgs_plain ?_)
 exact thn hA λus s2 ⟨vs,H2,I2,r2,q2⟩=>hm pins s2 σ H2 x vs v us Q I2 r1 r2 q2
end
end L2
namespace L2
open PySem PySem.Spec PyProof.Rows
def MtM (X:Cx) (id:String) (r:V->List V->Hp->VK->Prop):Prop:=
 ∀(pins:List (Addr×Obj)) (s:Shared) (σ:St) (H:Hp) (x:V) (xs:List V) (v:Value) (us:List Value) (Q:VK),Inv X pins σ H s->RelV x v->Vals xs us->r x xs H Q ->
  wpAny (model X.prog X.w) X.A (call (.builtin id) (v::us)) (EP X pins σ Q) X.xe s
theorem Vals.one:∀{x:V}{us:List Value},Vals [x] us->∃u,us=[u]/\RelV x u
 |_,_,.cons r .nil=>⟨_,rfl,r⟩
theorem Vals.zero:∀{us:List Value},Vals [] us->us=[]
 |_,.nil=>rfl
section
variable {X:Cx}{pins:List (Addr×Obj)}{σ:St}{H:Hp}{s:Shared}{l b:Addr}{xs ys zs:List V}
theorem Inv.lset {its its':List Value}{n:Nat}{f:Array Value->Array Value}{t':Nat}(I:Inv X pins σ H s) (hH:H l=some (.lst xs))
  (e:s.heap.get? l=some { cls:=.type "list",data:=.seq its.toArray n }) (hf:f its.toArray=its'.toArray) (hv:Vals ys its') (hz:ys.length<=sizeLine) :
  Inv X pins σ (upd H l (.lst ys)) { s with heap:=s.heap.update l (Obj.mapSeq f),toks:=t' }:=by
 have q:=PySem.IsL.update e f
 rw[hf] at q
 refine I.write (x:=l) (e:=l) (by rw[hH];exact trivial) (.inl rfl) (λb' u hb hu=>(Heap.get?_update_other s.heap (Obj.mapSeq f) (Ne.symm hb)).trans hu) ⟨_,q⟩ ?_
 exact⟨hz,its',_,hv,q⟩
theorem Inv.lnew {its:List Value}{t':Nat}(I:Inv X pins σ H s) (hv:Vals ys its) (hz:ys.length<=sizeLine) :
  Inv X pins σ (upd H s.heap.objs.size (.lst ys)) { s with heap:=s.heap.push { cls:=.type "list",data:=.seq its.toArray },toks:=t' }:=
 I.laid (λ_ _ q=>Heap.get?_push_of_some _ q) (Nat.le_refl _) ⟨hz,its,0,hv,Heap.get?_push_size _ rfl⟩
theorem Inv.fresh (I:Inv X pins σ H s):H s.heap.objs.size=none:=I.hok.fresh (Nat.le_refl _)
theorem Inv.lstM (I:Inv X pins σ H s) (hH:H l=some (.lst xs)):xs.length<=sizeLine/\∃(its:List Value) (n:Nat),Vals xs its/\xs.length=its.length/\s.heap.get? l=some { cls:=.type "list",data:=.seq its.toArray n }:=by
 obtain⟨z,its,n,r,e⟩:=I.hok l _ hH
 exact⟨z,its,n,r,r.length,e⟩
theorem notLongL {n:Nat}(h:n<=sizeLine):Builtin.List.listTooLong n=false:=by
 unfold Builtin.List.listTooLong
 exact decide_eq_false (by lia)
end
section
variable {X:Cx}
def rAppend:V->List V->Hp->VK->Prop:=λx vs H Q=>∃l xs y,x=.ref l/\vs=[y]/\H l=some (.lst xs)/\xs.length<sizeLine/\Q .non (upd H l (.lst (xs++[y])))
theorem mt_append:MtM X "list.append" rAppend:=by
 intro pins s σ H x vs v us Q I rx rv h
 obtain⟨l,xs,y,rfl,rfl,hH,hz,q⟩:=h
 cases rx
 obtain⟨u,rfl,ru⟩:=rv.one
 obtain⟨z,its,n,r,hl,e⟩:=I.lstM hH
 refine call_meets F.slot_list_append ⟨_,e,rfl⟩ F.entry_list_append (F.args_list_append_2 _ _) (PySem.list_append l its.toArray n u (by rw[List.size_toArray];lia)) ⟨e,?_⟩
 refine⟨.non,_,I.lset (its':=its++[u]) hH e (by simp) (r.append (.cons ru .nil)) ?_,rfl,q⟩
 rw[List.length_append,List.length_singleton]
 lia
def rExtend:V->List V->Hp->VK->Prop:=λx vs H Q=>∃l b xs zs,x=.ref l/\vs=[.ref b]/\H l=some (.lst xs)/\H b=some (.lst zs)/\xs.length+zs.length<=sizeLine/\Q .non (upd H l (.lst (xs++zs)))
theorem mt_extend:MtM X "list.extend" rExtend:=by
 intro pins s σ H x vs v us Q I rx rv h
 obtain⟨l,b,xs,zs,rfl,rfl,hH,hB,hz,q⟩:=h
 cases rx
 obtain⟨u,rfl,ru⟩:=rv.one
 cases ru
 obtain⟨z,its,n,r,hl,e⟩:=I.lstM hH
 obtain⟨z2,its2,n2,r2,hl2,e2⟩:=I.lstM hB
 have hsz:its.toArray.size+its2.toArray.size<=sizeLine:=by rw[List.size_toArray,List.size_toArray];lia
 have hlong:¬(!its.toArray.isEmpty&&Builtin.List.listTooLong (its.toArray.size+its2.toArray.size))=true:=by
  rw[notLongL hsz,Bool.and_false]
  exact Bool.false_ne_true
 refine call_meets F.slot_list_extend ⟨_,e,rfl⟩ F.entry_list_extend (F.args_list_extend_2 _ _)
  (AutoSeq1.list_extend_list_list_0 l its.toArray n b its2.toArray n2 hlong (by rw[List.size_toArray];lia) (by lia)) ⟨e,e2,?_⟩
 refine⟨.non,_,I.lset (its':=its++its2) hH e (by simp) (r.append r2) ?_,rfl,q⟩
 rw[List.length_append]
 lia
def rClear:V->List V->Hp->VK->Prop:=λx vs H Q=>∃l xs,x=.ref l/\vs=[]/\H l=some (.lst xs)/\Q .non (upd H l (.lst []))
theorem mt_clear:MtM X "list.clear" rClear:=by
 intro pins s σ H x vs v us Q I rx rv h
 obtain⟨l,xs,rfl,rfl,hH,q⟩:=h
 cases rx
 have hus:=rv.zero
 subst hus
 obtain⟨z,its,n,r,hl,e⟩:=I.lstM hH
 refine call_meets F.slot_list_clear ⟨_,e,rfl⟩ F.entry_list_clear (F.args_list_clear_1 _) (AutoSeq1.list_clear_list_0 l its.toArray n (by rw[List.size_toArray];lia)) ⟨e,?_⟩
 exact⟨.non,_,I.lset (its':=[]) (ys:=[]) hH e rfl .nil (Nat.zero_le _),rfl,q⟩
def rCat:R2:=λx y H Q=>∃l b xs zs,x=.ref l/\y=.ref b/\H l=some (.lst xs)/\H b=some (.lst zs)/\xs.length+zs.length<=sizeLine/\∀p,H p=none->Q (.ref p) (upd H p (.lst (xs++zs)))
theorem op_cat:OpR X (binaryOp .Add) rCat:=by
 intro pins s σ H x y v u Q I rx ry h
 obtain⟨l,b,xs,zs,rfl,rfl,hH,hB,hz,q⟩:=h
 cases rx
 cases ry
 obtain⟨z,its,n,r,hl,e⟩:=I.lstM hH
 obtain⟨z2,its2,n2,r2,hl2,e2⟩:=I.lstM hB
 refine PySem.P.add_list e e2 ?_ (by rw[List.size_toArray,List.size_toArray];lia)
 have ea:its.toArray++its2.toArray=(its++its2).toArray:=by simp
 rw[ea]
 exact⟨.ref _,_,I.lnew (t':=s.toks) (r.append r2) (by rw[List.length_append];lia),rfl,q _ I.fresh⟩
end
section
variable {prog:Program}{w:World}{A:Around}{E:Value->Shared->Prop}{s:Shared}
end
section
variable {X:Cx}
end
end L2
namespace Att
open PySem PySem.W PySem.Calls PyProof.Rows
theorem ints_of_wellAll {P:Params}{h:Heap}:∀(ns:List Int) (vs:List Value),WellAll P h vs (ns.map WData.int)->IntsAre vs ns:=by
 intro ns
 induction ns with
 |nil=>
  intro vs w
  rw[List.map_nil] at w
  cases w
  exact .nil
 |cons n ns ih=>
  intro vs w
  rw[List.map_cons] at w
  cases w with
  |cons a b=>
   cases a
   exact .cons _ _ (ih _ b)
theorem script_of {l:OpenLaw}{n:Nat}(hn:l.most=some n){P:Params}{h:Heap}{args:List WData}{vals:List Value}
  (hpre:l.row.toRowW.claim.pre args=true) (hwl:WellAll P h vals args) :
  ∃a vs ns,vals=[Value.ref a]/\args=[WData.list (ns.map WData.int)]/\h.get? a=some { cls:=.type "list",data:=.seq vs.toArray }/\IntsAre vs ns/\ns.length<=n:=by
 have hsh:WShape.hasAll [] args [.list .int]=true:=(pre_splitW hpre).1
 have hc:l.pre.holds [] { args:=args }=true:=(pre_splitW hpre).2
 obtain⟨d,r,rfl,h1,h2⟩:=hasAllW_cons hsh
 obtain rfl:=hasAllW_nil h2
 obtain⟨xs,rfl,h3⟩:=hasW_list h1
 obtain⟨ns,rfl⟩:=items_int h3
 have hlen:ns.length<=n:=by
  unfold OpenLaw.pre at hc
  have h4:(WTm.not (.lt (.lit (.int (n:Int))) (.len (.arg 0)))).holds [] { args:=[.list (ns.map .int)] }=true:=by
   have h4:=(holds_andW hc).1
   rw[hn] at h4
   exact h4
  have h5:=condW_of h4 (w_not (w_lt w_lit (w_len_list (w_arg rfl))))
  rw[List.length_map] at h5
  refine Nat.le_of_not_lt λq=>?_
  have q':(n:Int)<((ns.length:Nat):Int):=by lia
  first
   |(rw[decide_eq_true q'] at h5;exact absurd h5 (by decide))
   |(simp at h5;lia)
 cases hwl with
 |cons w1 w2=>
  cases w2
  cases w1 with
  |list ho hall=>exact⟨_,_,ns,rfl,rfl,ho,ints_of_wellAll ns _ hall,hlen⟩
theorem post_true (l:OpenLaw) (args:List WData):l.row.toRowW.claim.post args (.bool true) args=true:=
 postW_of (r:=l.row.toRowW) (X:=(true==true))
  (show WShape.has [] (.bool true) .bool=true by first|rfl|decide|simp[WShape.has,WShape.arms,WShape.armsAll])
  (show (WTm.eq .res (.lit (.bool true))).value [] { args:=args,res:=some (.bool true),after:=args }=some (.bool (true==true)) from w_eq_bool (w_res rfl) w_lit) rfl
theorem attach_call {l:OpenLaw}{n:Nat}{q:Program}{loose:List Str}{XP:(Str->Option Value)->Heap->Prop}{YP:World->Heap->Prop}{d:DefRec}
  (hn:l.most=some n) (hdf:d.params.defaults=[])
  (call:∀(w:World) (s₀ s₁:Shared) (mg mb:Str->Option Value) (fa:Addr) (o:Obj) (pm cd doc:Value) (a:Addr) (vs:List Value) (ns:List Int),
   Ground q loose [] XP w s₀ mg mb s₁.heap->YP w s₁.heap ->
   s₁.heap.get? fa=some o->o.data=.func (docDef d.name d.params d.body d.scope pm cd doc)->s₁.heap.CodeRec cd d.name->mg d.name=some (.ref fa) ->
   s₁.heap.get? a=some { cls:=.type "list",data:=.seq vs.toArray }->IntsAre vs ns->ns.length<=n->s₁.gens=#[] ->
   codeAny (model l.prog w) callerA (.call (.ref fa) ⟨[.ref a],[]⟩) (λr s'=>r=.ok (.ret (.bool true))/\OldK s₁.heap s'.heap/\s'.os=s₁.os/\AllBare s'.gens) s₁) :
  WalkO q loose XP YP l.row.toRowW d [] (λf vs=>PySem.call f vs):=by
 intro w s₀ s₁ mg mb G Y fa o pm cd doc dV kV ho hd hcd hD hmg hg args vals as hpre hlay hrd hwl hlo
 obtain rfl:dV=.none:=Dflts.none hD hdf
 obtain rfl:kV=.none:=Dflts.noKw hD
 obtain⟨a,vs,ns,rfl,rfl,hobj,hints,hlen⟩:=script_of hn hpre hwl
 refine enter_call (codeAny_mono (call w s₀ s₁ mg mb fa o pm cd doc a vs ns G Y ho (fd_plain hd) hcd hmg hobj hints hlen hg) λr s' hq=>?_)
 obtain⟨rfl,h2,h3,h4⟩:=hq
 exact⟨.inl ⟨.bool true,.bool true,[],rfl,λ_=>rfl,.bool true,post_true l _,λ_=>⟨List.Pairwise.nil,λ_ hm=>(nomatch hm)⟩⟩,h2,h3,h4⟩
section
variable {prog:Program}{w:World}{A:Around}{E:Value->Shared->Prop}{s:Shared}{K:Frag}
end
end Att
namespace L2
open PySem PySem.Spec PyProof.Rows
theorem vals_ints:∀{vs:List Value}{ns:List Int},IntsAre vs ns->Vals (ns.map V.int) vs
 |_,_,.nil=>.nil
 |_,_,.cons n t h=>.cons ⟨t,rfl⟩ (vals_ints h)
def Only (H:Hp):Prop:=∀b,H b=none\/∃o xs,H b=some (.frz o (.lst xs))
theorem law_call {P:Program}{w:World}{K:PySem.W.Frag}{mg mb:Str->Option Value}{CX:CXT}{k:Nat}{fa a:Addr}{fd:FuncData}{x:Str}{sp:Sp}{s₁:Shared}{vs:List Value}{ns:List Int}
  (KX:K.In s₁.heap) (hns:s₁.heap.Ns mainGlobals mg) (hb:s₁.heap.Ns builtinsNs mb) (hbb:∀x:Str,x ≠ "__name__" -> mb x=bootBuiltins x) (hlim:s₁.heap.NoLimit) (hg:s₁.gens=#[])
  (ha:s₁.heap.get? a=some { cls:=.type "list",data:=.seq vs.toArray }) (hi:IntsAre vs ns) (hl:ns.length<=sizeLine) (hr:Room k callerA)
  (F:∀base:Heap,K.In base->base.Ns mainGlobals mg->FnOk P w K mg base CX k fa fd [x] sp) (hbind:∀(s:Shared) (u:Value),BindsTo s fd ⟨[u],[]⟩ [(x,u)])
  (hsp:∀H:Hp,Only H->SqL K H a (ns.map V.int)->sp [.ref a] H (λv _=>v=.bl true) λ_ _ _=>False)
  (hCX:∀H e s',CX [] H s₁ (λ_ _ _=>False) e s'->False) :
  codeAny (model P w) callerA (.call (.ref fa) ⟨[.ref a],[]⟩) (λr s'=>r=.ok (.ret (.bool true))/\OldK s₁.heap s'.heap/\s'.os=s₁.os/\AllBare s'.gens) s₁:=by
 have rv:=vals_ints hi
 have lenV:=hi.length
 have core:∀H:Hp,Only H->SqL K H a (ns.map V.int)->HOk P w H s₁.heap->(∀b,H b≠none->b=a)->(H a≠none->K.lookup a=none) ->
   codeAny (model P w) callerA (.call (.ref fa) ⟨[.ref a],[]⟩) (λr s'=>r=.ok (.ret (.bool true))/\OldK s₁.heap s'.heap/\s'.os=s₁.os/\AllBare s'.gens) s₁:=by
  intro H hO hS hok hA hK
  have base_of:∀{b:Addr}{o:Obj},s₁.heap.get? b=some o->H b=none->(hidT s₁.heap H).get? b=some o:=λe n=>hidT_get e n
  have noA:∀{b:Addr}{o:Obj}{es:Array DictEntry}{ep:Nat},s₁.heap.get? b=some o->o.data=.dict es ep->H b=none:=λ{b o es ep} e d=>by
   cases q:H b with
   |none=>rfl
   |some u=>
    have e':b=a:=hA b (by rw[q];simp)
    subst e'
    rw[ha] at e;cases e
    have d':Data.seq vs.toArray _=Data.dict es ep:=d
    cases d'
  have nsK:∀{b:Addr}{m:Str->Option Value},s₁.heap.Ns b m->(hidT s₁.heap H).Ns b m:=λ{b m} ⟨o,es,ep,e,d,r⟩=>⟨o,es,ep,base_of e (noA e d),d,r⟩
  have hKb:K.In (hidT s₁.heap H):=λb o e=>base_of (KX b o e) (by
   cases q:H b with
   |none=>rfl
   |some u=>
    have e':b=a:=hA b (by rw[q];simp)
    subst e'
    rw[hK (by rw[q];simp)] at e;cases e)
  have hM:Mod K mg (hidT s₁.heap H):=⟨hKb,nsK hns,⟨mb,nsK hb,hbb⟩,let ⟨mc,h1,h2⟩:=hlim;⟨mc,nsK h1,h2⟩⟩
  have e0:Env0 P w K mg (hidT s₁.heap H) callerA [] s₁ H:=⟨rfl,hM,λb o e=>of_hidT e,Nat.le_of_eq (hidT_size _ _),trivial,λb hb=>absurd (show b∈([]:List Addr) from hb) (by simp),hok,.of_eq hg⟩
  refine codeAny_mono ((F _ hKb (nsK hns)).run callerA [] s₁ H ⟨[.ref a],[]⟩ [.ref a] [.ref a] _ _ hr e0 (hbind s₁ (.ref a)) (.cons rfl .nil) (hsp H hO hS)) λr s' h=>?_
  cases r with
  |error e=>exact (hCX H e s' h).elim
  |ok fl=>
   cases fl with
   |next=>exact False.elim h
   |brk=>exact False.elim h
   |cont=>exact False.elim h
   |ret u=>
    obtain⟨v,H',os,bare,un,hok',r',q⟩:=h
    have q':v=.bl true:=q
    subst q'
    obtain rfl:u=Value.bool true:=r'
    refine⟨rfl,OldK.of_keep λb o e=>?_,os,bare⟩
    cases q:H b with
    |none=>exact un.keep b o e q (by intro z;exact absurd (show b∈([]:List Addr) from z) (by simp)) (by simp)
    |some u=>
     rcases hO b with z|⟨ob,xs,z⟩
     ·rw[q] at z;cases z
     ·have z2:=un.frzs b ob _ z
      obtain⟨e1,_⟩:=hok b _ z
      obtain⟨e2,_⟩:=hok' b _ z2
      rw[e] at e1;cases e1
      exact e2
 cases hk:K.lookup a with
 |some o=>
  have e:=KX a o hk
  rw[ha] at e
  cases e
  refine core (λ_=>none) (λ_=>.inl rfl) (.inr ⟨_,vs.toArray,_,hk,rfl,rfl,rfl,by rw[List.size_toArray,lenV];exact hl,by simpa using rv⟩) (λb u z=>by have z':(none:Option HO)=some u:=z;cases z') (λb z=>absurd rfl z) λz=>absurd rfl z
 |none=>
  refine core (λb=>if b=a then some (.frz { cls:=.type "list",data:=.seq vs.toArray } (.lst (ns.map V.int))) else none) (λb=>?_) (.inl (.inr ⟨{ cls:=.type "list",data:=.seq vs.toArray },if_pos rfl⟩)) (λb u z=>?_) (λb z=>?_) λ_=>hk
  ·by_cases hb:b=a
   ·exact .inr ⟨_,_,if_pos hb⟩
   ·exact .inl (if_neg hb)
  ·by_cases hb:b=a
   ·have z':=(if_pos hb).symm.trans z
    cases z'
    subst hb
    exact⟨ha,by rw[List.length_map];exact hl,vs,_,rv,ha⟩
   ·have z':=(if_neg hb).symm.trans z
    cases z'
  ·by_cases hb:b=a
   ·exact hb
   ·exact absurd (if_neg hb) z
end L2
namespace L2
open PySem PySem.Spec PyProof.Rows
theorem walk_of {l:PySem.W.OpenLaw}{n k:Nat}{q:Program}{loose:List Str}{XP:(Str->Option Value)->Heap->Prop}{YP:World->Heap->Prop}{d:DefRec}{K:Params->PySem.W.Frag}{CX:World->CXT}{sp:World->Sp}{x:Str}
  (hn:l.most=some n) (hn2:n<=sizeLine) (hdf:d.params.defaults=[]) (hr:Room k callerA)
  (hY:∀(w:World) (h:Heap),YP w h->(K w.params).In h)
  (F:∀(w:World) (mg:Str->Option Value) (fa:Addr) (h:Heap),(K w.params).In h->h.Ns mainGlobals mg->mg d.name=some (.ref fa) ->
   ∃fd:FuncData,(∀(s:Shared) (u:Value),BindsTo s fd ⟨[u],[]⟩ [(x,u)]) /\
    ∀base:Heap,(K w.params).In base->base.Ns mainGlobals mg->FnOk l.prog w (K w.params) mg base (CX w) k fa fd [x] (sp w))
  (hsp:∀(w:World) (H:Hp) (a:Addr) (ns:List Int),ns.length<=n->Only H->SqL (K w.params) H a (ns.map V.int)->sp w [.ref a] H (λv _=>v=.bl true) λ_ _ _=>False)
  (hCX:∀(w:World) (H:Hp) (s:Shared) (e:Value) (s':Shared),CX w [] H s (λ_ _ _=>False) e s'->False) :
  PySem.W.WalkO q loose XP YP l.row.toRowW d [] (λf vs=>PySem.call f vs):=by
 refine Att.attach_call hn hdf λw s₀ s₁ mg mb fa o pm cd doc a vs ns G Y ho hd hcd hmg hobj hints hlen hg=>?_
 have KX:=hY w _ Y
 obtain⟨fd,hb,hF⟩:=F w mg fa _ KX G.T.g hmg
 exact law_call KX G.T.g G.T.b G.T.builtins G.T.nolimit hg hobj hints (Nat.le_trans hlen hn2) hr hF hb (λH hO hS=>hsp w H a ns hlen hO hS) λH e s'=>hCX w H s₁ e s'
end L2
namespace L2
open PySem PySem.Spec PyProof.Rows
abbrev CX0:CXT:=λ_ _ _ _ _ _=>False
abbrev E0:XK:=λ_ _ _=>False
theorem pass0 {X:Cx}:Passes CX0 X E0:=λ_ _ _ _ _ _ _ h=>h.elim
structure Fun (K:PySem.W.Frag) (x qual:Str) (st:Stmt) (f:Addr) (fd:FuncData):Prop where
 ex:∃(oc:Value) (od:Option Addr) (kV doc pm:Value) (an:Option Addr) (cdv ct:Value) (osl:Array (Option Value)),
  fd=PySem.W.fnOf x qual (defArgs st) (defBody st) (defScope st) .none kV doc pm an cdv ct/\K.lookup f=some ⟨oc,od,.func fd,osl⟩/\PySem.W.codeIn K cdv qual=true
 kp:PySem.W.keepIn K (.ref f)=true
section
variable {P:Program}{w:World}{K:PySem.W.Frag}{mg:Str->Option Value}{base:Heap}
theorem Fun.ok {x qual:Str}{st:Stmt}{f:Addr}{fd:FuncData}{N ps:List Str}{k:Nat}{sp:Sp}(F:Fun K x qual st f fd) (S:FnScope N ps (defScope st)) (len:∀vs H Q E,sp vs H Q E->vs.length=ps.length)
  (hbody:∀(cdv:Value) (A:Around) (outer:List Env) (s:Shared) (H:Hp) (vs:List V) (Q:VK) (E:XK),Room k (A.deeper (envOfC qual (defScope st) s.heap.objs.size f cdv))->sp vs H Q E ->
   ∃t,PSs (cxOf CX0 P w K mg base N qual (defScope st) f cdv A outer s H E).nox (defBody st) t/\t { nx:=λ_ H'=>Q .non H',rt:=Q } (start N vs) H):FnOk P w K mg base CX0 (k+1) f fd ps sp:=by
 obtain⟨oc,od,kV,doc,pm,an,cdv,ct,osl,rfl,lk,hcd⟩:=F.ex
 refine fn_of lk hcd S len λA outer s H vs Q E hr hsp=>?_
 obtain⟨t,h,q⟩:=hbody cdv A outer s H vs Q E hr hsp
 exact⟨t,h.nox,q⟩
theorem Fun.binds {x qual:Str}{st:Stmt}{f:Addr}{fd:FuncData}{ps:List Str}(F:Fun K x qual st f fd)
  (h:∀(kV doc pm:Value) (an:Option Addr) (cdv ct:Value) (us:List Value),us.length=ps.length->bindArgs (PySem.W.fnOf x qual (defArgs st) (defBody st) (defScope st) .none kV doc pm an cdv ct) ⟨us,[]⟩=pure (ps.zip us)):Binds K fd ps []:=by
 obtain⟨oc,od,kV,doc,pm,an,cdv,ct,osl,rfl,lk,hcd⟩:=F.ex
 exact .all (h kV doc pm an cdv ct)
theorem fun_mk {x qual:Str}{st:Stmt}{f:Addr}{oc:Value}{od an:Option Addr}{osl:Array (Option Value)}{kV doc pm cdv ct:Value}(l:K.lookup f=some ⟨oc,od,.func (PySem.W.fnOf x qual (defArgs st) (defBody st) (defScope st) .none kV doc pm an cdv ct),osl⟩)
  (c:PySem.W.codeIn K cdv qual=true) (k:PySem.W.keepIn K (.ref f)=true):Fun K x qual st f (PySem.W.fnOf x qual (defArgs st) (defBody st) (defScope st) .none kV doc pm an cdv ct):=⟨⟨oc,od,kV,doc,pm,an,cdv,ct,osl,rfl,l,c⟩,k⟩
end
theorem small1000 {n:Nat}(h:n<=1000):n<sizeLine:=Nat.lt_of_le_of_lt h (by decide)
section
variable {X:Cx}
theorem pv (i:Nat){x:Str}{pos:Pos}(hN:X.N[i]?=some x:=by rfl) (hv:Vis X.env.scope x:=by first|exact Or.inl rfl|exact Or.inr (Or.inl rfl)|exact Or.inr (Or.inr rfl)) (hd:(x==("__debug__" : Str))=false:=by decide)
  (hcd:(x==("__classdict__" : Str))=false:=by decide):PE X (.Name x pos) (tVar i):=pe_var hN hv hd hcd
end
theorem iteF {A B:Prop}(h:B):if false=true then A else B:=by
 rw[if_neg Bool.false_ne_true]
 exact h
theorem iteT {A B:Prop}(h:A):if true=true then A else B:=by
 rw[if_pos rfl]
 exact h
theorem ite2 {c A B:Prop}[Decidable c] (h1:c->A) (h2:¬c->B):if c then A else B:=by
 by_cases h:c
 ·rw[if_pos h]
  exact h1 h
 ·rw[if_neg h]
  exact h2 h
theorem iteNS {c A B:Prop}[Decidable c] (hc:c) (h:B):if (!decide c)=true then A else B:=by
 rw[decide_eq_true hc]
 exact iteF h
def Same (H H':Hp):Prop:=∀b o,H b=some o->H' b=some o
theorem Same.refl (H:Hp):Same H H:=λ_ _ h=>h
theorem Same.trans {H H1 H2:Hp}(a:Same H H1) (b:Same H1 H2):Same H H2:=λc o h=>b c o (a c o h)
theorem Same.seq {K:PySem.W.Frag}{H H':Hp}{a:Addr}{xs:List V}(e:Same H H') (h:SqL K H a xs):SqL K H' a xs:=by
 rcases h with (h|⟨o,h⟩)|h
 ·exact .inl (.inl (e _ _ h))
 ·exact .inl (.inr ⟨o,e _ _ h⟩)
 ·exact .inr h
end L2
namespace L2
open PySem PySem.Spec PyProof.Rows
section
variable {κ:Type}[DecidableEq κ]
def valV (kvs:List (κ×V)) (k:κ):Option V:=(kvs.find? λkv=>decide (kv.1=k)).map (·.2)
def putK (kvs:List (κ×V)) (k:κ) (v:V):List (κ×V):=
 if (kvs.any λkv=>decide (kv.1=k))=true then kvs.map (λkv=>if kv.1=k then (kv.1,v) else kv) else kvs++[(k,v)]
theorem valV_nil {k:κ}:valV ([]:List (κ×V)) k=none:=rfl
theorem valV_pos {p:κ×V}{r:List (κ×V)}{k:κ}(e:p.1=k):valV (p::r) k=some p.2:=by simp[valV,List.find?_cons,e]
theorem valV_neg {p:κ×V}{r:List (κ×V)}{k:κ}(e:¬p.1=k):valV (p::r) k=valV r k:=by simp[valV,List.find?_cons,e]
theorem valV_any (k:κ):∀kvs:List (κ×V),(kvs.any λkv=>decide (kv.1=k))=(valV kvs k).isSome
 |[]=>rfl
 |p::r=>by
  rw[List.any_cons]
  by_cases e:p.1=k
  ·simp only[valV_pos e,decide_eq_true e,Bool.true_or,Option.isSome_some]
  ·rw[valV_neg e,decide_eq_false e,Bool.false_or];exact valV_any k r
theorem valV_map (k j:κ) (y:V):∀kvs:List (κ×V),valV (kvs.map λkv=>if kv.1=k then (kv.1,y) else kv) j=(valV kvs j).map λx=>if j=k then y else x
 |[]=>rfl
 |p::r=>by
  have ih:=valV_map k j y r
  rw[List.map_cons]
  by_cases h:p.1=k
  ·rw[if_pos h]
   by_cases e:p.1=j
   ·rw[valV_pos (p:=(p.1,y)) e,valV_pos e,Option.map_some,if_pos (e.symm.trans h)]
   ·rw[valV_neg (p:=(p.1,y)) e,valV_neg e,ih]
  ·rw[if_neg h]
   by_cases e:p.1=j
   ·rw[valV_pos (p:=p) e,valV_pos e,Option.map_some,if_neg (λz=>h (e.trans z))]
   ·rw[valV_neg (p:=p) e,valV_neg e,ih]
theorem valV_snoc (k j:κ) (y:V):∀kvs:List (κ×V),valV kvs k=none->valV (kvs++[(k,y)]) j=if j=k then some y else valV kvs j
 |[],_=>by
  by_cases e:k=j
  ·rw[if_pos e.symm];exact valV_pos (p:=(k,y)) e
  ·rw[if_neg (λz=>e z.symm)];exact valV_neg (p:=(k,y)) e
 |p::r,hn=>by
  rw[List.cons_append]
  have hk:¬p.1=k:=λz=>by rw[valV_pos z] at hn;cases hn
  rw[valV_neg hk] at hn
  have ih:=valV_snoc k j y r hn
  by_cases e:p.1=j
  ·rw[valV_pos e,valV_pos e,if_neg (λz=>hk (e.trans z))]
  ·rw[valV_neg e,valV_neg e,ih]
theorem valV_put (kvs:List (κ×V)) (k j:κ) (y:V):valV (putK kvs k y) j=if j=k then some y else valV kvs j:=by
 unfold putK
 by_cases a:(kvs.any λkv=>decide (kv.1=k))=true
 ·rw[if_pos a,valV_map]
  rw[valV_any] at a
  by_cases e:j=k
  ·obtain⟨x,hx⟩:=Option.isSome_iff_exists.mp a
   rw[if_pos e,e,hx,Option.map_some,if_pos rfl]
  ·rw[if_neg e]
   cases valV kvs j with
   |none=>rfl
   |some x=>rw[Option.map_some,if_neg e]
 ·rw[if_neg a]
  refine valV_snoc k j y kvs ?_
  rw[valV_any] at a
  cases q:valV kvs k with
  |none=>rfl
  |some x=>rw[q] at a;exact (a rfl).elim
theorem length_putK (kvs:List (κ×V)) (k:κ) (v:V):(putK kvs k v).length<=kvs.length+1:=by
 unfold putK
 split
 ·rw[List.length_map];lia
 ·rw[List.length_append,List.length_cons,List.length_nil];lia
theorem putK_new {kvs:List (κ×V)}{k:κ}(v:V) (h:valV kvs k=none):putK kvs k v=kvs++[(k,v)]:=by
 unfold putK
 rw[valV_any,h]
 exact if_neg (by decide)
theorem RelO.isSome_eq {o:Option V}{u:Option Value}(r:RelO o u):o.isSome=u.isSome:=by
 cases o with
 |none=>cases u with
  |none=>rfl
  |some _=>exact (show False from r).elim
 |some _=>cases u with
  |none=>exact (show False from r).elim
  |some _=>rfl
theorem KV.val {kvs:List (κ×V)}{vs:List (κ×Value)}(r:KV kvs vs) (k:κ):RelO (valV kvs k) (valueAt vs k):=by
 unfold KV at r
 induction r with
 |nil=>exact True.intro
 |@cons p q ps qs h t ih=>
  obtain⟨h1,h2⟩:=h
  by_cases e:p.1=k
  ·have e':q.1=k:=h1.symm.trans e
   have b:valueAt (q::qs) k=some q.2:=by simp[valueAt,List.find?_cons,e']
   rw[valV_pos e,b];exact h2
  ·have e':¬q.1=k:=λz=>e (h1.trans z)
   have b:valueAt (q::qs) k=valueAt qs k:=by simp[valueAt,List.find?_cons,e']
   rw[valV_neg e,b];exact ih
theorem KV.any {kvs:List (κ×V)}{vs:List (κ×Value)}(r:KV kvs vs) (k:κ):(kvs.any λkv=>decide (kv.1=k))=vs.any λkv=>decide (kv.1=k):=by
 unfold KV at r
 induction r with
 |nil=>rfl
 |cons h t ih=>rw[List.any_cons,List.any_cons,ih,h.1]
theorem KV.repl {kvs:List (κ×V)}{vs:List (κ×Value)}(r:KV kvs vs) (k:κ){y:V}{u:Value}(ry:RelV y u) :
  KV (kvs.map λkv=>if kv.1=k then (kv.1,y) else kv) (vs.map λkv=>if kv.1=k then (kv.1,u) else kv):=by
 unfold KV at r ⊢
 induction r with
 |nil=>exact .nil
 |@cons p q ps qs h t ih=>
  rw[List.map_cons,List.map_cons]
  refine .cons ?_ ih
  obtain⟨h1,h2⟩:=h
  by_cases e:p.1=k
  ·rw[if_pos e,if_pos (h1.symm.trans e)];exact⟨h1,ry⟩
  ·rw[if_neg e,if_neg (λz=>e (h1.trans z))];exact⟨h1,h2⟩
theorem KV.put {kvs:List (κ×V)}{vs:List (κ×Value)}(r:KV kvs vs) (k:κ){y:V}{u:Value}(ry:RelV y u):KV (putK kvs k y) (stored vs k u):=by
 unfold putK stored
 rw[r.any k]
 by_cases e:(vs.any λkv=>decide (kv.1=k))=true
 ·rw[if_pos e,if_pos e];exact r.repl k ry
 ·rw[if_neg e,if_neg e];exact Paired.snoc r ⟨rfl,ry⟩
theorem KV.length {kvs:List (κ×V)}{vs:List (κ×Value)}(r:KV kvs vs):kvs.length=vs.length:=Paired.length r
end
theorem kV_is {P:Program}{w:World}{k:Key}{u:Value}(r:RelV (kV k) u):(mixKind P w).is k u=true:=by
 cases k with
 |inl i=>obtain⟨t,e⟩:=(show ∃t,u=Value.int i t from r);subst e;exact mixKind_int P w i t
 |inr x=>obtain⟨t,e⟩:=(show ∃t,u=Value.str x t from r);subst e;exact mixKind_str P w x t
theorem items_are {P:Program}{w:World}:∀{ks:List Key}{us:List Value},Vals (ks.map kV) us->ItemsAre (mixKind P w) ks us
 |[],_,r=>by rw[List.map_nil] at r;cases r;exact .nil
 |k::ks,_,r=>by
  rw[List.map_cons] at r
  cases r with
  |cons h t=>exact .cons (kV_is h) (items_are t)
abbrev KT (H:Hp):List (List Key×V)->List (List Key×Addr×Value)->Prop:=Paired λp q=>p.1=q.1/\H q.2.1=some (.tup (p.1.map kV))/\RelV p.2 q.2.2
theorem KT.val {H:Hp}{kvs:List (List Key×V)}{xs:List (List Key×Addr×Value)}(r:KT H kvs xs) (k:List Key):RelO (valV kvs k) ((atKey xs k).map (·.2)):=by
 induction r with
 |nil=>exact True.intro
 |@cons p q ps qs h t ih=>
  obtain⟨h1,_,h2⟩:=h
  by_cases e:p.1=k
  ·have e':q.1=k:=h1.symm.trans e
   have b:atKey (q::qs) k=some q.2:=by simp[atKey,List.find?_cons,e']
   rw[valV_pos e,b];exact h2
  ·have e':¬q.1=k:=λz=>e (h1.trans z)
   have b:atKey (q::qs) k=atKey qs k:=by simp[atKey,List.find?_cons,e']
   rw[valV_neg e,b];exact ih
theorem KT.repl {H:Hp}{kvs:List (List Key×V)}{xs:List (List Key×Addr×Value)}(r:KT H kvs xs) (k:List Key){y:V}{u:Value}(ry:RelV y u) :
  KT H (kvs.map λkv=>if kv.1=k then (kv.1,y) else kv) (xs.map (putAt k u)):=by
 induction r with
 |nil=>exact .nil
 |@cons p q ps qs h t ih=>
  rw[List.map_cons,List.map_cons]
  refine .cons ?_ ih
  obtain⟨h1,h2,h3⟩:=h
  unfold putAt
  by_cases e:p.1=k
  ·rw[if_pos e,if_pos (h1.symm.trans e)];exact⟨h1,h2,ry⟩
  ·rw[if_neg e,if_neg (λz=>e (h1.trans z))];exact⟨h1,h2,h3⟩
theorem KT.put {H:Hp}{kvs:List (List Key×V)}{xs:List (List Key×Addr×Value)}(r:KT H kvs xs) (k:List Key){b:Addr}{y:V}{u:Value}(hb:H b=some (.tup (k.map kV))) (ry:RelV y u) :
  KT H (putK kvs k y) (storedH xs k b u):=by
 have e:(kvs.any λkv=>decide (kv.1=k))=(atKey xs k).isSome:=by
  rw[valV_any,(r.val k).isSome_eq,Option.isSome_map]
 unfold putK storedH
 rw[e]
 by_cases q:(atKey xs k).isSome=true
 ·rw[if_pos q,if_pos q];exact r.repl k ry
 ·rw[if_neg q,if_neg q];exact Paired.snoc r ⟨rfl,hb,ry⟩
theorem KT.keeps {H H':Hp}{kvs:List (List Key×V)}{xs:List (List Key×Addr×Value)}(r:KT H kvs xs) (ht:∀b ys,H b=some (.tup ys)->H' b=some (.tup ys)):KT H' kvs xs:=
 Paired.mapP r λ_ _ z=>⟨z.1,ht _ _ z.2.1,z.2.2⟩
section
variable {P:Program}{w:World}{H:Hp}{h:Heap}{a:Addr}
theorem rd_of {u:HO}(ok:HOk P w H h) (e:Rd H a u):ObjOk P w H h a u:=e.ok ok
theorem dk_rd {kvs:List (Key×V)}(ok:HOk P w H h) (e:Rd H a (.dK kvs)):kvs.length<=sizeLine/\(a==sysModules)=false/\∃vs,KV kvs vs/\h.DictOf (mixKind P w) a vs:=
 show ObjOk P w H h a (.dK kvs) from rd_of ok e
theorem dk_of {kvs:List (Key×V)}(ok:HOk P w H h) (e:H a=some (.dK kvs)):kvs.length<=sizeLine/\(a==sysModules)=false/\∃vs,KV kvs vs/\h.DictOf (mixKind P w) a vs:=dk_rd ok (.inl e)
theorem key_of {ks:List Key}(ok:HOk P w H h) (e:H a=some (.tup (ks.map kV))):(tupleKind (mixKind P w)).is h ks a:=by
 obtain⟨_,its,r,o,h1,h2,n,h3⟩:=(show ObjOk P w H h a (.tup (ks.map kV)) from ok a _ e)
 exact⟨o,its.toArray,n,h1,h2,h3,by simpa using items_are r⟩
theorem dt_rd {kvs:List (List Key×V)}(ok:HOk P w H h) (e:Rd H a (.dT kvs)):kvs.length<=sizeLine/\(a==sysModules)=false /\
  ∃xs,KT H kvs xs/\h.DictOfH (tupleKind (mixKind P w)) a xs:=by
 obtain⟨z,y,xs,r,o,es,ep,h1,h2,h3,h4,h5⟩:=(show ObjOk P w H h a (.dT kvs) from rd_of ok e)
 refine⟨z,y,xs,r,o,es,ep,h1,h2,h3,h4,λx hx=>?_,h5⟩
 have all:∀{l:List (List Key×V)}{m:List (List Key×Addr×Value)},KT H l m->∀x∈m,(tupleKind (mixKind P w)).is h x.1 x.2.1:=by
  intro l m q
  induction q with
  |nil=>intro x hx;exact nomatch hx
  |@cons p q ps qs hq t ih=>
   intro x hx
   rcases List.mem_cons.mp hx with e|hx
   ·subst e
    exact key_of ok (by rw[<- hq.1];exact hq.2.1)
   ·exact ih x hx
 exact all r x hx
theorem dt_of {kvs:List (List Key×V)}(ok:HOk P w H h) (e:H a=some (.dT kvs)):kvs.length<=sizeLine/\(a==sysModules)=false /\
  ∃xs,KT H kvs xs/\h.DictOfH (tupleKind (mixKind P w)) a xs:=dt_rd ok (.inl e)
end
def DGet (H:Hp) (a:Addr) (y:V) (r:Option V):Prop:=
 (∃kvs k,Rd H a (.dK kvs)/\y=kV k/\r=valV kvs k)\/∃kvs k b,Rd H a (.dT kvs)/\y=.ref b/\H b=some (.tup (k.map kV))/\r=valV kvs k
def DPut (H:Hp) (a:Addr) (y v:V) (H':Hp):Prop:=
 (∃kvs k,H a=some (.dK kvs)/\y=kV k/\kvs.length<sizeLine/\H'=upd H a (.dK (putK kvs k v))) \/
 ∃kvs k b,H a=some (.dT kvs)/\y=.ref b/\H b=some (.tup (k.map kV))/\kvs.length<sizeLine/\H'=upd H a (.dT (putK kvs k v))
theorem DGet.k {H:Hp}{a:Addr}{kvs:List (Key×V)}{k:Key}(e:H a=some (.dK kvs)):DGet H a (kV k) (valV kvs k):=.inl ⟨kvs,k,.inl e,rfl,rfl⟩
theorem DPut.k {H:Hp}{a:Addr}{kvs:List (Key×V)}{k:Key}{v:V}(e:H a=some (.dK kvs)) (hl:kvs.length<sizeLine):DPut H a (kV k) v (upd H a (.dK (putK kvs k v))):=.inl ⟨kvs,k,e,rfl,hl,rfl⟩
section
variable {X:Cx}{pins:List (Addr×Obj)}{σ:St}{H:Hp}{s:Shared}{a:Addr}{y v:V}{u r:Value}{o:Option V}{A:Around}{E:Value->Shared->Prop}
theorem Inv.big (I:Inv X pins σ H s):sysModules<s.heap.objs.size:=by
 have h:mainGlobals<s.heap.objs.size:=(I.mod.glob.keeps I.bk).lt
 exact Nat.lt_trans (by decide) h
theorem d_notIn {Q:Value->Shared->Prop}(hu:A.units+1<cLine) (I:Inv X pins σ H s) (g:DGet H a y o) (ry:RelV y u) (h:∀s',Inv X pins σ H s'->Q (.bool (!o.isSome)) s') :
  wpAny (model X.prog X.w) A (compareOp .NotIn u (.ref a)) Q E s:=by
 rcases g with ⟨kvs,k,e,ey,l⟩|⟨kvs,k,b,e,ey,eb,l⟩
 ·subst ey
  obtain⟨z,hd,vs,rel,dd⟩:=dk_rd I.hok e
  refine wpAny_notIn_of (kV_is ry) hd dd.mapOf ?_
  rw[<- (rel.val k).isSome_eq,<- l]
  exact h _ (I.tok _)
 ·subst ey
  cases (show u=Value.ref b from ry)
  obtain⟨z,hd,xs,rel,dd⟩:=dt_rd I.hok e
  refine wpAny_notIn_heap (tupleKind_room_in1 hu) (key_of I.hok eb) hd dd ?_
  have q:=(rel.val k).isSome_eq
  rw[Option.isSome_map] at q
  rw[<- q,<- l]
  exact h _ (I.tok _)
theorem d_write {h':Heap}{t':Nat}{ob:HO}(I:Inv X pins σ H s) (mu:Mut (H a)) (hs:Heap.SameBut a s.heap h') (he:∃q,h'.get? a=some q) (new:ObjOk X.prog X.w (upd H a ob) h' a ob) :
  Inv X pins σ (upd H a ob) { s with heap:=h',toks:=t' }:=
 I.write (x:=a) (e:=a) mu (.inl rfl) (λb q hb z=>(hs.2 b hb).trans z) he new
theorem dk_new {P:Program}{w:World}{H':Hp}{h':Heap}{kvs:List (Key×V)}{vs:List (Key×Value)}(z:kvs.length<=sizeLine) (hd:(a==sysModules)=false) (rel:KV kvs vs) (dd:h'.DictOf (mixKind P w) a vs) :
  ObjOk P w H' h' a (.dK kvs):=⟨z,hd,vs,rel,dd⟩
theorem d_setItem {H':Hp}{Q:Unit->Shared->Prop}(hu:A.units+1<cLine) (I:Inv X pins σ H s) (g:DPut H a y v H') (ry:RelV y u) (rv:RelV v r) (h:∀s',Inv X pins σ H' s'->Q () s') :
  wpAny (model X.prog X.w) A (setItem (.ref a) u r) Q E s:=by
 rcases g with ⟨kvs,k,e,ey,l,eH⟩|⟨kvs,k,b,e,ey,eb,l,eH⟩
 ·subst ey eH
  obtain⟨z,hd,vs,rel,dd⟩:=dk_of I.hok e
  have hz:vs.length<=sizeLine:=by rw[<- rel.length];exact z
  have hl:(putK kvs k v).length<=sizeLine:=by have:=length_putK kvs k v;lia
  refine wpAny_setItem_pairs (hsz:=hz) (kV_is ry) dd λh' dd' hs=>h _ ?_
  have he:∃q,h'.get? a=some q:=let ⟨q,_,_,hq,_⟩:=dd';⟨q,hq⟩
  exact d_write I (by rw[e];exact True.intro) hs he (dk_new hl hd (rel.put k rv) dd')
 ·subst ey eH
  cases (show u=Value.ref b from ry)
  obtain⟨z,hd,xs,rel,dd⟩:=dt_of I.hok e
  have hz:xs.length<=sizeLine:=by rw[<- Paired.length rel];exact z
  have hl:(putK kvs k v).length<=sizeLine:=by have:=length_putK kvs k v;lia
  refine wpAny_setItem_heap (hsz:=hz) (tupleKind_room_in1 hu) (key_of I.hok eb) dd λh' dd' hs=>h _ ?_
  obtain⟨q,es,ep,hq,h2,h3,h4,_,h5⟩:=dd'
  refine d_write I (by rw[e];exact True.intro) hs ⟨q,hq⟩ ⟨hl,hd,_,(rel.put k eb rv).keeps λc ys ec=>?_,q,es,ep,hq,h2,h3,h4,h5⟩
  rw[upd_ne (ne_of ec e (λz=>nomatch z))]
  exact ec
end
section
variable {X:Cx}{pins:List (Addr×Obj)}{σ:St}{H:Hp}{s:Shared}{a:Addr}{kvs:List (Key×V)}{k:Key}{u:Value}{A:Around}{E:Value->Shared->Prop}
end
def tDNotIn (ty td:TE):TE:=λσ H Q=>ty σ H λy H1=>td σ H1 λx H2=>∃a o,x=.ref a/\DGet H2 a y o/\Q (.bl (!o.isSome)) H2
def sDPut (td ty tv:TE):TS:=λD σ H=>tv σ H λv H1=>td σ H1 λx H2=>ty σ H2 λy H3=>∃a H4,x=.ref a/\DPut H3 a y v H4/\D.nx σ H4
section
variable {X:Cx}{o i e value:Expr}{pos pos' tpos:Pos}{td ty tv:TE}
theorem pc_dnotin (hu:X.A.units+1<cLine) (hi:PE X i ty) (ho:PE X o td):PC X .NotIn i o (tDNotIn ty td):=by
 intro pins s σ H Q I h
 refine thn (hi pins s σ H _ I h) λiv s1 ⟨y,H1,I1,ry,q1⟩=>thn (ho pins s1 σ H1 _ I1 q1) λu s2 ⟨x,H2,I2,rx,a,ov,ex,g,q2⟩=>?_
 subst ex
 obtain rfl:u=Value.ref a:=rx
 exact d_notIn hu I2 g ry λs3 I3=>⟨.bl (!ov.isSome),H2,I3,rfl,q2⟩
theorem ps_dput (hu:X.A.units+1<cLine) (ho:PE X o td) (hi:PE X i ty) (hv:PE X value tv) (hs:swapsWith value (some (.Subscript o i pos')) pos.line X.env=pure false) :
  PS X (.Assign [.Subscript o i pos'] value pos) (sDPut td ty tv):=by
 intro pins s σ H D I h
 refine wpAny_Assign_Subscript (thn (hv pins s σ H _ I h) λr s1 ⟨v,H1,I1,rv,q1⟩=>thn (ho pins s1 σ H1 _ I1 q1) λu s2 ⟨x,H2,I2,rx,q2⟩=>thn (hi pins s2 σ H2 _ I2 q2) λiv s3 ⟨y,H3,I3,ry,a,H4,ex,g,q3⟩=>?_) hs
 subst ex
 obtain rfl:u=Value.ref a:=rx
 exact d_setItem hu I3 g ry rv λs4 I4=>⟨σ,H4,I4,q3⟩
end
theorem dk_empty {P:Program}{w:World}{H:Hp}(h:Heap) (hb:sysModules<h.objs.size):ObjOk P w H (h.push { cls:=.type "dict",data:=.dict #[] }) h.objs.size (.dK []):=
 ⟨Nat.zero_le _,beq_eq_false_iff_ne.mpr (Ne.symm (Nat.ne_of_lt hb)),[],.nil,Heap.DictOf.new h⟩
theorem dt_empty {P:Program}{w:World}{H:Hp}(h:Heap) (hb:sysModules<h.objs.size):ObjOk P w H (h.push { cls:=.type "dict",data:=.dict #[] }) h.objs.size (.dT []):=
 ⟨Nat.zero_le _,beq_eq_false_iff_ne.mpr (Ne.symm (Nat.ne_of_lt hb)),[],.nil,_,#[],0,Heap.get?_push_size _ rfl,⟨rfl,rfl,rfl⟩,rfl,rfl,List.nodup_nil⟩
def tDNewT:TE:=λ_ H Q=>∀p,H p=none->Q (.ref p) (upd H p (.dT []))
section
variable {X:Cx}{pos:Pos}
theorem pe_dnewT:PE X (.Dict [] [] pos) tDNewT:=λpins s σ H Q I h=>
 wpAny_Dict_empty ⟨.ref s.heap.objs.size,_,I.laid (a:=s.heap.objs.size) (o:=.dT []) (t':=s.toks) (λ_ _ q=>Heap.get?_push_of_some _ q) (Nat.le_refl _) (dt_empty s.heap I.big),rfl,h _ (I.hok.fresh (Nat.le_refl _))⟩
end
def tPairs:List (TE×TE)->St->Hp->(List (V×V)->Hp->Prop)->Prop
 |[],_,H,Q=>Q [] H
 |(tk,tv)::r,σ,H,Q=>tk σ H λx H1=>tv σ H1 λy H2=>tPairs r σ H2 λps H3=>Q ((x,y)::ps) H3
abbrev VV:List (V×V)->List (Value×Value)->Prop:=Paired λp q=>RelV p.1 q.1/\RelV p.2 q.2
def PPs (X:Cx) (pos:Pos) (keys:List (Option Expr)) (values:List Expr) (trs:List (TE×TE)):Prop:=
 ∀(pins:List (Addr×Obj)) (s:Shared) (σ:St) (H:Hp) (Q:List (V×V)->Hp->Prop),Inv X pins σ H s->tPairs trs σ H Q ->
  wpAny (model X.prog X.w) X.A (evalPairs (pairTrees keys values X.env pos)) (λvs s'=>∃ps H',Inv X pins σ H' s'/\VV ps vs/\Q ps H') X.xe s
theorem pps_nil {X:Cx}{pos:Pos}:PPs X pos [] [] []:=λpins s σ H Q I h=>pairTrees_nil_walk ⟨[],H,I,.nil,h⟩
theorem pps_cons {X:Cx}{pos:Pos}{k v:Expr}{ks:List (Option Expr)}{vs:List Expr}{tk tv:TE}{trs:List (TE×TE)}(hk:PE X k tk) (hv:PE X v tv) (hr:PPs X pos ks vs trs) :
  PPs X pos (some k::ks) (v::vs) ((tk,tv)::trs):=λpins s σ H Q I h=>
 pairTrees_cons_walk (thn (hk pins s σ H _ I h) λu s1 ⟨x,H1,I1,rx,q1⟩=>thn (hv pins s1 σ H1 _ I1 q1) λw2 s2 ⟨y,H2,I2,ry,q2⟩=>
  thn (hr pins s2 σ H2 _ I2 q2) λws s3 ⟨ps,H3,I3,rel,q3⟩=>⟨(x,y)::ps,H3,I3,.cons ⟨rx,ry⟩ rel,q3⟩)
def mergeK (kvs more:List (Key×V)):List (Key×V):=more.foldl (λacc kv=>putK acc kv.1 kv.2) kvs
theorem KV.merge:∀{more:List (Key×V)}{rs:List (Key×Value)}{kvs:List (Key×V)}{vs:List (Key×Value)},KV more rs->KV kvs vs->KV (mergeK kvs more) (merged vs rs):=by
 intro more rs kvs vs r
 unfold KV at r
 induction r generalizing kvs vs with
 |nil=>intro q;exact q
 |@cons p q ps qs h t ih=>
  intro r0
  have e:KV (putK kvs p.1 p.2) (stored vs q.1 q.2):=by
   have:=r0.put p.1 h.2
   rw[<- h.1];exact this
  exact ih e
theorem length_mergeK:∀(more kvs:List (Key×V)),(mergeK kvs more).length<=kvs.length+more.length
 |[],kvs=>by show kvs.length<=kvs.length+0;lia
 |p::r,kvs=>by
  have h1:=length_mergeK r (putK kvs p.1 p.2)
  have h2:=length_putK kvs p.1 p.2
  show (mergeK (putK kvs p.1 p.2) r).length<=_
  rw[List.length_cons];lia
theorem carries_of {P:Program}{w:World}:∀{kvs:List (Key×V)}{ws:List (Value×Value)},VV (kvs.map λkv=>(kV kv.1,kv.2)) ws->∃rs,Carries (mixKind P w) ws rs/\KV kvs rs
 |[],_,r=>by rw[List.map_nil] at r;cases r;exact⟨[],True.intro,.nil⟩
 |p::kvs,_,r=>by
  rw[List.map_cons] at r
  cases r with
  |@cons a b as bs h t=>
   obtain⟨rs,c,q⟩:=carries_of (P:=P) (w:=w) t
   obtain⟨b1,b2⟩:=b
   exact⟨(p.1,b2)::rs,⟨kV_is h.1,rfl,c⟩,.cons ⟨rfl,h.2⟩ q⟩
def tDisp (trs:List (TE×TE)):TE:=λσ H Q=>∀p,H p=none->tPairs trs σ (upd H p (.dK [])) λps H2=>H2 p=some (.dK [])/\∃kvs:List (Key×V),ps=kvs.map (λkv=>(kV kv.1,kv.2))/\kvs.length<=15/\Q (.ref p) (upd H2 p (.dK (mergeK [] kvs)))
theorem pe_disp {X:Cx}{pos:Pos}{keys:List (Option Expr)}{values:List Expr}{trs:List (TE×TE)}(h:PPs X pos keys values trs) (hall:keys.all (·.isSome)=true) (hl:keys.length=values.length) (h0:keys≠[])
  (h15:keys.length<=15):PE X (.Dict keys values pos) (tDisp trs):=by
 intro pins s σ H Q I q
 have hn:=I.hok.fresh (Nat.le_refl s.heap.objs.size)
 have I1:=I.laid (a:=s.heap.objs.size) (o:=.dK []) (h':=s.heap.push { cls:=.type "dict",data:=.dict #[] }) (t':=s.toks) (λ_ _ q=>Heap.get?_push_of_some _ q) (Nat.le_refl _) (dk_empty s.heap I.big)
 refine wpAny_Dict_walk (knd:=mixKind X.prog X.w) hall hl h0 h15 (thn (h pins _ σ _ _ I1 (q _ hn)) λws s2 ⟨ps,H2,I2,rel,e,kvs,ep,lk,q2⟩=>?_)
 subst ep
 obtain⟨rs,c,rk⟩:=carries_of (P:=X.prog) (w:=X.w) rel
 obtain⟨z,hd,vs0,r0,dd⟩:=dk_of I2.hok e
 cases r0
 refine⟨rs,c,dd,λh' dd' hs=>⟨.ref s.heap.objs.size,_,?_,rfl,q2⟩⟩
 have hz:(mergeK [] kvs).length<=sizeLine:=by
  have h1:=length_mergeK kvs []
  rw[List.length_nil] at h1
  rw[sizeLine_eq];lia
 have he:∃q,h'.get? s.heap.objs.size=some q:=let ⟨q,_,_,hq,_⟩:=dd';⟨q,hq⟩
 exact d_write I2 (by rw[e];exact True.intro) hs he (dk_new hz hd (rk.merge .nil) dd')
section
variable {X:Cx}{pins:List (Addr×Obj)}{σ:St}{H:Hp}{s:Shared}{a:Addr}{y d:V}{u r:Value}{o:Option V}{A:Around}{E:Value->Shared->Prop}
end
section
variable {X:Cx}{o e f:Expr}{apos cpos:Pos}{td ty tx:TE}
end
section
variable {X:Cx}{pins:List (Addr×Obj)}{σ:St}{H:Hp}{s:Shared}{a:Addr}{kvs:List (Key×V)}{A:Around}{E:Value->Shared->Prop}
end
section
variable {X:Cx}{pins:List (Addr×Obj)}{σ:St}{H:Hp}{s:Shared}{a:Addr}{y:V}{u:Value}{A:Around}{E:Value->Shared->Prop}
end
end L2
namespace L2
open PySem PySem.Spec PyProof.Rows
section
variable {X:Cx}
end
section
variable {κ:Type}[DecidableEq κ]
end
end L2
namespace SetT
open PySem
end SetT
namespace SetT
open PySem PySem.Spec PyProof.Rows
section
variable {prog:Program}{w:World}{K:Type}[DecidableEq K]{knd:KeyKind prog w K}{A:Around}{E:Value->Shared->Prop}{s:Shared}
end
end SetT
namespace SetT
open PySem PySem.Spec PyProof.Rows
section
variable {prog:Program}{w:World}{K:Type}[DecidableEq K]{knd:KeyKind prog w K}
variable {A:Around}{R:Result->Shared->Prop}{I:Addr}{fp wr:List Addr}{G:Array GenState->Array GenState->Prop}{n:Nat}{P:Nat->Value->Prop}{St:Nat->Shared->Prop}
end
end SetT
namespace SetT
open PySem PySem.Spec
section
variable {prog:Program}{w:World}{K:Type}[DecidableEq K]{knd:KeyKind prog w K}{A:Around}{E:Value->Shared->Prop}{s:Shared}
end
end SetT
namespace L2
open PySem PySem.Spec PyProof.Rows
section
variable {X:Cx}
theorem closure_ok {env:Env}:∀{names:List (Str×NameKind)}{acc:List (Str×Addr)},
  (∀p∈names,p.2=.free->∃c,cellOf env p.1=pure c/\env.cells.lookup p.1=some c) ->
  (∀y c,acc.lookup y=some c->env.cells.lookup y=some c) ->
  ∃cl:List (Str×Addr),(forIn names acc λp cs=>(if p.2==.free then (do let c <- cellOf env p.1;pure (ForInStep.yield ((p.1,c)::cs))) else pure (ForInStep.yield cs):Sem (ForInStep (List (Str×Addr)))))=pure cl /\
   (∀y c,cl.lookup y=some c->env.cells.lookup y=some c)/\(∀y,(acc.lookup y).isSome=true->(cl.lookup y).isSome=true)/\∀p∈names,p.2=.free->(cl.lookup p.1).isSome=true
 |[],acc,_,ha=>⟨acc,by simp,ha,λ_ h=>h,λ_ h=>absurd h (by simp)⟩
 |(n,k)::r,acc,hn,ha=>by
  by_cases hk:k=.free
  ·subst hk
   obtain⟨c,e1,e2⟩:=hn (n,.free) List.mem_cons_self rfl
   obtain⟨cl,h1,h2,h3,h4⟩:=closure_ok (env:=env) (names:=r) (acc:=(n,c)::acc) (λp hp=>hn p (List.mem_cons_of_mem _ hp)) (λy d h=>by
    rw[List.lookup_cons] at h
    cases hy:y==n with
    |true=>rw[hy] at h;cases h;rw[eq_of_beq hy];exact e2
    |false=>rw[hy] at h;exact ha y d h)
   refine⟨cl,?_,h2,λy hy=>h3 y (by
    rw[List.lookup_cons]
    cases y==n with
    |true=>rfl
    |false=>exact hy),λp hp hf=>?_⟩
   ·rw[List.forIn_cons]
    have e1':cellOf env n=pure c:=e1
    simp only[beq_self_eq_true,if_true,e1',pure_bind]
    exact h1
   ·rcases List.mem_cons.mp hp with rfl|hp
    ·exact h3 _ (by simp[List.lookup_cons])
    ·exact h4 p hp hf
  ·obtain⟨cl,h1,h2,h3,h4⟩:=closure_ok (env:=env) (names:=r) (acc:=acc) (λp hp=>hn p (List.mem_cons_of_mem _ hp)) ha
   refine⟨cl,?_,h2,h3,λp hp hf=>?_⟩
   ·rw[List.forIn_cons]
    have:(k==NameKind.free)=false:=by simpa using hk
    simp only[this,Bool.false_eq_true,if_false,pure_bind]
    exact h1
   ·rcases List.mem_cons.mp hp with rfl|hp
    ·exact absurd hf hk
    ·exact h4 p hp hf
def compCx (X:Cx) (scope:Scope) (cl:List (Str×Addr)) (C:Addr) (x:Str) (fp:List Addr) (s₀:Shared) (H₀:Hp):Cx:=
 { X with N:=x::X.N,s₀:=s₀,H₀:=H₀,env:=compEnvC scope cl C X.env,outer:=X.stack,stack:=X.stack,ex:=fp,fn:=λ_=>false,pn:=[],xe:=λ_ _=>False }
def tComp (wi:TI) (te:TE):TE:=λσ H Q=>wi σ H λJ H1=>∀D,H1 D=none->∃W:Nat->Nat->List V->Hp->Prop,(∃m,W 0 m [] (upd H1 D (.lst []))) /\
 ∀i m xs H2,W i m xs H2->H2 D=some (.lst xs)/\xs.length<sizeLine/\((J.stop i H2/\Q (.ref D) H2)\/(J.go i H2/\∀y H3,J.yld i H2 y H3 ->
  te (some y::σ) H3 λv H4=>H4 D=some (.lst xs)/\∃m',m'<m/\W (i+1) m' (xs++[v]) (upd H4 D (.lst (xs++[v])))))
theorem compLoop_any {prog:Program}{w:World}{A:Around}{R:Result->Shared->Prop}{s:Shared}{elt target iter:Expr}{scope:Scope}{pos:Pos}{it acc:Value}{env:Env}(I:Nat->Shared->Prop)
  (turn:∀n s,I n s->wpAny (model prog w) A (pyNext it) (λr s₁=>match r with
   |none=>R (.ok .next) s₁
   |some v=>wpAny (model prog w) A (letOwnedTupleGo target it v) (λ_ s₁'=>wpAny (model prog w) A (assign target env v) (λ_ s₂=>wpAny (model prog w) A (eval elt env) (λx s₃=>
     wpAny (model prog w) A (call (.builtin "list.append") [acc,x]) (λ_ s₄=>∃m,m<n/\I m s₄) (λ_ _=>False) s₃)
     (λ_ _=>False) s₂) (λ_ _=>False) s₁') (λ_ _=>False) s₁) (λ_ _=>False) s)
  (n:Nat) (h:I n s) :
  codeAny (model prog w) A (.compLoop (.ListComp elt [⟨target,iter,[],0⟩] scope pos) 0 it acc env) R s:=by
 refine codeAny_loop rfl I (λn s hI=>?_) n h
 show wpAny _ A ((compTurn (.ListComp elt [⟨target,iter,[],0⟩] scope pos) 0 it acc env).onRaise (λx=>do noteFrame x env;theTreesLotGoes x)) _ _ s
 refine wpAny_noted ?_
 rw[compTurn_list1]
 refine wpAny_bind (wpAny_standAt (wpAny_bind (wpAny_mono (turn n s hI) (λr s₁ h₁=>?_) λ_ _ h'=>h'.elim)))
 cases r with
 |none=>exact wpAny_pure h₁
 |some v=>
  refine wpAny_bind (wpAny_mono h₁ (λ_ s₁' h₁'=>?_) λ_ _ h'=>h'.elim)
  exact wpAny_bind (wpAny_mono h₁' (λ_ s₂ h₂=>wpAny_bind (wpAny_bind (wpAny_mono h₂ (λx s₃ h₃=>wpAny_bind (wpAny_mono h₃
   (λ_ s₄ h₄=>wpAny_pure (wpAny_pure ⟨rfl,h₄⟩)) λ_ _ h'=>h'.elim)) λ_ _ h'=>h'.elim))) λ_ _ h'=>h'.elim)
theorem closureFor_some {scope:Scope}{env:Env}(hf:∀p∈scope.names,p.2=.free->∃c,env.cells.lookup p.1=some c) :
  ∃cl:List (Str×Addr),closureFor scope env=pure cl/\(∀y c,cl.lookup y=some c->env.cells.lookup y=some c)/\∀p∈scope.names,p.2=.free->(cl.lookup p.1).isSome=true:=by
 obtain⟨cl,h1,h2,_,h4⟩:=closure_ok (env:=env) (names:=scope.names) (acc:=[]) (λp hp hk=>by
  obtain⟨c,e⟩:=hf p hp hk
  refine⟨c,?_,e⟩
  unfold cellOf
  rw[e]) (λy c h=>by simp at h)
 refine⟨cl,?_,h2,h4⟩
 unfold closureFor
 refine Eq.trans ?_ h1
 simp only[bind_pure]
theorem relabel_vis {env:Env}:∀{names:List (Str×NameKind)}{y:Str}{k:NameKind},(names.map λ(n,k)=>if (k==NameKind.free&&env.scope.kind==.function&&env.kindOf n==some .cell) then (n,NameKind.cell) else (n,k)).lookup y=some k ->
  (∀p∈names,p.2≠.cell)->(k=.cell\/k=.free)->∃p∈names,p.1=y/\p.2=.free
 |[],_,_,h,_,_=>by simp at h
 |(n,k0)::r,y,k,h,hc,hk=>by
  rw[List.map_cons] at h
  by_cases hy:y=n
  ·subst hy
   by_cases h0:k0=.free
   ·exact⟨(y,k0),List.mem_cons_self,rfl,h0⟩
   ·exfalso
    have e:(k0==NameKind.free)=false:=by simpa using h0
    simp only[e,Bool.false_and,Bool.false_eq_true,if_false,List.lookup_cons,beq_self_eq_true,Option.some.injEq] at h
    rcases hk with z|z
    ·exact hc _ List.mem_cons_self (h.trans z)
    ·exact h0 (h.trans z)
  ·have hb:(y==n)=false:=by simpa using hy
   have h':(r.map λ(n,k)=>if (k==NameKind.free&&env.scope.kind==.function&&env.kindOf n==some .cell) then (n,NameKind.cell) else (n,k)).lookup y=some k:=by
    revert h
    dsimp only
    split<;>(intro h;simpa only [List.lookup_cons,hb] using h)
   obtain⟨p,hp,e⟩:=relabel_vis h' (λp hp=>hc p (List.mem_cons_of_mem _ hp)) hk
   exact⟨p,List.mem_cons_of_mem _ hp,e⟩
theorem relabel_local {env:Env}:∀{names:List (Str×NameKind)}{y:Str},(names.map λ(n,k)=>if (k==NameKind.free&&env.scope.kind==.function&&env.kindOf n==some .cell) then (n,NameKind.cell) else (n,k)).lookup y=some .local ->
  names.lookup y=some .local
 |[],_,h=>by simp at h
 |(n,k0)::r,y,h=>by
  rw[List.map_cons] at h
  by_cases hy:y=n
  ·subst hy
   rw[List.lookup_cons,beq_self_eq_true]
   revert h
   dsimp only
   split
   ·intro h;simp[List.lookup_cons] at h
   ·intro h;simpa [List.lookup_cons] using h
  ·have hb:(y==n)=false:=by simpa using hy
   rw[List.lookup_cons,hb]
   refine relabel_local (env:=env) ?_
   revert h
   dsimp only
   split<;>(intro h;simpa only [List.lookup_cons,hb] using h)
end
end L2
namespace L2
open PySem PySem.Spec PyProof.Rows
section
variable {X:Cx}
theorem comp_start {pins:List (Addr×Obj)}{σ:St}{H:Hp}{s:Shared}{h':Heap}{tk:Nat}{scope:Scope}{cl:List (Str×Addr)}{C:Addr}{x:Str}{fp:List Addr}{m:Str->Option Value}
  (I:Inv X pins σ H s) (hC:C=s.heap.objs.size) (keep:∀b o,s.heap.get? b=some o->h'.get? b=some o) (ns:h'.Ns C m) (hfp:∀b∈fp,FpOk X pins H b) (hfs:∀b∈fp,b<s.heap.objs.size)
  (hkind:scope.kind=.function) (hcell:∀y∈scope.names,y.2≠.cell) (hloc:∀y∈X.N,scope.names.lookup y≠some .local)
  (hcl1:∀y c,cl.lookup y=some c->X.env.cells.lookup y=some c) (hcl2:∀p∈scope.names,p.2=.free->(cl.lookup p.1).isSome=true)
  (hfr:∀p∈scope.names,p.2=.free->Vis X.env.scope p.1/\X.env.scope.names.lookup p.1≠some .local) :
  Inv (compCx X scope cl C x fp s H) [] (none::σ) H { s with heap:=h',toks:=tk }:=by
 have cells:∀y c,cl.lookup y=some c->∃v,s.heap.IsCell c v:=λy c e=>I.cell y c (hcl1 y c e)
 have celllt:∀y c,cl.lookup y=some c->c<s.heap.objs.size:=λy c e=>by
  obtain⟨v,q⟩:=cells y c e
  exact q.lt
 have cellk:∀c v,s.heap.IsCell c v->h'.IsCell c v:=λc v ⟨o,e,d⟩=>⟨o,keep c o e,d⟩
 have stkl:∀b∈frs X.stack,∃o,s.heap.get? b=some o:=λb hb=>by
  rcases List.mem_cons.mp (I.stkSub b hb) with e|hb
  ·obtain⟨_,⟨o,_,_,ho,_⟩,_⟩:=I.loc
   exact⟨o,by rw[e];exact ho⟩
  ·obtain⟨_,o,ho,_⟩:=I.funs.mem hb
   exact⟨o,ho⟩
 refine⟨⟨I.ok.mod,hkind,I.ok.glob,I.ok.blt,Nat.le_of_eq hC.symm,λy z c h1 h2=>I.ok.inj y z c (hcl1 y c h1) (hcl1 z c h2),λy hy=>?_,λy c h _=>Bool.noConfusion h,I.ok.hd,I.ok.frames,.inl rfl,λb hb=>⟨?_,λy c e z=>?_⟩,I.bs,
  Nat.le_trans I.ok.bsz I.sz,λb o e hb=>?_,λb hb hf=>?_,I.stack,I.stkFree⟩,rfl,I.bare,Un.kept keep,⟨m,ns,λi y v h1 h2 h3=>?_⟩,λy c e=>?_,?_,λy c e=>?_,λp hp=>absurd hp (by simp[compCx]),I.hok.kept keep,?_⟩
 ·
  have hy:(relabel scope X.env).names.lookup y=some .cell\/(relabel scope X.env).names.lookup y=some .free:=hy
  obtain⟨p,hp,e1,e2⟩:∃p∈scope.names,p.1=y/\p.2=.free:=by
   rcases hy with hy|hy
   ·exact relabel_vis hy hcell (.inl rfl)
   ·exact relabel_vis hy hcell (.inr rfl)
  obtain⟨c,e⟩:=Option.isSome_iff_exists.mp (hcl2 p hp e2)
  exact⟨c,by rw[<- e1];exact e⟩
 ·show b≠C
  rw[hC];exact Nat.ne_of_lt (hfs b hb)
 ·exact (hfp b hb).2.2.2.2.1 y c (hcl1 y c e) z
 ·rcases (hfp b hb).2.2.2.1 with z|z
  ·exact I.ok.noex b o e z
  ·exact absurd (Nat.lt_of_lt_of_le (Heap.lt_size (I.ok.bs b o e).1) z) (Nat.lt_irrefl _)
 ·rcases List.mem_cons.mp (I.stkSub b hf) with z|z
  ·exact (hfp b hb).2.1 z
  ·exact (hfp b hb).2.2.1 z
 ·
  cases i with
  |zero=>simp at h2
  |succ j=>
   have h1:X.N[j]?=some y:=by simpa [compCx] using h1
   have h2:σ[j]?=some (some v):=by simpa using h2
   have h3:(relabel scope X.env).names.lookup y=some .local\/(relabel scope X.env).names.lookup y=some .cell\/(relabel scope X.env).names.lookup y=some .free:=h3
   rcases h3 with h3|h3
   ·exact absurd (relabel_local h3) (hloc y (List.mem_of_getElem? h1))
   ·obtain⟨p,hp,e1,e2⟩:∃p∈scope.names,p.1=y/\p.2=.free:=by
     rcases h3 with h3|h3
     ·exact relabel_vis h3 hcell (.inl rfl)
     ·exact relabel_vis h3 hcell (.inr rfl)
    obtain⟨hv,hnl⟩:=hfr p hp e2
    rw[e1] at hv hnl
    obtain⟨m0,_,hl0⟩:=I.loc
    obtain⟨u,ru,lk⟩:=hl0 j y v h1 h2 hv
    rcases lk with ⟨lk,_⟩|⟨_,c,hc,hcv⟩
    ·exact absurd lk hnl
    ·obtain⟨c',e'⟩:=Option.isSome_iff_exists.mp (hcl2 p hp e2)
     rw[e1] at e'
     have:=hcl1 y c' e'
     rw[hc] at this
     cases this
     refine⟨u,ru,.inr ⟨h3,c,e',cellk c _ hcv⟩⟩
 ·obtain⟨v,q⟩:=cells y c e
  exact⟨v,cellk c v q⟩
 ·show H C=none
  exact I.hok.fresh (Nat.le_of_eq hC.symm)
 ·exact I.freeC y c (hcl1 y c e)
 ·show (none::σ).length=(x::X.N).length
  simp[I.len]
theorem comp_end {pins:List (Addr×Obj)}{σ σ':St}{H H':Hp}{s s':Shared}{h':Heap}{scope:Scope}{cl:List (Str×Addr)}{C:Addr}{x:Str}{fp:List Addr}
  (I:Inv X pins σ H s) (hC:C=s.heap.objs.size) (hfp:∀b∈fp,FpOk X pins H b) (J:Inv (compCx X scope cl C x fp s H) [] σ' H' s') (sb:Heap.SameBut C s'.heap h'):Inv X pins σ H' { s' with heap:=h' }:=by
 have ne:∀b o,s.heap.get? b=some o->b≠C:=λb o e=>by rw[hC];exact Nat.ne_of_lt (Heap.lt_size e)
 have B:Un (frs X.stack) fp H H' s.heap s'.heap:=J.base
 have U:Un (frs X.stack) fp H H' s.heap h':=
  ⟨λb o e n hb hx=>(sb.2 b (ne b o e)).trans (B.keep b o e n hb hx),λb o e n hb hx=>by
   obtain⟨sl,q⟩:=B.slot b o e n hb hx
   exact⟨sl,(sb.2 b (ne b o e)).trans q⟩,B.free,λb o e hx=>by
   obtain⟨o',q⟩:=B.there b o e hx
   exact⟨o',(sb.2 b (ne b o e)).trans q⟩,B.tups,B.frzs,B.tbls⟩
 have hf:H' C=none:=J.free
 have K:HOk X.prog X.w H' h':=λb o e=>(J.hok b o e).stay (λc u hc q=>(sb.2 c (by
  rintro rfl
  rcases hc with z|z
  ·rw[z,e] at hf;cases hf
  ·rw[hf] at z;cases z)).trans q) (λ_ q=>q) λ_ _ q=>q
 refine I.call' (s':={ s' with heap:=h' }) (ch:=fp) J.os U K J.bare λb hb=>?_
 obtain⟨_,h2,_,h4,h5,h6⟩:=hfp b hb
 exact⟨h4,h2,h5,h6⟩
theorem pe_comp {x:Str}{px pos:Pos}{elt iter:Expr}{scope:Scope}{wi:TI}{te:TE}(hc:X.calm=true) (hN:X.N.Nodup) (hi:PI X (.Name x px) iter wi) (he:∀cl C fp s₀ H₀,PE (compCx X scope cl C x fp s₀ H₀) elt te)
  (hkind:scope.kind=.function) (hcell:∀y∈scope.names,y.2≠.cell) (hnames:∀y∈scope.names,y.2=.local->scope.names.lookup y.1=some .local) (hx:scope.names.lookup x=some .local)
  (hloc:∀y∈X.N,scope.names.lookup y≠some .local) (hfr:∀p∈scope.names,p.2=.free->Vis X.env.scope p.1/\X.env.scope.names.lookup p.1≠some .local)
  (hs:∀x,foldedSetIterable iter X.env x=pure x:=by intro _;rfl):PE X (.ListComp elt [⟨.Name x px,iter,[],0⟩] scope pos) (tComp wi te):=by
 intro pins s σ H Q I h
 rw[eval_ListComp]
 obtain⟨cl,hclos,hcl1,hcl2⟩:=closureFor_some (scope:=scope) (env:=X.env) (λp hp hk=>by
  obtain⟨hv,hn⟩:=hfr p hp hk
  refine I.ok.has p.1 ?_
  rcases hv with z|z
  ·exact absurd z hn
  ·exact z)
 refine wpAny_comprehension_free (use:=none) rfl hs hclos hkind hnames (thn (hi pins s σ H _ I h) λv s1 h1=>thn h1 λitv s2 h2=>?_)
 obtain⟨it,fp,tn,J,H2,rfl,I2,T,st2,f2,q⟩:=h2
 have hD:H2 s2.heap.objs.size=none:=I2.hok.fresh (Nat.le_refl _)
 obtain⟨W,⟨m0,w0⟩,turn⟩:=q _ hD
 refine wpAny_newObj_type (wpAny_newFunctionEnv hcell (by intro y hy;simp at hy) (λh₁ hns₁ hsb₁=>?_) hkind)
 dsimp only at hns₁ hsb₁ ⊢
 have I3:Inv X pins σ (upd H2 s2.heap.objs.size (.lst [])) { s2 with heap:=s2.heap.push { cls:=.type "list",dict:=none,data:=.seq ([]:List Value).toArray } }:=
  I2.laid (t':=s2.toks) (λb u e=>Heap.get?_push_of_some _ e) (Nat.le_refl _) ⟨Nat.zero_le _,[],0,.nil,Heap.get?_push_size _ rfl⟩
 have fpn:∀b∈fp,b≠s2.heap.objs.size:=λb hb=>by
  obtain⟨o,e,_⟩:=T.obj 0 s2.heap st2 b hb
  exact Nat.ne_of_lt (Heap.lt_size e)
 have fplt:∀b∈fp,b<(s2.heap.push { cls:=.type "list",dict:=none,data:=.seq ([]:List Value).toArray }).objs.size:=λb hb=>by
  obtain⟨o,e,_⟩:=T.obj 0 s2.heap st2 b hb
  rw[Heap.size_push];exact Nat.lt_succ_of_lt (Heap.lt_size e)
 have f3:∀b∈fp,FpOk X pins (upd H2 s2.heap.objs.size (.lst [])) b:=λb hb=>⟨by rw[upd_ne (fpn b hb)];exact (f2 b hb).1,(f2 b hb).2⟩
 generalize hg2:s2.heap.push { cls:=.type "list",dict:=none,data:=.seq ([]:List Value).toArray }=g2 at hns₁ hsb₁ I3 fplt ⊢
 have keep:∀b o,g2.get? b=some o->h₁.get? b=some o:=λb o e=>(hsb₁.2 b (Nat.ne_of_lt (Heap.lt_size e))).trans (Heap.get?_push_of_some _ e)
 have J0:=comp_start (x:=x) (tk:=s2.toks+([]:List (Str×Value)).length) I3 (C:=g2.objs.size) rfl keep hns₁ f3 fplt hkind hcell hloc hcl1 hcl2 hfr
 generalize hY:compCx X scope cl g2.objs.size x fp { s2 with heap:=g2 } (upd H2 s2.heap.objs.size (.lst []))=Y at J0
 have eY:PE Y elt te:=by rw[<- hY];exact he _ _ _ _ _
 have eP:Y.prog=X.prog:=by rw[<- hY];rfl
 have eW:Y.w=X.w:=by rw[<- hY];rfl
 have eK:Y.K=X.K:=by rw[<- hY];rfl
 have eA:Y.A=X.A:=by rw[<- hY];rfl
 have eC:Y.calm=true:=by rw[<- hY];exact hc
 have eE:Y.env=compEnvC scope cl g2.objs.size X.env:=by rw[<- hY];rfl
 have eX:Y.xe=λ_ _=>False:=by rw[<- hY];rfl
 have eN:Y.N=x::X.N:=by rw[<- hY];rfl
 have eEx:Y.ex=fp:=by rw[<- hY];rfl
 have eFs:Y.fs=frs X.stack:=by rw[<- hY];rfl
 have ePn:Y.pn=[]:=by rw[<- hY];rfl
 have ndY:Y.N.Nodup:=by
  rw[eN]
  exact List.nodup_cons.mpr ⟨λz=>hloc x z hx,hN⟩
 have locY:Y.env.scope.names.lookup x=some .local:=by rw[eE];exact lookup_relabel_local hx
 have fpY:∀{H':Hp},(∀b∈fp,H' b=none)->∀b∈fp,FpOk Y [] H' b:=λhn b hb=>by
  have g:=f3 b hb
  refine⟨hn b hb,?_,?_,.inl (by rw[eEx];exact hb),?_,λp hp=>absurd hp (by rw[ePn];simp)⟩
  ·rw[eE];exact Nat.ne_of_lt (fplt b hb)
  ·rw[eFs]
   intro z
   rcases List.mem_cons.mp (I3.stkSub b z) with z|z
   ·exact g.2.1 z
   ·exact g.2.2.1 z
  ·rw[eE]
   exact λy c e=>g.2.2.2.2.1 y c (hcl1 y c e)
 have loop:∀s₃:Shared,s₃={ s2 with heap:=h₁,toks:=s2.toks+([]:List (Str×Value)).length } ->
   codeAny (model X.prog X.w) X.A (.compLoop (.ListComp elt [⟨.Name x px,iter,[],0⟩] scope pos) 0 (.ref it) (.ref s2.heap.objs.size) (compEnvC scope cl g2.objs.size X.env))
    (compPost (model X.prog X.w) X.A X.xe none (EP X pins σ Q) (.ref s2.heap.objs.size) g2.objs.size) s₃:=by
  rintro s₃ rfl
  refine compLoop_any (λn s'=>∃i xs H' o,Inv Y [] (o::σ) H' s'/\tn i s'.heap/\(∀b∈fp,H' b=none)/\W i n xs H') ?_ m0
   ⟨0,[],_,none,J0,T.keep 0 _ _ st2 (λb hb o e=>keep b o (by rw[<- hg2];exact Heap.get?_push_of_some _ e)),λb hb=>(f3 b hb).1,w0⟩
  rintro n s3 ⟨i,xs,H3,o,I4,st3,fr3,w3⟩
  obtain⟨hDx,hlx,alt⟩:=turn i n xs H3 w3
  rcases alt with ⟨stop,qn⟩|⟨go,step⟩
  ·have D1:=T.done Y eP eW eK eC i [] s3 _ H3 (λ_ _=>False) I4 (fpY fr3) st3 stop
   rw[eA] at D1
   refine thn D1 λr s4 ⟨hr,I5⟩=>?_
   subst hr
   obtain⟨m4,hns4,_⟩:=id I5.loc
   rw[eE] at hns4
   refine⟨m4,hns4,λh' sb=>⟨.ref _,H3,?_,rfl,qn⟩⟩
   rw[<- hY] at I5
   exact comp_end I3 rfl f3 I5 sb
  ·have G1:=T.item Y eP eW eK eC i [] s3 _ H3 (λ_ _=>False) I4 (fpY fr3) st3 go
   rw[eA] at G1
   refine thn G1 λr s4 ⟨u,hr,h4⟩=>?_
   subst hr
   refine thn h4 λ_ s5 ⟨y,H5,I5,r5,y5,st5,fr5⟩=>?_
   have I5':=I5.pinned (fpY fr5) (T.obj _ _ st5)
   have S1:=(pg_name (X:=Y) (pos:=px) (i:=0) ndY (by rw[eN];rfl) (.inl locY) (.inr locY)) _ s5 _ H5 y u (λσ6 H6=>σ6=some y::σ/\H6=H5) I5' r5 ⟨rfl,rfl⟩
   rw[eP,eW,eA,eE,eX] at S1
   refine thn S1 λ_ s6 ⟨σ6,H6,I6,e6,e6'⟩=>?_
   subst e6 e6'
   have S2:=eY _ s6 _ _ _ I6 (step y _ y5)
   rw[eP,eW,eA,eE,eX] at S2
   refine thn S2 λxv s7 ⟨v7,H7,I7,r7,hD7,m',hm',w7⟩=>?_
   have S3:=mt_append (X:=Y) _ s7 _ H7 (.ref s2.heap.objs.size) [v7] (.ref s2.heap.objs.size) [xv] (λ_ H8=>H8=upd H7 s2.heap.objs.size (.lst (xs++[v7]))) I7 rfl (.cons r7 .nil) ⟨_,xs,v7,rfl,rfl,hD7,hlx,rfl⟩
   rw[eP,eW,eA,eX] at S3
   refine thn S3 λ_ s8 ⟨v8,H8,I8,_,e8⟩=>?_
   subst e8
   have pin:∀b∈fp,∀ob,s5.heap.get? b=some ob->s8.heap.get? b=some ob/\(upd H7 s2.heap.objs.size (.lst (xs++[v7]))) b=none:=λb hb ob e=>by
    have z:=I8.pin (b,ob) (List.mem_append_right _ (List.mem_append_right _ (mem_pinsAt hb e)))
    exact⟨z.1,z.2.1⟩
   refine⟨m',hm',i+1,xs++[v7],_,some y,I8.unpinned,T.keep _ _ _ st5 (λb hb ob e=>(pin b hb ob e).1),λb hb=>?_,w7⟩
   obtain⟨ob,e,_⟩:=T.obj _ _ st5 b hb
   exact (pin b hb ob e).2
 exact codeAny_compStart_list (loop _ rfl) (T.self _ 0 _ _ _ (T.keep 0 _ _ st2 (λb hb o e=>keep b o (by rw[<- hg2];exact Heap.get?_push_of_some _ e))) (loop _ rfl))
end
end L2
namespace L2
open PySem PySem.Spec PyProof.Rows PySem.W
section
variable {M:Model}{A:Around}{E:Value->Shared->Prop}{s:Shared}{base:Heap}{env:Env}{outer:List Env}{L e:Addr}{oe:Obj}{vs:Array Value}{head:Value}{hadNext:Bool}
end
end L2
namespace L2
open PySem PySem.Spec PyProof.Rows
section
variable {P:Program}{w:World}{H H1 H':Hp}{h h1 h':Heap}{outer:List Env}{env:Env}{x L:Addr}{cls:Value}
end
section
variable {P:Program}{w:World}{K:PySem.W.Frag}{mg:Str->Option Value}{base:Heap}{N:List Str}{qual:Str}{scope:Scope}{f:Addr}{cd:Value}{A:Around}{outer:List Env}{s₀:Shared}{H₀:Hp}{E:XK}
end
end L2
namespace L2
open PySem PySem.Spec PyProof.Rows
section
variable {X:Cx}
end
end L2
namespace L2
open PySem PySem.Spec PyProof.Rows
mutual
inductive DataAt (H:Hp):V->PyData->Prop
 |non:DataAt H .non .none
 |bl (b:Bool):DataAt H (.bl b) (.bool b)
 |int (i:Int):DataAt H (.int i) (.int i)
 |str (x:Str):DataAt H (.str x) (.str x)
 |lst {a:Addr}{xs:List V}{ds:List PyData}(h:H a=some (.lst xs)) (r:DatasAt H xs ds):DataAt H (.ref a) (.list ds)
 |tup {a:Addr}{xs:List V}{ds:List PyData}(h:H a=some (.tup xs)) (r:DatasAt H xs ds):DataAt H (.ref a) (.tuple ds)
inductive DatasAt (H:Hp):List V->List PyData->Prop
 |nil:DatasAt H [] []
 |cons {x:V}{xs:List V}{d:PyData}{ds:List PyData}(h:DataAt H x d) (r:DatasAt H xs ds):DatasAt H (x::xs) (d::ds)
end
section
variable {P:Program}{w:World}{H:Hp}{h:Heap}
mutual
theorem DataAt.reads (ok:HOk P w H h):∀{x:V}{d:PyData}{u:Value},DataAt H x d->RelV x u->∃as,Reads h u d as
 |_,_,u,.non,r=>⟨[],by cases (show u=Value.none from r);exact .none⟩
 |_,_,u,.bl b,r=>⟨[],by cases (show u=Value.bool b from r);exact .bool b⟩
 |_,_,u,.int i,r=>⟨[],by obtain⟨t,rfl⟩:=r;exact .int i t⟩
 |_,_,u,.str x,r=>⟨[],by obtain⟨t,rfl⟩:=r;exact .str x t⟩
 |_,_,u,.lst (a:=a) e rs,r=>by
  cases (show u=Value.ref a from r)
  obtain⟨_,its,n,rv,ho⟩:=ok a _ e
  obtain⟨as,ra⟩:=DatasAt.reads ok rs rv
  exact⟨a::as,.list ho rfl rfl (by simpa using ra)⟩
 |_,_,u,.tup (a:=a) e rs,r=>by
  cases (show u=Value.ref a from r)
  obtain⟨_,its,rv,o,ho,hc,n,hd⟩:=ok a _ e
  obtain⟨as,ra⟩:=DatasAt.reads ok rs rv
  exact⟨as,.tuple ho hc hd (by simpa using ra)⟩
theorem DatasAt.reads (ok:HOk P w H h):∀{xs:List V}{ds:List PyData}{us:List Value},DatasAt H xs ds->Vals xs us->∃as,ReadsAll h us ds as
 |_,_,_,.nil,.nil=>⟨[],.nil⟩
 |_,_,_,.cons h1 r1,.cons r rr=>by
  obtain⟨as,ra⟩:=DataAt.reads ok h1 r
  obtain⟨bs,rb⟩:=DatasAt.reads ok r1 rr
  exact⟨as++bs,.cons ra rb⟩
end
mutual
theorem DataAt.same {H':Hp}(s:∀b o,H b=some o->H' b=some o):∀{x:V}{d:PyData},DataAt H x d->DataAt H' x d
 |_,_,.non=>.non
 |_,_,.bl b=>.bl b
 |_,_,.int i=>.int i
 |_,_,.str x=>.str x
 |_,_,.lst e r=>.lst (s _ _ e) (DatasAt.same s r)
 |_,_,.tup e r=>.tup (s _ _ e) (DatasAt.same s r)
theorem DatasAt.same {H':Hp}(s:∀b o,H b=some o->H' b=some o):∀{xs:List V}{ds:List PyData},DatasAt H xs ds->DatasAt H' xs ds
 |_,_,.nil=>.nil
 |_,_,.cons h r=>.cons (DataAt.same s h) (DatasAt.same s r)
end
theorem DatasAt.ints:∀(ns:List Int),DatasAt H (ns.map V.int) (ns.map PyData.int)
 |[]=>.nil
 |n::ns=>.cons (.int n) (DatasAt.ints ns)
end
section
variable {X:Cx}
theorem op_eqD {k:Nat}(hr:Room k X.A):OpR X (compareOp .Eq) (λx y H Q=>∃d e,DataAt H x d/\DataAt H y e/\d.canLay0=true/\e.canLay0=true/\d.depth<=60/\Q (.bl (PyData.eqv d e)) H):=by
 intro pins s σ H x y v u Q I rx ry h
 obtain⟨d,e,hd,he,c1,c2,dp,q⟩:=h
 obtain⟨as,ra⟩:=hd.reads I.hok rx
 obtain⟨bs,rb⟩:=he.reads I.hok ry
 have un:=hr.units
 exact SeqAt.rcAt_reads ra rb c1 c2 (by lia) X.prog X.w X.xe _ ⟨.bl _,H,I,rfl,q⟩
theorem op_neD {k:Nat}(hr:Room k X.A):OpR X (compareOp .NotEq) (λx y H Q=>∃d e,DataAt H x d/\DataAt H y e/\d.canLay0=true/\e.canLay0=true/\d.depth<=60/\Q (.bl (!PyData.eqv d e)) H):=by
 intro pins s σ H x y v u Q I rx ry h
 obtain⟨d,e,hd,he,c1,c2,dp,q⟩:=h
 obtain⟨as,ra⟩:=hd.reads I.hok rx
 obtain⟨bs,rb⟩:=he.reads I.hok ry
 have un:=hr.units
 exact SeqAt.rcNeAt_reads ra rb c1 c2 (by lia) X.prog X.w X.xe _ ⟨.bl _,H,I,rfl,q⟩
theorem call_reprD {k:Nat}(hr:Room k X.A):CallR X (.builtin "repr") (λxs H Q=>∃(p:Addr) (d:PyData),xs=[.ref p]/\DataAt H (.ref p) d/\d.showable=true/\d.hasDict=false/\d.depth<=60/\d.shown.length<=sizeLine/\Q (.str d.shown) H):=by
 intro pins s σ H xs us Q I r h
 obtain⟨p,d,rfl,hd,hs,hn,dp,hz,q⟩:=h
 obtain⟨u,rfl,rx⟩:=vals1 r
 cases rx
 obtain⟨as,ra⟩:=hd.reads (u:=.ref p) I.hok rfl
 have un:=hr.units
 exact repr_of_reads' ra hs (λz=>by rw[hn] at z;cases z) hr.gd (by lia) (λb o e=>e) (λh' u tk kp=>⟨.str _,H,I.kept kp,⟨_,rfl⟩,q⟩) hz
end
theorem eqvAll_ints:∀(a b:List Int),PyData.eqvAll (a.map PyData.int) (b.map PyData.int)=decide (a=b)
 |[],[]=>by simp[PyData.eqvAll]
 |x::a,[]=>by simp[PyData.eqvAll]
 |[],y::b=>by simp[PyData.eqvAll]
 |x::a,y::b=>by
  show (PyData.eqv (.int x) (.int y)&&PyData.eqvAll (a.map PyData.int) (b.map PyData.int))=_
  rw[eqvAll_ints a b,show PyData.eqv (.int x) (.int y)=(x==y) by simp[PyData.eqv]]
  rw[Bool.eq_iff_iff]
  simp
theorem layAll_ints:∀(a:List Int),PyData.canLayAll0 (a.map PyData.int)=true
 |[]=>by simp[PyData.canLayAll0]
 |x::a=>by
  show (PyData.canLay0 (.int x)&&PyData.canLayAll0 (a.map PyData.int))=true
  rw[layAll_ints a]
  simp[PyData.canLay0]
def dT (ns:List Int):PyData:=.tuple (ns.map PyData.int)
theorem dT_lay (ns:List Int):(dT ns).canLay0=true:=by
 show PyData.canLayAll0 (ns.map PyData.int)=true
 exact layAll_ints ns
theorem dT_eqv (a b:List Int):PyData.eqv (dT a) (dT b)=decide (a=b):=by
 show PyData.eqvAll _ _=_
 exact eqvAll_ints a b
end L2
namespace PyProof.Rows
open PySem
def gallop':Bool->Keyed->Array Keyed->Nat->Nat->Nat->StateT SortSt Sem (Option Nat):=sortPriv% PySem.Builtin.gallop
def KLt (prog:Program) (w:World) (A:Around) (s:Shared) (κ:KeyKind) (kd:SortKind):Prop:=
 ∀(E:Value->Shared->Prop) (x y:Value) (a b:κ.α) (Q:Bool->Shared->Prop),κ.keyOf x=some a->κ.keyOf y=some b->Q (κ.blt a b) s->wpAny (model prog w) A (keyLt' kd x y) Q E s
section
variable {prog:Program}{w:World}{A:Around}{E:Value->Shared->Prop}{s:Shared}{κ:KeyKind}
theorem wpS_ltP {kd:SortKind}(hO:KLt prog w A s κ kd){st:SortSt}{x y:Keyed}{a b:κ.α}{Q:Option Bool->SortSt->Prop}(hk:kindOf st=kd) (ha:κ.keyOf x.1=some a) (hb:κ.keyOf y.1=some b) (h:Q (some (κ.blt a b)) st) :
  wpS (model prog w) A E s (lt' x y) Q st:=by
 rw[lt'_eq]
 refine wpS_bind (wpS_get ?_)
 rw[hk]
 refine wpS_bind (wpS_lift (wpAny_attempt (hO _ _ _ a b _ ha hb ⟨rfl,?_⟩)))
 exact wpS_pure h
theorem wpS_elemP {st:SortSt}{arr:Array Keyed}{i:Nat}{x:Keyed}{Q:Keyed->SortSt->Prop}(hi:arr[i]?=some x) (h:Q x st):wpS (model prog w) A E s (elem' arr i) Q st:=by
 rw[elem'_eq,hi]
 exact wpS_pure h
def asks (left:Bool) (k x:κ.α):Bool:=if left then κ.blt x k else !κ.blt k x
theorem wpS_gallop {kd:SortKind}(hO:KLt prog w A s κ kd){left:Bool}{key:Keyed}{k:κ.α}{arr:Array Keyed}{base n hint c:Nat}{st:SortSt}{Q:Option Nat->SortSt->Prop}(hk:kindOf st=kd) (hkey:κ.keyOf key.1=some k)
  (harr:∀i,i<n->∃x a,arr[base+i]?=some x/\κ.keyOf x.1=some a/\asks left k a=decide (i<c)) (hh:hint<n) (hc:c<=n) (h:Q (some c) st):wpS (model prog w) A E s (gallop' left key arr base n hint) Q st:=by
 have bey:∀(i:Nat) (Q':Option Bool->SortSt->Prop),i<n->Q' (some (decide (i<c))) st->wpS (model prog w) A E s (elem' arr (base+i) >>= λx=>if left=true then lt' x key else lt' key x >>= λr=>pure (Option.map (λx=>!x) r)) Q' st:=λi Q' hi hq=>by
  obtain⟨x,a,e1,e2,e3⟩:=harr i hi
  refine wpS_bind (wpS_elemP e1 ?_)
  unfold asks at e3
  cases left with
  |true=>
   rw[if_pos rfl] at e3 ⊢
   refine wpS_ltP hO hk e2 hkey ?_
   rw[e3];exact hq
  |false=>
   rw[if_neg (by decide)] at e3 ⊢
   refine wpS_bind (wpS_ltP hO hk hkey e2 (wpS_pure ?_))
   show Q' (some (!κ.blt k a)) st
   rw[e3];exact hq
 refine wpS_bind (bey hint _ hh ?_)
 have fin:∀lo hi,lo<=c->c<=hi->hi<=n->∀(f:Nat->Option (Option Nat)×Nat×Nat->StateT SortSt Sem (ForInStep (Option (Option Nat)×Nat×Nat))) (g:Option (Option Nat)×Nat×Nat->StateT SortSt Sem (Option Nat)),
   (∀x lo hi,lo<hi->hi<=n->∀Q',(∀b,Q' (ForInStep.yield (none,if decide (lo+(hi-lo)/2<c)=true then (lo+(hi-lo)/2+1,hi) else (lo,lo+(hi-lo)/2))) b\/b≠st)->wpS (model prog w) A E s (f x (none,lo,hi)) Q' st) ->
   (∀x lo hi,lo>=hi->f x (none,lo,hi)=pure (ForInStep.done (none,lo,hi)))->(∀lo hi,g (none,lo,hi)=pure (some hi))->wpS (model prog w) A E s (forIn [:n] (none,lo,hi) f >>= g) Q st:=by
  intro lo hi h1 h2 h3 f g hf hf2 hg
  refine wpS_bind (wpS_mono (wpS_forRange (I:=λx cc st'=>st'=st/\∃lo hi,cc=(none,lo,hi)/\lo<=c/\c<=hi/\hi<=n/\hi-lo<=n-x) (Q:=λcc st'=>st'=st/\∃lo,cc=(none,lo,c)) ?step ?fin ⟨rfl,lo,hi,rfl,h1,h2,h3,by lia⟩) ?post)
  case post=>
   rintro cc st' ⟨rfl,lo,rfl⟩
   rw[hg]
   exact wpS_pure h
  case fin=>
   rintro cc st' ⟨rfl,lo,hi,rfl,g1,g2,g3,g4⟩
   have:hi=c:=by lia
   exact⟨rfl,lo,by rw[this]⟩
  case step=>
   rintro x cc st' _ hx ⟨rfl,lo,hi,rfl,g1,g2,g3,g4⟩
   by_cases hge:lo>=hi
   ·rw[hf2 x lo hi hge]
    have:hi=c:=by lia
    exact wpS_pure ⟨rfl,lo,by rw[this]⟩
   ·refine hf x lo hi (by lia) g3 _ λb=>?_
    by_cases hbst:b=st'
    ·left
     subst hbst
     by_cases hm:lo+(hi-lo)/2<c
     ·rw[decide_eq_true hm]
      exact⟨rfl,_,_,rfl,by lia,g2,g3,by lia⟩
     ·rw[decide_eq_false hm]
      exact⟨rfl,_,_,rfl,g1,by lia,by lia,by lia⟩
    ·exact .inr hbst
 have go:∀(x lo hi:Nat),lo<hi->hi<=n->∀(Q':ForInStep (Option (Option Nat)×Nat×Nat)->SortSt->Prop),(∀b,Q' (ForInStep.yield (none,if decide (lo+(hi-lo)/2<c)=true then (lo+(hi-lo)/2+1,hi) else (lo,lo+(hi-lo)/2))) b\/b≠st) ->
   ∀F:Option Bool->StateT SortSt Sem (ForInStep (Option (Option Nat)×Nat×Nat)),(∀b:Bool,F (some b)=if b=true then pure (ForInStep.yield (none,lo+(hi-lo)/2+1,hi)) else pure (ForInStep.yield (none,lo,lo+(hi-lo)/2))) ->
   wpS (model prog w) A E s ((elem' arr (base+(lo+(hi-lo)/2)) >>= λx=>if left=true then lt' x key else lt' key x >>= λr=>pure (Option.map (λx=>!x) r)) >>= F) Q' st:=by
  intro x lo hi hlt hn Q' hq F hF
  refine wpS_bind (bey _ _ (by lia) ?_)
  rw[hF]
  have q:=(hq st).resolve_right (λz=>z rfl)
  by_cases hm:lo+(hi-lo)/2<c
  ·rw[decide_eq_true hm] at q ⊢
   exact wpS_pure q
  ·rw[decide_eq_false hm] at q ⊢
   exact wpS_pure q
 by_cases hr:hint<c
 ·rw[decide_eq_true hr]
  dsimp only
  rw[if_pos rfl]
  refine wpS_bind (wpS_mono (wpS_forRange (I:=λx cc st'=>st'=st/\∃l o,cc=(none,l,o)/\l<o/\hint+l<c/\x<o) (Q:=λcc st'=>st'=st/\∃l o,cc=(none,l,o)/\hint+l<c/\(n-hint<=o\/c<=hint+o)) ?step ?fin ⟨rfl,0,1,rfl,by lia,by lia,by lia⟩) ?post)
  case fin=>
   rintro cc st' ⟨rfl,l,o,rfl,g1,g2,g3⟩
   exact⟨rfl,l,o,rfl,g2,.inl (by lia)⟩
  case step=>
   rintro x cc st' _ hx ⟨rfl,l,o,rfl,g1,g2,g3⟩
   dsimp only
   by_cases ho:o>=n-hint
   ·rw[if_pos ho]
    exact wpS_pure ⟨rfl,l,o,rfl,g2,.inl ho⟩
   ·rw[if_neg ho]
    refine wpS_bind (bey (hint+o) _ (by lia) ?_)
    by_cases hm:hint+o<c
    ·rw[decide_eq_true hm]
     exact wpS_pure ⟨rfl,o,2*o+1,rfl,by lia,hm,by lia⟩
    ·rw[decide_eq_false hm]
     exact wpS_pure ⟨rfl,l,o,rfl,g2,.inr (by lia)⟩
  case post=>
   rintro cc st' ⟨rfl,l,o,rfl,g2,g3⟩
   dsimp only
   refine fin (hint+l+1) (hint+min o (n-hint)) (by lia) (by lia) (by lia) _ _ (λx lo hi hlt hn' Q' hq=>?_) (λx lo hi hge=>?_) (λlo hi=>rfl)
   ·dsimp only
    rw[if_neg (by lia)]
    exact go x lo hi hlt hn' Q' hq _ (λb=>rfl)
   ·dsimp only
    rw[if_pos hge]
 ·rw[decide_eq_false hr]
  dsimp only
  rw[if_neg (by decide)]
  refine wpS_bind (wpS_mono (wpS_forRange (I:=λx cc st'=>st'=st/\∃l o,cc=(none,l,o)/\l<o/\c<=hint-l/\l<=hint/\x<o) (Q:=λcc st'=>st'=st/\∃l o,cc=(none,l,o)/\c<=hint-l/\l<=hint/\(hint+1<=o\/(o<=hint/\hint-o<c))) ?step ?fin ⟨rfl,0,1,rfl,by lia,by lia,by lia,by lia⟩) ?post)
  case fin=>
   rintro cc st' ⟨rfl,l,o,rfl,g1,g2,g3,g4⟩
   exact⟨rfl,l,o,rfl,g2,g3,.inl (by lia)⟩
  case step=>
   rintro x cc st' _ hx ⟨rfl,l,o,rfl,g1,g2,g3,g4⟩
   dsimp only
   by_cases ho:o>=hint+1
   ·rw[if_pos ho]
    exact wpS_pure ⟨rfl,l,o,rfl,g2,g3,.inl ho⟩
   ·rw[if_neg ho]
    refine wpS_bind (bey (hint-o) _ (by lia) ?_)
    by_cases hm:hint-o<c
    ·rw[decide_eq_true hm]
     exact wpS_pure ⟨rfl,l,o,rfl,g2,g3,.inr ⟨by lia,hm⟩⟩
    ·rw[decide_eq_false hm]
     exact wpS_pure ⟨rfl,o,2*o+1,rfl,by lia,by lia,by lia,by lia⟩
  case post=>
   rintro cc st' ⟨rfl,l,o,rfl,g2,g3,g5⟩
   dsimp only
   refine fin (hint+1-min o (hint+1)) (hint-l) (by lia) (by lia) (by lia) _ _ (λx lo hi hlt hn' Q' hq=>?_) (λx lo hi hge=>?_) (λlo hi=>rfl)
   ·dsimp only
    rw[if_neg (by lia)]
    exact go x lo hi hlt hn' Q' hq _ (λb=>rfl)
   ·dsimp only
    rw[if_pos hge]
end
end PyProof.Rows
namespace PyProof.Rows
open PySem
def SrtK (κ:KeyKind) (xs:Array Keyed) (lo hi:Nat):Prop:=∀i j,lo<=i->i<=j->j<hi->κ.kle (KK κ xs i) (KK κ xs j)
structure Mv (st st':SortSt) (lo hi:Nat):Prop where
 perm:(arrOf st').Perm (arrOf st)
 kind:kindOf st'=kindOf st
 fail:failedOf st'=failedOf st
 pend:pendingOf st'=pendingOf st
 out:∀k:Nat,k<lo\/hi<=k->(arrOf st')[k]?=(arrOf st)[k]?
theorem Mv.refl (st:SortSt) (lo hi:Nat):Mv st st lo hi:=⟨.refl _,rfl,rfl,rfl,λ_ _=>rfl⟩
theorem Mv.trans {a b c:SortSt}{lo hi:Nat}(h:Mv a b lo hi) (k:Mv b c lo hi):Mv a c lo hi:=
 ⟨k.perm.trans h.perm,k.kind.trans h.kind,k.fail.trans h.fail,k.pend.trans h.pend,λi hi=>(k.out i hi).trans (h.out i hi)⟩
theorem Mv.size {a b:SortSt}{lo hi:Nat}(h:Mv a b lo hi):(arrOf b).size=(arrOf a).size:=h.perm.size_eq
theorem keys_perm {κ:KeyKind}{xs ys:Array Keyed}(h:KeysOf κ ys) (p:xs.Perm ys):KeysOf κ xs:=λq hq=>h q ((Array.perm_iff_toList_perm.mp p).mem_iff.mp hq)
theorem key_at {κ:KeyKind}{xs:Array Keyed}(h:KeysOf κ xs){i:Nat}(hi:i<xs.size):∃x p a,xs[i]?=some (x,p)/\κ.keyOf x=some a/\KK κ xs i=a:=by
 obtain⟨a,ha⟩:=h xs[i] (by simp)
 have e:xs[i]?=some xs[i]:=getElem?_pos _ i hi
 refine⟨xs[i].1,xs[i].2,a,by rw[e],ha,?_⟩
 unfold KK
 rw[e]
 simp[ha]
section
variable {prog:Program}{w:World}{A:Around}{E:Value->Shared->Prop}{s:Shared}{κ:KeyKind}
theorem wpS_ltG {kd:SortKind}(hO:KLt prog w A s κ kd){st:SortSt}{i j:Nat}{Q:Option Bool->SortSt->Prop}(hk:kindOf st=kd) (h0:KeysOf κ (arrOf st)) (hi:i<(arrOf st).size) (hj:j<(arrOf st).size)
  (h:Q (some (κ.blt (KK κ (arrOf st) i) (KK κ (arrOf st) j))) st):wpS (model prog w) A E s (ltAt' i j) Q st:=by
 obtain⟨x,p,a,e1,e2,e3⟩:=key_at h0 hi
 obtain⟨y,q,b,f1,f2,f3⟩:=key_at h0 hj
 rw[e3,f3] at h
 rw[ltAt'_eq]
 refine wpS_bind (wpS_get ?_)
 exact wpS_bind (wpS_elemP e1 (wpS_bind (wpS_elemP f1 (wpS_ltP hO hk e2 f2 h))))
theorem wpS_binG {kd:SortKind}(hO:KLt prog w A s κ kd){st:SortSt}{lo n ok:Nat}{Q:Bool->SortSt->Prop}(hk:kindOf st=kd) (h0:KeysOf κ (arrOf st)) (hn:lo+n<=(arrOf st).size) (hok:ok<=n) (hs:SrtK κ (arrOf st) lo (lo+ok))
  (h:∀st',Mv st st' lo (lo+n)->SrtK κ (arrOf st') lo (lo+n)->Q true st'):wpS (model prog w) A E s (binarySort' lo n ok) Q st:=by
 refine wpS_bind (wpS_mono (wpS_forRange (I:=λk c st'=>c=(none,())/\Mv st st' lo (lo+n)/\SrtK κ (arrOf st') lo (lo+min k n)) (Q:=λc st'=>c=(none,())/\Mv st st' lo (lo+n)/\SrtK κ (arrOf st') lo (lo+n)) ?step ?fin ?init) ?post)
 case post=>
  rintro c st' ⟨rfl,m,o⟩
  exact wpS_pure (h st' m o)
 case init=>
  refine⟨rfl,Mv.refl _ _ _,λi j h1 h2 h3=>?_⟩
  by_cases z:ok=0
  ·have:i=j:=by lia
   rw[this];exact KeyOrd.kle_refl _
  ·exact hs i j h1 h2 (by lia)
 case fin=>
  rintro c st' ⟨rfl,m,o⟩
  exact⟨rfl,m,λi j h1 h2 h3=>o i j h1 h2 (by lia)⟩
 case step=>
  rintro k c st1 hk1 hkn ⟨rfl,m1,o1⟩
  have hsz:lo+k<(arrOf st1).size:=by rw[m1.size];lia
  have hk':kindOf st1=kd:=m1.kind.trans hk
  have h0':KeysOf κ (arrOf st1):=keys_perm h0 m1.perm
  have o2:SrtK κ (arrOf st1) lo (lo+k):=λi j h1 h2 h3=>o1 i j h1 h2 (by lia)
  refine wpS_bind (wpS_mono (wpS_forRange (I:=λx c st2=>st2=st1/\∃l r,c=(none,l,r)/\l<=r/\r<=k/\r-l<=k-x/\(∀i,i<l->κ.kle (KK κ (arrOf st1) (lo+i)) (KK κ (arrOf st1) (lo+k)))/\(∀i,r<=i->i<k->κ.klt (KK κ (arrOf st1) (lo+k)) (KK κ (arrOf st1) (lo+i))))
   (Q:=λc st2=>st2=st1/\∃l r,c=(none,l,r)/\l<=k/\(∀i,i<l->κ.kle (KK κ (arrOf st1) (lo+i)) (KK κ (arrOf st1) (lo+k)))/\(∀i,l<=i->i<k->κ.klt (KK κ (arrOf st1) (lo+k)) (KK κ (arrOf st1) (lo+i)))) ?istep ?ifin ⟨rfl,0,k,rfl,by lia,by lia,by lia,λi hi=>by lia,λi h1 h2=>by lia⟩) ?ipost)
  case ifin=>
   rintro c st2 ⟨rfl,l,r,rfl,g1,g2,g3,g4,g5⟩
   have:r=l:=by lia
   exact⟨rfl,l,r,rfl,by lia,g4,by rw[this] at g5;exact g5⟩
  case istep=>
   rintro x c st2 _ hx ⟨rfl,l,r,rfl,g1,g2,g3,g4,g5⟩
   dsimp only
   by_cases hge:l>=r
   ·rw[if_pos hge]
    have:r=l:=by lia
    exact wpS_pure ⟨rfl,l,r,rfl,by lia,g4,by rw[this] at g5;exact g5⟩
   ·rw[if_neg hge]
    refine wpS_bind (wpS_ltG hO hk' h0' hsz (show lo+(l+r)/2<_ by lia) ?_)
    cases hb:κ.blt (KK κ (arrOf st2) (lo+k)) (KK κ (arrOf st2) (lo+(l+r)/2))
    ·refine wpS_pure ⟨rfl,(l+r)/2+1,r,rfl,by lia,by lia,by lia,λi hi=>?_,g5⟩
     exact KeyOrd.kle_trans (o2 (lo+i) (lo+(l+r)/2) (by lia) (by lia) (by lia)) (show κ.kle _ _ from hb)
    ·refine wpS_pure ⟨rfl,l,(l+r)/2,rfl,by lia,by lia,by lia,g4,λi h1 h2=>?_⟩
     exact KeyOrd.klt_of_klt_of_kle hb (o2 (lo+(l+r)/2) (lo+i) (by lia) (by lia) (by lia))
  case ipost=>
   rintro c st2 ⟨rfl,l,r,rfl,g1,g4,g5⟩
   dsimp only
   have ed:lo+k-(lo+l)=k-l:=by lia
   have es:lo+k-(k-l)=lo+l:=by lia
   refine wpS_bind (m:=moveDown' (lo+k) (lo+l)) ?_
   rw[moveDown'_eq]
   refine wpS_modify (wpS_pure ⟨rfl,m1.trans ⟨bubble_perm _ _ _,rfl,rfl,rfl,λi hi=>?_⟩,λi j h1 h2 h3=>?_⟩)
   ·show (bubble (arrOf st2) (lo+k) (lo+k-(lo+l)))[i]?=_
    rw[ed,getElem?_bubble hsz _ (by lia),es,if_neg (by lia),if_neg (by lia)]
   ·show κ.kle (KK κ (bubble (arrOf st2) (lo+k) (lo+k-(lo+l))) i) (KK κ (bubble (arrOf st2) (lo+k) (lo+k-(lo+l))) j)
    have h3':j<lo+(k+1):=by lia
    have low:∀i,lo<=i->i<lo+l->κ.kle (KK κ (arrOf st2) i) (KK κ (arrOf st2) (lo+k)):=λi a b=>by
     have:=g4 (i-lo) (by lia)
     rwa [show lo+(i-lo)=i by lia] at this
    have high:∀i,lo+l<=i->i<lo+k->κ.kle (KK κ (arrOf st2) (lo+k)) (KK κ (arrOf st2) i):=λi a b=>by
     have:=KeyOrd.kle_of_klt (g5 (i-lo) (by lia) (by lia))
     rwa [show lo+(i-lo)=i by lia] at this
    rw[ed,KK_bubble hsz (by lia),KK_bubble hsz (by lia),es]
    repeat' split
    all_goals first
     |(exfalso;lia)
     |exact KeyOrd.kle_refl _
     |exact low _ (by lia) (by lia)
     |exact high _ (by lia) (by lia)
     |exact o2 _ _ (by lia) (by lia) (by lia)
end
end PyProof.Rows
namespace PyProof.Rows
open PySem
section
variable {prog:Program}{w:World}{A:Around}{E:Value->Shared->Prop}{s:Shared}{κ:KeyKind}
theorem wpS_ascG {kd:SortKind}(hO:KLt prog w A s κ kd){st:SortSt}{lo a nrem:Nat}{Q:Option (Option Nat)×Nat->SortSt->Prop}(hk:kindOf st=kd) (h0:KeysOf κ (arrOf st)) (hn:lo+nrem<=(arrOf st).size) (ha:1<=a) (han:a<=nrem) (hs:SrtK κ (arrOf st) lo (lo+a))
  (h:∀n,a<=n->n<=nrem->SrtK κ (arrOf st) lo (lo+n)->(n=nrem\/κ.klt (KK κ (arrOf st) (lo+n)) (KK κ (arrOf st) (lo+n-1)))->Q (none,n) st)
  (f:Nat->Option (Option Nat)×Nat->StateT SortSt Sem (ForInStep (Option (Option Nat)×Nat)))
  (hf:∀x n (Q':ForInStep (Option (Option Nat)×Nat)->SortSt->Prop),lo+n<(arrOf st).size->1<=n->Q' (if κ.blt (KK κ (arrOf st) (lo+n)) (KK κ (arrOf st) (lo+n-1))=true then .done (none,n) else .yield (none,n+1)) st->wpS (model prog w) A E s (f x (none,n)) Q' st) :
  wpS (model prog w) A E s (forIn [a:nrem] (none,a) f) Q st:=by
 refine wpS_mono (wpS_forRange (I:=λx c st'=>st'=st/\c=(none,x)/\a<=x/\x<=nrem/\SrtK κ (arrOf st) lo (lo+x)) (Q:=λc st'=>st'=st/\∃n,c=(none,n)/\a<=n/\n<=nrem/\SrtK κ (arrOf st) lo (lo+n)/\(n=nrem\/κ.klt (KK κ (arrOf st) (lo+n)) (KK κ (arrOf st) (lo+n-1)))) ?step ?fin ⟨rfl,rfl,Nat.le_refl _,han,hs⟩) ?post
 case post=>
  rintro c st' ⟨rfl,n,rfl,g1,g2,g3,g4⟩
  exact h n g1 g2 g3 g4
 case fin=>
  rintro c st' ⟨rfl,rfl,g1,g2,g3⟩
  exact⟨rfl,_,rfl,g1,g2,g3,.inl (by lia)⟩
 case step=>
  rintro x c st' h1 h2 ⟨rfl,rfl,g1,g2,g3⟩
  refine hf x x _ (by lia) (by lia) ?_
  cases hb:κ.blt (KK κ (arrOf st') (lo+x)) (KK κ (arrOf st') (lo+x-1))
  ·refine⟨rfl,rfl,by lia,by lia,λi j h3 h4 h5=>?_⟩
   by_cases hj:j=lo+x
   ·by_cases hi:i=lo+x
    ·rw[hi,hj];exact KeyOrd.kle_refl _
    ·rw[hj]
     exact KeyOrd.kle_trans (g3 i (lo+x-1) h3 (by lia) (by lia)) (show κ.kle _ _ from hb)
   ·exact g3 i j h3 h4 (by lia)
  ·exact⟨rfl,x,rfl,g1,g2,g3,.inr hb⟩
end
end PyProof.Rows
namespace PyProof.Rows
open PySem
def FallK (κ:KeyKind) (xs:Array Keyed) (lo m:Nat):Prop:=∀i j,lo<=i->i<=j->j<lo+m->κ.kle (KK κ xs j) (KK κ xs i)
def EqK (κ:KeyKind) (xs:Array Keyed) (lo m q:Nat):Prop:=∀i,lo+m-(q+1)<=i->i<lo+m->KK κ xs i=KK κ xs (lo+m-1)
section
variable {prog:Program}{w:World}{A:Around}{E:Value->Shared->Prop}{s:Shared}{κ:KeyKind}
theorem wpS_revG {st:SortSt}{i j:Nat}{Q:Unit->SortSt->Prop}(h:Q () (setArr st (mirror (arrOf st) i j ((j-i)/2)))):wpS (model prog w) A E s (reverseSlice' i j) Q st:=by
 rw[reverseSlice'_eq];exact wpS_modify h
theorem Mv.rev {st st':SortSt}{lo hi i j:Nat}(h:Mv st st' lo hi) (hi1:lo<=i) (hj:j<=hi) (hs:j<=(arrOf st').size):Mv st (setArr st' (mirror (arrOf st') i j ((j-i)/2))) lo hi:=
 h.trans ⟨mirror_perm _ _ _ _,rfl,rfl,rfl,λk hk=>by
  show (mirror (arrOf st') i j ((j-i)/2))[k]?=_
  rw[getElem?_mirror_all hs,if_neg (by lia)]⟩
theorem fall_rev {st:SortSt}{lo m:Nat}(h:FallK κ (arrOf st) lo m) (hs:lo+m<=(arrOf st).size):SrtK κ (arrOf (setArr st (mirror (arrOf st) lo (lo+m) ((lo+m-lo)/2)))) lo (lo+m):=λi j h1 h2 h3=>by
 show κ.kle (KK κ (mirror (arrOf st) lo (lo+m) ((lo+m-lo)/2)) i) (KK κ (mirror (arrOf st) lo (lo+m) ((lo+m-lo)/2)) j)
 rw[KK_mirror hs,KK_mirror hs,if_pos (by lia),if_pos (by lia)]
 exact h _ _ (by lia) (by lia) (by lia)
theorem eq_rev {st:SortSt}{lo m q:Nat}(h:EqK κ (arrOf st) lo m q) (hs:lo+m<=(arrOf st).size) (k:Nat):KK κ (arrOf (setArr st (mirror (arrOf st) (lo+m-(q+1)) (lo+m) ((lo+m-(lo+m-(q+1)))/2)))) k=KK κ (arrOf st) k:=
 KK_mirror_equal (xs:=arrOf st) hs (λi h1 h2=>h i h1 h2) k
theorem wpS_cntG {kd:SortKind}(hO:KLt prog w A s κ kd){st:SortSt}{lo nrem:Nat}{Q:Option Nat->SortSt->Prop}(hk:kindOf st=kd) (h0:KeysOf κ (arrOf st)) (hn:lo+nrem<=(arrOf st).size) (h1:1<=nrem)
  (h:∀m st',1<=m->m<=nrem->Mv st st' lo (lo+nrem)->SrtK κ (arrOf st') lo (lo+m)->Q (some m) st'):wpS (model prog w) A E s (countRun' lo nrem) Q st:=by
 refine wpS_bind (wpS_ascG hO hk h0 hn (Nat.le_refl 1) h1 ?_ (λn g1 g2 g3 g4=>?_) _ (λx n Q' e1 e2 hq=>?_))
 ·intro i j a b c
  have:i=j:=by lia
  rw[this];exact KeyOrd.kle_refl _
 ·dsimp only
  by_cases hnn:n=nrem
  ·rw[if_pos (by simp[hnn])]
   exact wpS_pure (h n st g1 g2 (Mv.refl _ _ _) g3)
  ·rw[if_neg (by simp[hnn])]
   have hlt:κ.klt (KK κ (arrOf st) (lo+n)) (KK κ (arrOf st) (lo+n-1)):=g4.resolve_left hnn
   by_cases hn1:n>1
   ·rw[if_pos hn1]
    refine wpS_bind (wpS_ltG hO hk h0 (by lia) (by lia) ?_)
    cases hb:κ.blt (KK κ (arrOf st) lo) (KK κ (arrOf st) (lo+n-1))
    ·dsimp only
     rw[if_neg (by decide)]
     refine wpS_bind (wpS_revG ?_)
     have mv:=(Mv.refl st lo (lo+nrem)).rev (i:=lo) (j:=lo+n) (Nat.le_refl _) (by lia) (by lia)
     have alle:∀i,lo<=i->i<lo+n->KK κ (arrOf st) i=KK κ (arrOf st) (lo+n-1):=λi a b=>
      KeyOrd.kle_antisymm (g3 i (lo+n-1) a (by lia) (by lia)) (KeyOrd.kle_trans (show κ.kle _ _ from hb) (g3 lo i (Nat.le_refl _) a b))
     have kk:∀k,KK κ (arrOf (setArr st (mirror (arrOf st) lo (lo+n) ((lo+n-lo)/2)))) k=KK κ (arrOf st) k:=KK_mirror_equal (xs:=arrOf st) (by lia) alle
     have hf:FallK κ (arrOf (setArr st (mirror (arrOf st) lo (lo+n) ((lo+n-lo)/2)))) lo (n+1):=λi j a b c=>by
      rw[kk,kk]
      by_cases ej:j=lo+n
      ·by_cases ei:i=lo+n
       ·rw[ei,ej];exact KeyOrd.kle_refl _
       ·rw[ej,alle i a (by lia)];exact KeyOrd.kle_of_klt hlt
      ·rw[alle i a (by lia),alle j (by lia) (by lia)];exact KeyOrd.kle_refl _
     generalize setArr st (mirror (arrOf st) lo (lo+n) ((lo+n-lo)/2))=st1 at mv hf ⊢
     refine wpS_bind (wpS_lift (wpAny_rule ⟨rfl,?_⟩))
     refine wpS_bind (wpS_mono (wpS_forRange (I:=λx c st2=>∃q,c=(none,x,q)/\Mv st st2 lo (lo+nrem)/\n+1<=x/\x<=nrem/\FallK κ (arrOf st2) lo x/\EqK κ (arrOf st2) lo x q/\q+1<=x) (Q:=λc st2=>∃m q,c=(none,m,q)/\Mv st st2 lo (lo+nrem)/\n+1<=m/\m<=nrem/\FallK κ (arrOf st2) lo m/\EqK κ (arrOf st2) lo m q/\q+1<=m) ?step ?fin ?init) ?post)
     case init=>
      refine⟨0,rfl,mv,Nat.le_refl _,by lia,hf,λi a b=>?_,by lia⟩
      rw[show i=lo+(n+1)-1 by lia]
     case fin=>
      rintro c st2 ⟨q,rfl,r1,r2,r3,r4,r5,r6⟩
      exact⟨_,q,rfl,r1,r2,r3,r4,r5,r6⟩
     case step=>
      rintro x c st2 a b ⟨q,rfl,m2,c1,c2,f2,e2,c3⟩
      dsimp only
      have hk2:=m2.kind.trans hk
      have h02:=keys_perm h0 m2.perm
      have sz2:=m2.size
      refine wpS_bind (wpS_ltG hO hk2 h02 (by lia) (by lia) ?_)
      cases hb:κ.blt (KK κ (arrOf st2) (lo+x)) (KK κ (arrOf st2) (lo+x-1))
      ·dsimp only
       rw[if_neg (by decide)]
       refine wpS_bind (wpS_ltG hO hk2 h02 (by lia) (by lia) ?_)
       cases hb2:κ.blt (KK κ (arrOf st2) (lo+x-1)) (KK κ (arrOf st2) (lo+x))
       ·dsimp only
        rw[if_neg (by decide)]
        have eqk:KK κ (arrOf st2) (lo+x)=KK κ (arrOf st2) (lo+x-1):=κ.total _ _ hb hb2
        refine wpS_pure ⟨q+1,rfl,m2,by lia,by lia,λi j d1 d2 d3=>?_,λi d1 d2=>?_,by lia⟩
        ·by_cases ej:j=lo+x
         ·by_cases ei:i=lo+x
          ·rw[ei,ej];exact KeyOrd.kle_refl _
          ·rw[ej,eqk];exact f2 i (lo+x-1) d1 (by lia) (by lia)
         ·exact f2 i j d1 d2 (by lia)
        ·rw[show lo+(x+1)-1=lo+x by lia]
         by_cases ei:i=lo+x
         ·rw[ei]
         ·rw[eqk];exact e2 i (by lia) (by lia)
       ·exact wpS_pure ⟨x,q,rfl,m2,c1,c2,f2,e2,c3⟩
      ·dsimp only
       rw[if_pos rfl]
       have nf:∀st3:SortSt,(∀k,KK κ (arrOf st3) k=KK κ (arrOf st2) k)->FallK κ (arrOf st3) lo (x+1):=λst3 kk i j d1 d2 d3=>by
        rw[kk,kk]
        by_cases ej:j=lo+x
        ·by_cases ei:i=lo+x
         ·rw[ei,ej];exact KeyOrd.kle_refl _
         ·rw[ej];exact KeyOrd.kle_trans (KeyOrd.kle_of_klt hb) (f2 i (lo+x-1) d1 (by lia) (by lia))
        ·exact f2 i j d1 d2 (by lia)
       have ne:∀st3:SortSt,EqK κ (arrOf st3) lo (x+1) 0:=λst3 i d1 d2=>by rw[show i=lo+(x+1)-1 by lia]
       by_cases hq:q>0
       ·rw[if_pos hq]
        exact wpS_bind (wpS_revG (wpS_pure ⟨0,rfl,m2.rev (by lia) (by lia) (by lia),by lia,by lia,nf _ (eq_rev e2 (by lia)),ne _,by lia⟩))
       ·rw[if_neg hq]
        exact wpS_pure ⟨0,rfl,m2,by lia,by lia,nf _ (λ_=>rfl),ne _,by lia⟩
     case post=>
      rintro c st2 ⟨m,q,rfl,m2,c1,c2,f2,e2,c3⟩
      dsimp only
      have sz2:=m2.size
      by_cases hq:q>0
      ·rw[if_pos hq]
       refine wpS_bind (wpS_revG ?_)
       have m3:=m2.rev (i:=lo+m-(q+1)) (j:=lo+m) (by lia) (by lia) (by lia)
       have kk:=eq_rev e2 (by lia)
       have f3:FallK κ (arrOf (setArr st2 (mirror (arrOf st2) (lo+m-(q+1)) (lo+m) ((lo+m-(lo+m-(q+1)))/2)))) lo m:=λi j d1 d2 d3=>by rw[kk,kk];exact f2 i j d1 d2 d3
       generalize setArr st2 (mirror (arrOf st2) (lo+m-(q+1)) (lo+m) ((lo+m-(lo+m-(q+1)))/2))=st3 at m3 f3 ⊢
       refine wpS_bind (wpS_revG ?_)
       have m4:=m3.rev (i:=lo) (j:=lo+m) (Nat.le_refl _) (by lia) (by rw[m3.size];lia)
       have o4:=fall_rev f3 (by rw[m3.size];lia)
       have hk4:=m4.kind.trans hk
       have h04:=keys_perm h0 m4.perm
       have z4:=m4.size
       generalize setArr st3 (mirror (arrOf st3) lo (lo+m) ((lo+m-lo)/2))=st4 at m4 o4 hk4 h04 z4 ⊢
       refine wpS_bind (wpS_ascG hO hk4 h04 (by lia) (show 1<=m by lia) c2 o4 (λk k1 k2 k3 _=>?_) _ (λx k Q' e1 e2 hq=>?_))
       ·exact wpS_pure (h k st4 (by lia) k2 m4 k3)
       ·refine wpS_bind (wpS_ltG hO hk4 h04 e1 (by lia) ?_)
        cases hb:κ.blt (KK κ (arrOf st4) (lo+k)) (KK κ (arrOf st4) (lo+k-1))
        ·rw[hb] at hq
         exact wpS_pure hq
        ·rw[hb] at hq
         exact wpS_pure hq
      ·rw[if_neg hq]
       have m3:=m2
       have f3:=f2
       generalize st2=st3 at m3 f3 ⊢
       refine wpS_bind (wpS_revG ?_)
       have m4:=m3.rev (i:=lo) (j:=lo+m) (Nat.le_refl _) (by lia) (by rw[m3.size];lia)
       have o4:=fall_rev f3 (by rw[m3.size];lia)
       have hk4:=m4.kind.trans hk
       have h04:=keys_perm h0 m4.perm
       have z4:=m4.size
       generalize setArr st3 (mirror (arrOf st3) lo (lo+m) ((lo+m-lo)/2))=st4 at m4 o4 hk4 h04 z4 ⊢
       refine wpS_bind (wpS_ascG hO hk4 h04 (by lia) (show 1<=m by lia) c2 o4 (λk k1 k2 k3 _=>?_) _ (λx k Q' e1 e2 hq=>?_))
       ·exact wpS_pure (h k st4 (by lia) k2 m4 k3)
       ·refine wpS_bind (wpS_ltG hO hk4 h04 e1 (by lia) ?_)
        cases hb:κ.blt (KK κ (arrOf st4) (lo+k)) (KK κ (arrOf st4) (lo+k-1))
        ·rw[hb] at hq
         exact wpS_pure hq
        ·rw[hb] at hq
         exact wpS_pure hq
    ·exact wpS_pure (h n st g1 g2 (Mv.refl _ _ _) g3)
   ·rw[if_neg hn1]
    have hf:FallK κ (arrOf st) lo (n+1):=λi j a b c=>by
     by_cases e:i=j
     ·rw[e];exact KeyOrd.kle_refl _
     ·have e1:i=lo+n-1:=by lia
      have e2:j=lo+n:=by lia
      rw[e1,e2];exact KeyOrd.kle_of_klt hlt
    have mv:=Mv.refl st lo (lo+nrem)
    refine wpS_bind (wpS_lift (wpAny_rule ⟨rfl,?_⟩))
    refine wpS_bind (wpS_mono (wpS_forRange (I:=λx c st2=>∃q,c=(none,x,q)/\Mv st st2 lo (lo+nrem)/\n+1<=x/\x<=nrem/\FallK κ (arrOf st2) lo x/\EqK κ (arrOf st2) lo x q/\q+1<=x) (Q:=λc st2=>∃m q,c=(none,m,q)/\Mv st st2 lo (lo+nrem)/\n+1<=m/\m<=nrem/\FallK κ (arrOf st2) lo m/\EqK κ (arrOf st2) lo m q/\q+1<=m) ?step ?fin ?init) ?post)
    case init=>
     refine⟨0,rfl,mv,Nat.le_refl _,by lia,hf,λi a b=>?_,by lia⟩
     rw[show i=lo+(n+1)-1 by lia]
    case fin=>
     rintro c st2 ⟨q,rfl,r1,r2,r3,r4,r5,r6⟩
     exact⟨_,q,rfl,r1,r2,r3,r4,r5,r6⟩
    case step=>
     rintro x c st2 a b ⟨q,rfl,m2,c1,c2,f2,e2,c3⟩
     dsimp only
     have hk2:=m2.kind.trans hk
     have h02:=keys_perm h0 m2.perm
     have sz2:=m2.size
     refine wpS_bind (wpS_ltG hO hk2 h02 (by lia) (by lia) ?_)
     cases hb:κ.blt (KK κ (arrOf st2) (lo+x)) (KK κ (arrOf st2) (lo+x-1))
     ·dsimp only
      rw[if_neg (by decide)]
      refine wpS_bind (wpS_ltG hO hk2 h02 (by lia) (by lia) ?_)
      cases hb2:κ.blt (KK κ (arrOf st2) (lo+x-1)) (KK κ (arrOf st2) (lo+x))
      ·dsimp only
       rw[if_neg (by decide)]
       have eqk:KK κ (arrOf st2) (lo+x)=KK κ (arrOf st2) (lo+x-1):=κ.total _ _ hb hb2
       refine wpS_pure ⟨q+1,rfl,m2,by lia,by lia,λi j d1 d2 d3=>?_,λi d1 d2=>?_,by lia⟩
       ·by_cases ej:j=lo+x
        ·by_cases ei:i=lo+x
         ·rw[ei,ej];exact KeyOrd.kle_refl _
         ·rw[ej,eqk];exact f2 i (lo+x-1) d1 (by lia) (by lia)
        ·exact f2 i j d1 d2 (by lia)
       ·rw[show lo+(x+1)-1=lo+x by lia]
        by_cases ei:i=lo+x
        ·rw[ei]
        ·rw[eqk];exact e2 i (by lia) (by lia)
      ·exact wpS_pure ⟨x,q,rfl,m2,c1,c2,f2,e2,c3⟩
     ·dsimp only
      rw[if_pos rfl]
      have nf:∀st3:SortSt,(∀k,KK κ (arrOf st3) k=KK κ (arrOf st2) k)->FallK κ (arrOf st3) lo (x+1):=λst3 kk i j d1 d2 d3=>by
       rw[kk,kk]
       by_cases ej:j=lo+x
       ·by_cases ei:i=lo+x
        ·rw[ei,ej];exact KeyOrd.kle_refl _
        ·rw[ej];exact KeyOrd.kle_trans (KeyOrd.kle_of_klt hb) (f2 i (lo+x-1) d1 (by lia) (by lia))
       ·exact f2 i j d1 d2 (by lia)
      have ne:∀st3:SortSt,EqK κ (arrOf st3) lo (x+1) 0:=λst3 i d1 d2=>by rw[show i=lo+(x+1)-1 by lia]
      by_cases hq:q>0
      ·rw[if_pos hq]
       exact wpS_bind (wpS_revG (wpS_pure ⟨0,rfl,m2.rev (by lia) (by lia) (by lia),by lia,by lia,nf _ (eq_rev e2 (by lia)),ne _,by lia⟩))
      ·rw[if_neg hq]
       exact wpS_pure ⟨0,rfl,m2,by lia,by lia,nf _ (λ_=>rfl),ne _,by lia⟩
    case post=>
     rintro c st2 ⟨m,q,rfl,m2,c1,c2,f2,e2,c3⟩
     dsimp only
     have sz2:=m2.size
     by_cases hq:q>0
     ·rw[if_pos hq]
      refine wpS_bind (wpS_revG ?_)
      have m3:=m2.rev (i:=lo+m-(q+1)) (j:=lo+m) (by lia) (by lia) (by lia)
      have kk:=eq_rev e2 (by lia)
      have f3:FallK κ (arrOf (setArr st2 (mirror (arrOf st2) (lo+m-(q+1)) (lo+m) ((lo+m-(lo+m-(q+1)))/2)))) lo m:=λi j d1 d2 d3=>by rw[kk,kk];exact f2 i j d1 d2 d3
      generalize setArr st2 (mirror (arrOf st2) (lo+m-(q+1)) (lo+m) ((lo+m-(lo+m-(q+1)))/2))=st3 at m3 f3 ⊢
      refine wpS_bind (wpS_revG ?_)
      have m4:=m3.rev (i:=lo) (j:=lo+m) (Nat.le_refl _) (by lia) (by rw[m3.size];lia)
      have o4:=fall_rev f3 (by rw[m3.size];lia)
      have hk4:=m4.kind.trans hk
      have h04:=keys_perm h0 m4.perm
      have z4:=m4.size
      generalize setArr st3 (mirror (arrOf st3) lo (lo+m) ((lo+m-lo)/2))=st4 at m4 o4 hk4 h04 z4 ⊢
      refine wpS_bind (wpS_ascG hO hk4 h04 (by lia) (show 1<=m by lia) c2 o4 (λk k1 k2 k3 _=>?_) _ (λx k Q' e1 e2 hq=>?_))
      ·exact wpS_pure (h k st4 (by lia) k2 m4 k3)
      ·refine wpS_bind (wpS_ltG hO hk4 h04 e1 (by lia) ?_)
       cases hb:κ.blt (KK κ (arrOf st4) (lo+k)) (KK κ (arrOf st4) (lo+k-1))
       ·rw[hb] at hq
        exact wpS_pure hq
       ·rw[hb] at hq
        exact wpS_pure hq
     ·rw[if_neg hq]
      have m3:=m2
      have f3:=f2
      generalize st2=st3 at m3 f3 ⊢
      refine wpS_bind (wpS_revG ?_)
      have m4:=m3.rev (i:=lo) (j:=lo+m) (Nat.le_refl _) (by lia) (by rw[m3.size];lia)
      have o4:=fall_rev f3 (by rw[m3.size];lia)
      have hk4:=m4.kind.trans hk
      have h04:=keys_perm h0 m4.perm
      have z4:=m4.size
      generalize setArr st3 (mirror (arrOf st3) lo (lo+m) ((lo+m-lo)/2))=st4 at m4 o4 hk4 h04 z4 ⊢
      refine wpS_bind (wpS_ascG hO hk4 h04 (by lia) (show 1<=m by lia) c2 o4 (λk k1 k2 k3 _=>?_) _ (λx k Q' e1 e2 hq=>?_))
      ·exact wpS_pure (h k st4 (by lia) k2 m4 k3)
      ·refine wpS_bind (wpS_ltG hO hk4 h04 e1 (by lia) ?_)
       cases hb:κ.blt (KK κ (arrOf st4) (lo+k)) (KK κ (arrOf st4) (lo+k-1))
       ·rw[hb] at hq
        exact wpS_pure hq
       ·rw[hb] at hq
        exact wpS_pure hq
 ·refine wpS_bind (wpS_ltG hO hk h0 e1 (by lia) ?_)
  cases hb:κ.blt (KK κ (arrOf st) (lo+n)) (KK κ (arrOf st) (lo+n-1))
  ·rw[hb] at hq
   exact wpS_pure hq
  ·rw[hb] at hq
   exact wpS_pure hq
end
end PyProof.Rows
namespace PyProof.Rows
open PySem
def kv (κ:KeyKind) (p:Keyed):κ.α:=(κ.keyOf p.1).getD κ.dflt
def Asc (κ:KeyKind) (l:List Keyed):Prop:=l.Pairwise λx y=>κ.kle (kv κ x) (kv κ y)
structure Mg (κ:KeyKind) (all out a b:List Keyed):Prop where
 perm:(out++(a++b)).Perm all
 so:Asc κ out
 sa:Asc κ a
 sb:Asc κ b
 la:∀x∈out,∀y∈a,κ.kle (kv κ x) (kv κ y)
 lb:∀x∈out,∀y∈b,κ.kle (kv κ x) (kv κ y)
theorem Mg.takeA {κ:KeyKind}{all out a b:List Keyed}{x:Keyed}(m:Mg κ all out (x::a) b) (h:∀y∈b,κ.kle (kv κ x) (kv κ y)):Mg κ all (out++[x]) a b where
 perm:=by simpa using m.perm
 so:=List.pairwise_append.mpr ⟨m.so,by simp,λp hp q hq=>by
  have:q=x:=by simpa using hq
  rw[this];exact m.la p hp x (by simp)⟩
 sa:=(List.pairwise_cons.mp m.sa).2
 sb:=m.sb
 la:=λp hp y hy=>by
  rcases List.mem_append.mp hp with z|z
  ·exact m.la p z y (List.mem_cons_of_mem _ hy)
  ·have:p=x:=by simpa using z
   rw[this];exact (List.pairwise_cons.mp m.sa).1 y hy
 lb:=λp hp y hy=>by
  rcases List.mem_append.mp hp with z|z
  ·exact m.lb p z y hy
  ·have:p=x:=by simpa using z
   rw[this];exact h y hy
theorem Mg.swap {κ:KeyKind}{all out a b:List Keyed}(m:Mg κ all out a b):Mg κ all out b a where
 perm:=(List.Perm.append_left out List.perm_append_comm).trans m.perm
 so:=m.so
 sa:=m.sb
 sb:=m.sa
 la:=m.lb
 lb:=m.la
theorem Mg.takeB {κ:KeyKind}{all out a b:List Keyed}{x:Keyed}(m:Mg κ all out a (x::b)) (h:∀y∈a,κ.kle (kv κ x) (kv κ y)):Mg κ all (out++[x]) a b:=(m.swap.takeA h).swap
theorem Mg.doneB {κ:KeyKind}{all out a:List Keyed}(m:Mg κ all out a []):(out++a).Perm all/\Asc κ (out++a):=
 ⟨by simpa using m.perm,List.pairwise_append.mpr ⟨m.so,m.sa,m.la⟩⟩
theorem Mg.doneAB {κ:KeyKind}{all out a b:List Keyed}(m:Mg κ all out a b) (h:∀y∈b,∀x∈a,κ.kle (kv κ y) (kv κ x)):(out++(b++a)).Perm all/\Asc κ (out++(b++a)):=
 ⟨m.swap.perm,List.pairwise_append.mpr ⟨m.so,List.pairwise_append.mpr ⟨m.sb,m.sa,h⟩,λx hx y hy=>(List.mem_append.mp hy).elim (m.lb x hx y) (m.la x hx y)⟩⟩
end PyProof.Rows
namespace PyProof.Rows
open PySem
def mergeLo':Array Keyed->Array Keyed->StateT SortSt Sem (Array Keyed):=sortPriv% PySem.Builtin.mergeLo
abbrev setGal (st:SortSt) (g:Nat):SortSt:=SortSt.mk' (kindOf st) (arrOf st) (pendingOf st) g (failedOf st)
theorem Mg.takesA {κ:KeyKind}{all b:List Keyed}:∀{out l a:List Keyed},Mg κ all out (l++a) b->(∀x∈l,∀y∈b,κ.kle (kv κ x) (kv κ y))->Mg κ all (out++l) a b
 |out,[],a,m,_=>by rw[List.append_nil];exact m
 |out,x::l,a,m,h=>by
  have:=(m.takeA (λy hy=>h x (by simp) y hy)).takesA (λz hz=>h z (by simp[hz]))
  rwa [List.append_assoc] at this
theorem Mg.takesB {κ:KeyKind}{all out l a b:List Keyed}(m:Mg κ all out a (l++b)) (h:∀x∈l,∀y∈a,κ.kle (kv κ x) (kv κ y)):Mg κ all (out++l) a b:=(m.swap.takesA h).swap
theorem cut_at {p:Nat->Bool}:∀n:Nat,(∀i j,i<=j->j<n->p j=true->p i=true)->∃c,c<=n/\∀i,i<n->p i=decide (i<c)
 |0,_=>⟨0,Nat.le_refl _,λi hi=>absurd hi (Nat.not_lt_zero _)⟩
 |n+1,h=>by
  obtain⟨c,c1,c2⟩:=cut_at n (λi j a b e=>h i j a (by lia) e)
  cases e:p n with
  |true=>
   exact⟨n+1,Nat.le_refl _,λi hi=>by rw[h i n (by lia) (by lia) e,decide_eq_true hi]⟩
  |false=>
   refine⟨c,by lia,λi hi=>?_⟩
   by_cases en:i=n
   ·rw[en,e,decide_eq_false (by lia)]
   ·exact c2 i (by lia)
theorem drop_at {a:Array Keyed}{i:Nat}(h:i<a.size):a.toList.drop i=a[i]::a.toList.drop (i+1):=by
 rw[List.drop_eq_getElem_cons (by simpa using h)];simp
theorem kv_at {κ:KeyKind}{a:Array Keyed}(h:KeysOf κ a){i:Nat}(hi:i<a.size):κ.keyOf a[i].1=some (kv κ a[i]):=by
 obtain⟨x,e⟩:=h a[i] (by simp)
 rw[e];unfold kv;rw[e];rfl
theorem asc_at {κ:KeyKind}{a:Array Keyed}(h:Asc κ a.toList){i j:Nat}(hij:i<=j) (hj:j<a.size):κ.kle (kv κ a[i]) (kv κ a[j]):=by
 rcases Nat.lt_or_eq_of_le hij with z|z
 ·have:=List.pairwise_iff_getElem.mp h i j (by simp;lia) (by simpa using hj) z
  simpa using this
 ·subst z;exact KeyOrd.kle_refl _
theorem mem_drop {a:Array Keyed}{i:Nat}{x:Keyed}(h:x∈a.toList.drop i):∃j,∃hj:j<a.size,i<=j/\a[j]=x:=by
 obtain⟨k,hk,e⟩:=List.getElem_of_mem h
 have hk':i+k<a.size:=by simp at hk;lia
 exact⟨i+k,hk',by lia,by rw[<- e];simp⟩
theorem gal_false {κ:KeyKind}{a:Array Keyed}(ka:KeysOf κ a) (sa:Asc κ a.toList) (k:κ.α){base n:Nat}(hn:base+n<=a.size) :
  ∃c,c<=n/\(∀i,i<n->∃x y,a[base+i]?=some x/\κ.keyOf x.1=some y/\asks false k y=decide (i<c))/\∀i,(h:base+i<a.size)->i<n->(i<c->κ.kle (kv κ a[base+i]) k)/\(c<=i->κ.klt k (kv κ a[base+i])):=by
 have key:∀i,(h:base+i<a.size)->KK κ a (base+i)=kv κ a[base+i]:=λi h=>by unfold KK kv;rw[getElem?_pos a _ h]
 obtain⟨c,c1,c2⟩:=cut_at (p:=λi=>!κ.blt k (KK κ a (base+i))) n (λi j hij hj e=>by
  simp only[Bool.not_eq_true'] at e ⊢
  rw[key _ (by lia)] at e ⊢
  exact KeyOrd.kle_trans (asc_at sa (by lia) (by lia)) e)
 refine⟨c,c1,λi hi=>⟨_,_,getElem?_pos a _ (by lia),kv_at ka (by lia),?_⟩,λi h hi=>⟨λhc=>?_,λhc=>?_⟩⟩
 ·rw[<- c2 i hi,key i (by lia)];rfl
 ·have e:=c2 i hi
  rw[key i h,decide_eq_true hc] at e
  exact (Bool.not_eq_true' _).mp e
 ·have e:=c2 i hi
  rw[key i h,decide_eq_false (by lia)] at e
  exact (Bool.not_eq_false' _).mp e
theorem gal_true {κ:KeyKind}{a:Array Keyed}(ka:KeysOf κ a) (sa:Asc κ a.toList) (k:κ.α){base n:Nat}(hn:base+n<=a.size) :
  ∃c,c<=n/\(∀i,i<n->∃x y,a[base+i]?=some x/\κ.keyOf x.1=some y/\asks true k y=decide (i<c))/\∀i,(h:base+i<a.size)->i<n->(i<c->κ.klt (kv κ a[base+i]) k)/\(c<=i->κ.kle k (kv κ a[base+i])):=by
 have key:∀i,(h:base+i<a.size)->KK κ a (base+i)=kv κ a[base+i]:=λi h=>by unfold KK kv;rw[getElem?_pos a _ h]
 obtain⟨c,c1,c2⟩:=cut_at (p:=λi=>κ.blt (KK κ a (base+i)) k) n (λi j hij hj e=>by
  rw[key _ (by lia)] at e ⊢
  exact KeyOrd.klt_of_kle_of_klt (asc_at sa (by lia) (by lia)) e)
 refine⟨c,c1,λi hi=>⟨_,_,getElem?_pos a _ (by lia),kv_at ka (by lia),?_⟩,λi h hi=>⟨λhc=>?_,λhc=>?_⟩⟩
 ·rw[<- c2 i hi,key i (by lia)];rfl
 ·have e:=c2 i hi
  rw[key i h,decide_eq_true hc] at e
  exact e
 ·have e:=c2 i hi
  rw[key i h,decide_eq_false (by lia)] at e
  exact e
def Mp (κ:KeyKind) (a b out:Array Keyed) (ia ib:Nat):Prop:=Mg κ (a.toList++b.toList) out.toList (a.toList.drop ia) (b.toList.drop ib)
abbrev Rd (κ:KeyKind) (a b out:Array Keyed):Prop:=out.toList.Perm (a.toList++b.toList)/\Asc κ out.toList
section
variable {κ:KeyKind}{a b out:Array Keyed}{ia ib:Nat}
theorem Mp.ta (sb:Asc κ b.toList) (m:Mp κ a b out ia ib) (hia:ia<a.size) (hib:ib<b.size) (h:κ.kle (kv κ a[ia]) (kv κ b[ib])):Mp κ a b (out.push a[ia]) (ia+1) ib:=by
 unfold Mp at m ⊢
 rw[drop_at hia] at m
 rw[Array.toList_push]
 refine m.takeA λy hy=>?_
 obtain⟨j,hj,h1,rfl⟩:=mem_drop hy
 exact KeyOrd.kle_trans h (asc_at sb h1 hj)
theorem Mp.tb (sa:Asc κ a.toList) (m:Mp κ a b out ia ib) (hia:ia<a.size) (hib:ib<b.size) (h:κ.kle (kv κ b[ib]) (kv κ a[ia])):Mp κ a b (out.push b[ib]) ia (ib+1):=by
 unfold Mp at m ⊢
 rw[drop_at hib] at m
 rw[Array.toList_push]
 refine m.takeB λy hy=>?_
 obtain⟨j,hj,h1,rfl⟩:=mem_drop hy
 exact KeyOrd.kle_trans h (asc_at sa h1 hj)
theorem drop_ext {a:Array Keyed}{i k:Nat}(h:i+k<=a.size):a.toList.drop i=(a.extract i (i+k)).toList++a.toList.drop (i+k):=by
 rw[Array.toList_extract,List.extract_eq_drop_take,<- List.drop_drop,show i+k-i=k by lia,List.take_append_drop]
theorem mem_ext {a:Array Keyed}{i k:Nat}(h:i+k<=a.size){x:Keyed}(hx:x∈(a.extract i (i+k)).toList):∃j,∃hj:i+j<a.size,j<k/\a[i+j]=x:=by
 obtain⟨j,hj,e⟩:=List.getElem_of_mem hx
 have hj':j<k:=by simp at hj;lia
 exact⟨j,by lia,hj',by rw[<- e];simp⟩
theorem Mp.as (sb:Asc κ b.toList) (m:Mp κ a b out ia ib){k:Nat}(hk:ia+k<=a.size) (hib:ib<b.size) (h:∀i,(hi:ia+i<a.size)->i<k->κ.kle (kv κ a[ia+i]) (kv κ b[ib])):Mp κ a b (out++a.extract ia (ia+k)) (ia+k) ib:=by
 unfold Mp at m ⊢
 rw[drop_ext hk] at m
 rw[Array.toList_append]
 refine m.takesA λx hx y hy=>?_
 obtain⟨i,hi,hik,rfl⟩:=mem_ext hk hx
 obtain⟨j,hj,h1,rfl⟩:=mem_drop hy
 exact KeyOrd.kle_trans (h i hi hik) (asc_at sb h1 hj)
theorem Mp.bs (sa:Asc κ a.toList) (m:Mp κ a b out ia ib){k:Nat}(hk:ib+k<=b.size) (hia:ia<a.size) (h:∀i,(hi:ib+i<b.size)->i<k->κ.kle (kv κ b[ib+i]) (kv κ a[ia])):Mp κ a b (out++b.extract ib (ib+k)) ia (ib+k):=by
 unfold Mp at m ⊢
 rw[drop_ext hk] at m
 rw[Array.toList_append]
 refine m.takesB λx hx y hy=>?_
 obtain⟨i,hi,hik,rfl⟩:=mem_ext hk hx
 obtain⟨j,hj,h1,rfl⟩:=mem_drop hy
 exact KeyOrd.kle_trans (h i hi hik) (asc_at sa h1 hj)
theorem ext_end {a:Array Keyed}{i:Nat}:(a.extract i a.size).toList=a.toList.drop i:=by
 rw[Array.toList_extract,List.extract_eq_drop_take,List.take_of_length_le (by simp)]
theorem Mp.done (m:Mp κ a b out ia ib) (h:ib=b.size):Rd κ a b (out++a.extract ia a.size++b.extract ib b.size):=by
 unfold Mp at m
 have e:b.toList.drop ib=[]:=by rw[h];simp
 rw[e] at m
 show (out++a.extract ia a.size++b.extract ib b.size).toList.Perm _/\Asc κ (out++a.extract ia a.size++b.extract ib b.size).toList
 rw[Array.toList_append,Array.toList_append,ext_end,ext_end,e,List.append_nil]
 exact m.doneB
theorem Mp.last (m:Mp κ a b out ia ib) (na:0<a.size) (h2:∀j,(hj:j<b.size)->κ.klt (kv κ b[j]) (kv κ a[a.size-1])) (h:ia+1=a.size):Rd κ a b (out++b.extract ib b.size++a.extract ia a.size):=by
 show (out++b.extract ib b.size++a.extract ia a.size).toList.Perm _/\Asc κ (out++b.extract ib b.size++a.extract ia a.size).toList
 rw[Array.toList_append,Array.toList_append,ext_end,ext_end,List.append_assoc]
 refine Mg.doneAB m λy hy x hx=>?_
 obtain⟨i,hi,h3,rfl⟩:=mem_drop hx
 obtain⟨j,hj,_,rfl⟩:=mem_drop hy
 have:i=a.size-1:=by lia
 subst this
 exact KeyOrd.kle_of_klt (h2 j hj)
end
section
variable {prog:Program}{w:World}{A:Around}{E:Value->Shared->Prop}{s:Shared}{κ:KeyKind}
theorem wpS_mergeLo {kd:SortKind}(hO:KLt prog w A s κ kd){st:SortSt}{a b:Array Keyed}{Q:Array Keyed->SortSt->Prop}(hk0:kindOf st=kd) (ka:KeysOf κ a) (kb:KeysOf κ b) (sa:Asc κ a.toList) (sb:Asc κ b.toList)
  (na:0<a.size) (nb:0<b.size) (h1:κ.klt (kv κ b[0]) (kv κ a[0])) (h2:∀j,(hj:j<b.size)->κ.klt (kv κ b[j]) (kv κ a[a.size-1]))
  (h:∀out g,Rd κ a b out->Q out (setGal st g)):wpS (model prog w) A E s (mergeLo' a b) Q st:=by
 have hk:∀g,kindOf (setGal st g)=kd:=λg=>hk0
 refine wpS_bind (wpS_lift (wpAny_rule ⟨rfl,?_⟩))
 refine wpS_bind (wpS_elemP (getElem?_pos b 0 nb) ?_)
 dsimp only
 have m0:Mp κ a b #[b[0]] 0 1:=by
  refine Mp.tb (out:=#[]) (ib:=0) sa ⟨by simp,by simp[Asc],by simpa using sa,by simpa using sb,by simp,by simp⟩ na nb (KeyOrd.kle_of_klt h1)
 by_cases e0:1=b.size
 ·rw[if_pos (by simp[<- e0])]
  exact wpS_pure (h _ (gallopOf st) (m0.done e0))
 ·rw[if_neg (by simpa using e0)]
  by_cases e1:0+1=a.size
  ·rw[if_pos (by simp[<- e1])]
   exact wpS_pure (h _ (gallopOf st) (m0.last na h2 e1))
  ·rw[if_neg (by simpa using e1)]
   refine wpS_bind (wpS_get ?_)
   refine wpS_bind (wpS_mono (wpS_forRange (I:=λx c st'=>∃out ia ib mg,c=(none,out,ia,ib,mg)/\(∃g,st'=setGal st g)/\Mp κ a b out ia ib/\ia+1<a.size/\ib<b.size/\x<=ia+ib)
    (Q:=λc st'=>∃r t,c=(some r,t)/\(∃g,st'=setGal st g)/\Rd κ a b r) ?step ?fin ⟨_,_,_,_,rfl,⟨gallopOf st,rfl⟩,m0,by lia,by lia,by lia⟩) ?post)
   case post=>
    rintro c st' ⟨r,t,rfl,⟨g,rfl⟩,hr⟩
    exact wpS_pure (h r g hr)
   case fin=>
    rintro c st' ⟨out,ia,ib,mg,rfl,_,m,y1,y2,y3⟩
    lia
   case step=>
    rintro x c st' _ hx ⟨out,ia,ib,mg,rfl,⟨g,rfl⟩,m0,y1,y2,y3⟩
    dsimp only
    refine wpS_bind (wpS_mono (wpS_forRange (I:=λy c st'=>∃out ia ib ac bc,c=(none,out,ia,ib,ac,bc)/\(∃g,st'=setGal st g)/\Mp κ a b out ia ib/\ia+1<a.size/\ib<b.size/\x+y<=ia+ib)
     (Q:=λc st'=>(∃out ia ib ac bc,c=(none,out,ia,ib,ac,bc)/\(∃g,st'=setGal st g)/\Mp κ a b out ia ib/\ia+1<a.size/\ib<b.size/\x+1<=ia+ib)\/∃r t,c=(some r,t)/\(∃g,st'=setGal st g)/\Rd κ a b r) ?step ?fin ⟨_,_,_,_,_,rfl,⟨g,rfl⟩,m0,y1,y2,by lia⟩) ?post)
    case fin=>
     rintro c st' ⟨out,ia,ib,ac,bc,rfl,_,m,y1,y2,y3⟩
     lia
    case step=>
     rintro y c st' _ hy ⟨out,ia,ib,ac,bc,rfl,⟨g,rfl⟩,m,y1,y2,y3⟩
     dsimp only
     refine wpS_bind (wpS_elemP (getElem?_pos b ib y2) ?_)
     refine wpS_bind (wpS_elemP (getElem?_pos a ia (by lia)) ?_)
     refine wpS_bind (wpS_ltP hO (hk g) (kv_at kb y2) (kv_at ka (by lia)) ?_)
     cases hb:κ.blt (kv κ b[ib]) (kv κ (a[ia]'(by lia)))
     ·dsimp only
      rw[if_neg (by decide)]
      refine wpS_bind (wpS_elemP (getElem?_pos a ia (by lia)) ?_)
      have m1:=m.ta sb (by lia) y2 hb
      by_cases e1:ia+1+1=a.size
      ·rw[if_pos (by simp[e1])]
       exact wpS_pure (.inr ⟨_,_,rfl,⟨_,rfl⟩,m1.last na h2 e1⟩)
      ·rw[if_neg (by simp[e1])]
       split
       ·exact wpS_pure (.inl ⟨_,_,_,_,_,rfl,⟨_,rfl⟩,m1,by lia,by lia,by lia⟩)
       ·exact wpS_pure ⟨_,_,_,_,_,rfl,⟨_,rfl⟩,m1,by lia,by lia,by lia⟩
     ·dsimp only
      rw[if_pos rfl]
      refine wpS_bind (wpS_elemP (getElem?_pos b ib y2) ?_)
      have m1:=m.tb sa (by lia) y2 (KeyOrd.kle_of_klt hb)
      by_cases e1:ib+1=b.size
      ·rw[if_pos (by simp[e1])]
       exact wpS_pure (.inr ⟨_,_,rfl,⟨_,rfl⟩,m1.done e1⟩)
      ·rw[if_neg (by simp[e1])]
       split
       ·exact wpS_pure (.inl ⟨_,_,_,_,_,rfl,⟨_,rfl⟩,m1,by lia,by lia,by lia⟩)
       ·exact wpS_pure ⟨_,_,_,_,_,rfl,⟨_,rfl⟩,m1,by lia,by lia,by lia⟩
    case post=>
     rintro c st' (⟨out,ia,ib,ac,bc,rfl,⟨g,rfl⟩,m,y1,y2,y3⟩|⟨r,t,rfl,hg,hr⟩)
     ·dsimp only
      refine wpS_bind (wpS_lift (wpAny_rule ⟨rfl,?_⟩))
      refine wpS_bind (wpS_mono (wpS_forRange (I:=λy c st'=>∃out ia ib mg ac bc,c=(none,out,ia,ib,mg,ac,bc)/\(∃g,st'=setGal st g)/\Mp κ a b out ia ib/\ia+1<a.size/\ib<b.size/\x+1+y<=ia+ib)
       (Q:=λc st'=>(∃out ia ib mg ac bc,c=(none,out,ia,ib,mg,ac,bc)/\(∃g,st'=setGal st g)/\Mp κ a b out ia ib/\ia+1<a.size/\ib<b.size/\x+1<=ia+ib)\/∃r t,c=(some r,t)/\(∃g,st'=setGal st g)/\Rd κ a b r) ?step ?fin ⟨_,_,_,_,_,_,rfl,⟨g,rfl⟩,m,y1,y2,by lia⟩) ?post)
      case fin=>
       rintro c st' ⟨out,ia,ib,mg,ac,bc,rfl,_,m,y1,y2,y3⟩
       lia
      case post=>
       rintro c st' (⟨out,ia,ib,mg,ac,bc,rfl,⟨g,rfl⟩,m,y1,y2,y3⟩|⟨r,t,rfl,hg,hr⟩)
       ·dsimp only
        exact wpS_bind (wpS_modify (wpS_pure ⟨_,_,_,_,rfl,⟨_,rfl⟩,m,y1,y2,y3⟩))
       ·exact wpS_pure ⟨r,_,rfl,hg,hr⟩
      case step=>
       rintro y c st' _ hy ⟨out,ia,ib,mg,ac,bc,rfl,⟨g,rfl⟩,m1,y1,y2,y3⟩
       dsimp only
       by_cases hmg:mg>1
       ·rw[if_pos hmg]
        have hk:=hk (mg-1)
        refine wpS_bind (wpS_modify ?_)
        refine wpS_bind (wpS_elemP (getElem?_pos b ib y2) ?_)
        obtain⟨c,c1,c2,c3⟩:=gal_false ka sa (kv κ b[ib]) (base:=ia) (n:=a.size-ia) (by lia)
        refine wpS_bind (wpS_gallop hO hk (kv_at kb y2) c2 (by lia) c1 ?_)
        dsimp only
        have lc:c<a.size-ia:=by
         rcases Nat.lt_or_ge c (a.size-ia) with z|z
         ·exact z
         ·have:=(c3 (a.size-1-ia) (by lia) (by lia)).1 (by lia)
          have e:a[ia+(a.size-1-ia)]'(by lia)=a[a.size-1]:=by congr 1;lia
          rw[e] at this
          exact absurd (h2 ib y2) (KeyOrd.not_klt_of_kle this)
        by_cases hc:c>0
        ·rw[if_pos hc]
         have m2:=m1.as sb (k:=c) (by lia) y2 (λi hi hic=>(c3 i hi (by lia)).1 hic)
         have q2:κ.klt (kv κ b[ib]) (kv κ a[ia+c]):=(c3 c (by lia) (by lia)).2 (Nat.le_refl _)
         by_cases e2:ia+c+1=a.size
         ·rw[if_pos (by simp[e2])]
          exact wpS_pure (.inr ⟨_,_,rfl,⟨_,rfl⟩,m2.last na h2 e2⟩)
         ·rw[if_neg (by simp[e2]),if_neg (by simp;lia)]
          obtain⟨ia1,hia1⟩:∃ia1,ia1=ia+c:=⟨_,rfl⟩
          simp only[<- hia1] at m2 q2 e2 ⊢
          generalize out++a.extract ia ia1=out1 at m2 ⊢
          refine wpS_bind (wpS_elemP (getElem?_pos b ib y2) ?_)
          have m3:=m2.tb sa (by lia) y2 (KeyOrd.kle_of_klt q2)
          by_cases e3:ib+1=b.size
          ·rw[if_pos (by simp[e3])]
           exact wpS_pure (.inr ⟨_,_,rfl,⟨_,rfl⟩,m3.done e3⟩)
          ·rw[if_neg (by simp[e3])]
           refine wpS_bind (wpS_elemP (getElem?_pos a ia1 (by lia)) ?_)
           obtain⟨d,d1,d2,d3⟩:=gal_true kb sb (kv κ a[ia1]) (base:=ib+1) (n:=b.size-(ib+1)) (by lia)
           refine wpS_bind (wpS_gallop hO hk (kv_at ka (by lia)) d2 (by lia) d1 ?_)
           dsimp only
           by_cases hd:d>0
           ·rw[if_pos hd]
            have m4:=m3.bs sa (k:=d) (by lia) (by lia) (λi hi hid=>KeyOrd.kle_of_klt ((d3 i hi (by lia)).1 hid))
            by_cases e4:ib+1+d=b.size
            ·rw[if_pos (by simp[e4])]
             exact wpS_pure (.inr ⟨_,_,rfl,⟨_,rfl⟩,m4.done e4⟩)
            ·rw[if_neg (by simp[e4])]
             have q4:κ.kle (kv κ a[ia1]) (kv κ b[ib+1+d]):=(d3 d (by lia) (by lia)).2 (Nat.le_refl _)
             refine wpS_bind (wpS_elemP (getElem?_pos a ia1 (by lia)) ?_)
             have m5:=m4.ta sb (by lia) (by lia) q4
             by_cases e5:ia1+1+1=a.size
             ·rw[if_pos (by simp[e5])]
              exact wpS_pure (.inr ⟨_,_,rfl,⟨_,rfl⟩,m5.last na h2 e5⟩)
             ·rw[if_neg (by simp[e5])]
              split
              ·exact wpS_pure (.inl ⟨_,_,_,_,_,_,rfl,⟨_,rfl⟩,m5,by lia,by lia,by lia⟩)
              ·exact wpS_pure ⟨_,_,_,_,_,_,rfl,⟨_,rfl⟩,m5,by lia,by lia,by lia⟩
           ·rw[if_neg hd]
            have m4:=m3
            have q4:κ.kle (kv κ a[ia1]) (kv κ b[ib+1]):=(d3 0 (by lia) (by lia)).2 (by lia)
            refine wpS_bind (wpS_elemP (getElem?_pos a ia1 (by lia)) ?_)
            have m5:=m4.ta sb (by lia) (by lia) q4
            by_cases e5:ia1+1+1=a.size
            ·rw[if_pos (by simp[e5])]
             exact wpS_pure (.inr ⟨_,_,rfl,⟨_,rfl⟩,m5.last na h2 e5⟩)
            ·rw[if_neg (by simp[e5])]
             split
             ·exact wpS_pure (.inl ⟨_,_,_,_,_,_,rfl,⟨_,rfl⟩,m5,by lia,by lia,by lia⟩)
             ·exact wpS_pure ⟨_,_,_,_,_,_,rfl,⟨_,rfl⟩,m5,by lia,by lia,by lia⟩
        ·rw[if_neg hc]
         have m2:=m1
         have q2:κ.klt (kv κ b[ib]) (kv κ a[ia]):=(c3 0 (by lia) (by lia)).2 (by lia)
         obtain⟨ia1,hia1⟩:∃ia1,ia1=ia:=⟨_,rfl⟩
         simp only[<- hia1] at m2 q2 ⊢
         refine wpS_bind (wpS_elemP (getElem?_pos b ib y2) ?_)
         have m3:=m2.tb sa (by lia) y2 (KeyOrd.kle_of_klt q2)
         by_cases e3:ib+1=b.size
         ·rw[if_pos (by simp[e3])]
          exact wpS_pure (.inr ⟨_,_,rfl,⟨_,rfl⟩,m3.done e3⟩)
         ·rw[if_neg (by simp[e3])]
          refine wpS_bind (wpS_elemP (getElem?_pos a ia1 (by lia)) ?_)
          obtain⟨d,d1,d2,d3⟩:=gal_true kb sb (kv κ a[ia1]) (base:=ib+1) (n:=b.size-(ib+1)) (by lia)
          refine wpS_bind (wpS_gallop hO hk (kv_at ka (by lia)) d2 (by lia) d1 ?_)
          dsimp only
          by_cases hd:d>0
          ·rw[if_pos hd]
           have m4:=m3.bs sa (k:=d) (by lia) (by lia) (λi hi hid=>KeyOrd.kle_of_klt ((d3 i hi (by lia)).1 hid))
           by_cases e4:ib+1+d=b.size
           ·rw[if_pos (by simp[e4])]
            exact wpS_pure (.inr ⟨_,_,rfl,⟨_,rfl⟩,m4.done e4⟩)
           ·rw[if_neg (by simp[e4])]
            have q4:κ.kle (kv κ a[ia1]) (kv κ b[ib+1+d]):=(d3 d (by lia) (by lia)).2 (Nat.le_refl _)
            refine wpS_bind (wpS_elemP (getElem?_pos a ia1 (by lia)) ?_)
            have m5:=m4.ta sb (by lia) (by lia) q4
            by_cases e5:ia1+1+1=a.size
            ·rw[if_pos (by simp[e5])]
             exact wpS_pure (.inr ⟨_,_,rfl,⟨_,rfl⟩,m5.last na h2 e5⟩)
            ·rw[if_neg (by simp[e5])]
             split
             ·exact wpS_pure (.inl ⟨_,_,_,_,_,_,rfl,⟨_,rfl⟩,m5,by lia,by lia,by lia⟩)
             ·exact wpS_pure ⟨_,_,_,_,_,_,rfl,⟨_,rfl⟩,m5,by lia,by lia,by lia⟩
          ·rw[if_neg hd]
           have m4:=m3
           have q4:κ.kle (kv κ a[ia1]) (kv κ b[ib+1]):=(d3 0 (by lia) (by lia)).2 (by lia)
           refine wpS_bind (wpS_elemP (getElem?_pos a ia1 (by lia)) ?_)
           have m5:=m4.ta sb (by lia) (by lia) q4
           by_cases e5:ia1+1+1=a.size
           ·rw[if_pos (by simp[e5])]
            exact wpS_pure (.inr ⟨_,_,rfl,⟨_,rfl⟩,m5.last na h2 e5⟩)
           ·rw[if_neg (by simp[e5])]
            split
            ·exact wpS_pure (.inl ⟨_,_,_,_,_,_,rfl,⟨_,rfl⟩,m5,by lia,by lia,by lia⟩)
            ·exact wpS_pure ⟨_,_,_,_,_,_,rfl,⟨_,rfl⟩,m5,by lia,by lia,by lia⟩
       ·rw[if_neg hmg]
        have hk:=hk mg
        refine wpS_bind (wpS_modify ?_)
        refine wpS_bind (wpS_elemP (getElem?_pos b ib y2) ?_)
        obtain⟨c,c1,c2,c3⟩:=gal_false ka sa (kv κ b[ib]) (base:=ia) (n:=a.size-ia) (by lia)
        refine wpS_bind (wpS_gallop hO hk (kv_at kb y2) c2 (by lia) c1 ?_)
        dsimp only
        have lc:c<a.size-ia:=by
         rcases Nat.lt_or_ge c (a.size-ia) with z|z
         ·exact z
         ·have:=(c3 (a.size-1-ia) (by lia) (by lia)).1 (by lia)
          have e:a[ia+(a.size-1-ia)]'(by lia)=a[a.size-1]:=by congr 1;lia
          rw[e] at this
          exact absurd (h2 ib y2) (KeyOrd.not_klt_of_kle this)
        by_cases hc:c>0
        ·rw[if_pos hc]
         have m2:=m1.as sb (k:=c) (by lia) y2 (λi hi hic=>(c3 i hi (by lia)).1 hic)
         have q2:κ.klt (kv κ b[ib]) (kv κ a[ia+c]):=(c3 c (by lia) (by lia)).2 (Nat.le_refl _)
         by_cases e2:ia+c+1=a.size
         ·rw[if_pos (by simp[e2])]
          exact wpS_pure (.inr ⟨_,_,rfl,⟨_,rfl⟩,m2.last na h2 e2⟩)
         ·rw[if_neg (by simp[e2]),if_neg (by simp;lia)]
          obtain⟨ia1,hia1⟩:∃ia1,ia1=ia+c:=⟨_,rfl⟩
          simp only[<- hia1] at m2 q2 e2 ⊢
          generalize out++a.extract ia ia1=out1 at m2 ⊢
          refine wpS_bind (wpS_elemP (getElem?_pos b ib y2) ?_)
          have m3:=m2.tb sa (by lia) y2 (KeyOrd.kle_of_klt q2)
          by_cases e3:ib+1=b.size
          ·rw[if_pos (by simp[e3])]
           exact wpS_pure (.inr ⟨_,_,rfl,⟨_,rfl⟩,m3.done e3⟩)
          ·rw[if_neg (by simp[e3])]
           refine wpS_bind (wpS_elemP (getElem?_pos a ia1 (by lia)) ?_)
           obtain⟨d,d1,d2,d3⟩:=gal_true kb sb (kv κ a[ia1]) (base:=ib+1) (n:=b.size-(ib+1)) (by lia)
           refine wpS_bind (wpS_gallop hO hk (kv_at ka (by lia)) d2 (by lia) d1 ?_)
           dsimp only
           by_cases hd:d>0
           ·rw[if_pos hd]
            have m4:=m3.bs sa (k:=d) (by lia) (by lia) (λi hi hid=>KeyOrd.kle_of_klt ((d3 i hi (by lia)).1 hid))
            by_cases e4:ib+1+d=b.size
            ·rw[if_pos (by simp[e4])]
             exact wpS_pure (.inr ⟨_,_,rfl,⟨_,rfl⟩,m4.done e4⟩)
            ·rw[if_neg (by simp[e4])]
             have q4:κ.kle (kv κ a[ia1]) (kv κ b[ib+1+d]):=(d3 d (by lia) (by lia)).2 (Nat.le_refl _)
             refine wpS_bind (wpS_elemP (getElem?_pos a ia1 (by lia)) ?_)
             have m5:=m4.ta sb (by lia) (by lia) q4
             by_cases e5:ia1+1+1=a.size
             ·rw[if_pos (by simp[e5])]
              exact wpS_pure (.inr ⟨_,_,rfl,⟨_,rfl⟩,m5.last na h2 e5⟩)
             ·rw[if_neg (by simp[e5])]
              split
              ·exact wpS_pure (.inl ⟨_,_,_,_,_,_,rfl,⟨_,rfl⟩,m5,by lia,by lia,by lia⟩)
              ·exact wpS_pure ⟨_,_,_,_,_,_,rfl,⟨_,rfl⟩,m5,by lia,by lia,by lia⟩
           ·rw[if_neg hd]
            have m4:=m3
            have q4:κ.kle (kv κ a[ia1]) (kv κ b[ib+1]):=(d3 0 (by lia) (by lia)).2 (by lia)
            refine wpS_bind (wpS_elemP (getElem?_pos a ia1 (by lia)) ?_)
            have m5:=m4.ta sb (by lia) (by lia) q4
            by_cases e5:ia1+1+1=a.size
            ·rw[if_pos (by simp[e5])]
             exact wpS_pure (.inr ⟨_,_,rfl,⟨_,rfl⟩,m5.last na h2 e5⟩)
            ·rw[if_neg (by simp[e5])]
             split
             ·exact wpS_pure (.inl ⟨_,_,_,_,_,_,rfl,⟨_,rfl⟩,m5,by lia,by lia,by lia⟩)
             ·exact wpS_pure ⟨_,_,_,_,_,_,rfl,⟨_,rfl⟩,m5,by lia,by lia,by lia⟩
        ·rw[if_neg hc]
         have m2:=m1
         have q2:κ.klt (kv κ b[ib]) (kv κ a[ia]):=(c3 0 (by lia) (by lia)).2 (by lia)
         obtain⟨ia1,hia1⟩:∃ia1,ia1=ia:=⟨_,rfl⟩
         simp only[<- hia1] at m2 q2 ⊢
         refine wpS_bind (wpS_elemP (getElem?_pos b ib y2) ?_)
         have m3:=m2.tb sa (by lia) y2 (KeyOrd.kle_of_klt q2)
         by_cases e3:ib+1=b.size
         ·rw[if_pos (by simp[e3])]
          exact wpS_pure (.inr ⟨_,_,rfl,⟨_,rfl⟩,m3.done e3⟩)
         ·rw[if_neg (by simp[e3])]
          refine wpS_bind (wpS_elemP (getElem?_pos a ia1 (by lia)) ?_)
          obtain⟨d,d1,d2,d3⟩:=gal_true kb sb (kv κ a[ia1]) (base:=ib+1) (n:=b.size-(ib+1)) (by lia)
          refine wpS_bind (wpS_gallop hO hk (kv_at ka (by lia)) d2 (by lia) d1 ?_)
          dsimp only
          by_cases hd:d>0
          ·rw[if_pos hd]
           have m4:=m3.bs sa (k:=d) (by lia) (by lia) (λi hi hid=>KeyOrd.kle_of_klt ((d3 i hi (by lia)).1 hid))
           by_cases e4:ib+1+d=b.size
           ·rw[if_pos (by simp[e4])]
            exact wpS_pure (.inr ⟨_,_,rfl,⟨_,rfl⟩,m4.done e4⟩)
           ·rw[if_neg (by simp[e4])]
            have q4:κ.kle (kv κ a[ia1]) (kv κ b[ib+1+d]):=(d3 d (by lia) (by lia)).2 (Nat.le_refl _)
            refine wpS_bind (wpS_elemP (getElem?_pos a ia1 (by lia)) ?_)
            have m5:=m4.ta sb (by lia) (by lia) q4
            by_cases e5:ia1+1+1=a.size
            ·rw[if_pos (by simp[e5])]
             exact wpS_pure (.inr ⟨_,_,rfl,⟨_,rfl⟩,m5.last na h2 e5⟩)
            ·rw[if_neg (by simp[e5])]
             split
             ·exact wpS_pure (.inl ⟨_,_,_,_,_,_,rfl,⟨_,rfl⟩,m5,by lia,by lia,by lia⟩)
             ·exact wpS_pure ⟨_,_,_,_,_,_,rfl,⟨_,rfl⟩,m5,by lia,by lia,by lia⟩
          ·rw[if_neg hd]
           have m4:=m3
           have q4:κ.kle (kv κ a[ia1]) (kv κ b[ib+1]):=(d3 0 (by lia) (by lia)).2 (by lia)
           refine wpS_bind (wpS_elemP (getElem?_pos a ia1 (by lia)) ?_)
           have m5:=m4.ta sb (by lia) (by lia) q4
           by_cases e5:ia1+1+1=a.size
           ·rw[if_pos (by simp[e5])]
            exact wpS_pure (.inr ⟨_,_,rfl,⟨_,rfl⟩,m5.last na h2 e5⟩)
           ·rw[if_neg (by simp[e5])]
            split
            ·exact wpS_pure (.inl ⟨_,_,_,_,_,_,rfl,⟨_,rfl⟩,m5,by lia,by lia,by lia⟩)
            ·exact wpS_pure ⟨_,_,_,_,_,_,rfl,⟨_,rfl⟩,m5,by lia,by lia,by lia⟩
     ·exact wpS_pure ⟨r,_,rfl,hg,hr⟩
end
end PyProof.Rows
namespace PyProof.Rows
open PySem
def mergeHi':Array Keyed->Array Keyed->StateT SortSt Sem (Array Keyed):=sortPriv% PySem.Builtin.mergeHi
def flipK (κ:KeyKind):KeyKind where
 α:=κ.α
 blt:=λa b=>κ.blt b a
 irrefl:=κ.irrefl
 trans:=λa b c h1 h2=>κ.trans _ _ _ h2 h1
 negTrans:=λa b c h=>(κ.negTrans _ b _ h).symm
 total:=λa b h1 h2=>κ.total _ _ h2 h1
 keyOf:=κ.keyOf
 dflt:=κ.dflt
theorem asc_flip {κ:KeyKind}{l:List Keyed}(h:Asc (flipK κ) l):Asc κ l.reverse:=List.pairwise_reverse.mpr h
theorem asc_flip' {κ:KeyKind}{l:List Keyed}(h:Asc κ l):Asc (flipK κ) l.reverse:=List.pairwise_reverse.mpr h
theorem take_at {a:Array Keyed}{n:Nat}(h:n<a.size):(a.toList.take (n+1)).reverse=a[n]::(a.toList.take n).reverse:=by
 rw[List.take_succ_eq_append_getElem (by simpa using h),List.reverse_append];simp
theorem mem_take {a:Array Keyed}{n:Nat}{x:Keyed}(h:x∈(a.toList.take n).reverse):∃j,∃hj:j<a.size,j<n/\a[j]=x:=by
 obtain⟨k,hk,e⟩:=List.getElem_of_mem (List.mem_reverse.mp h)
 have hk':k<n/\k<a.size:=by simp at hk;lia
 exact⟨k,hk'.2,hk'.1,by rw[<- e];simp⟩
theorem take_ext {a:Array Keyed}{i n:Nat}(h:i<=n) (hn:n<=a.size):(a.toList.take n).reverse=(a.extract i n).reverse.toList++(a.toList.take i).reverse:=by
 rw[Array.toList_reverse,Array.toList_extract,List.extract_eq_drop_take,<- List.reverse_append,<- List.take_add,show i+(n-i)=n by lia]
theorem mem_ext2 {a:Array Keyed}{i n:Nat}(hn:n<=a.size){x:Keyed}(hx:x∈(a.extract i n).reverse.toList):∃j,∃hj:j<a.size,i<=j/\j<n/\a[j]=x:=by
 rw[Array.toList_reverse] at hx
 obtain⟨j,hj,e⟩:=List.getElem_of_mem (List.mem_reverse.mp hx)
 have hj':i+j<n:=by simp at hj;lia
 exact⟨i+j,by lia,by lia,hj',by rw[<- e];simp⟩
theorem ext_beg {a:Array Keyed}{n:Nat}:(a.extract 0 n).toList=a.toList.take n:=by
 rw[Array.toList_extract,List.extract_eq_drop_take];simp
def Hp (κ:KeyKind) (a b out:Array Keyed) (na nb:Nat):Prop:=Mg (flipK κ) (a.toList++b.toList) out.toList (a.toList.take na).reverse (b.toList.take nb).reverse
section
variable {κ:KeyKind}{a b out:Array Keyed}{na nb:Nat}
theorem Hp.ta (m:Hp κ a b out (na+1) nb) (hna:na<a.size) (h:∀j,(hj:j<b.size)->j<nb->κ.kle (kv κ b[j]) (kv κ a[na])):Hp κ a b (out.push a[na]) na nb:=by
 unfold Hp at m ⊢
 rw[take_at hna] at m
 rw[Array.toList_push]
 refine m.takeA λy hy=>?_
 obtain⟨j,hj,h1,rfl⟩:=mem_take hy
 exact h j hj h1
theorem Hp.tb (m:Hp κ a b out na (nb+1)) (hnb:nb<b.size) (h:∀j,(hj:j<a.size)->j<na->κ.kle (kv κ a[j]) (kv κ b[nb])):Hp κ a b (out.push b[nb]) na nb:=by
 unfold Hp at m ⊢
 rw[take_at hnb] at m
 rw[Array.toList_push]
 refine m.takeB λy hy=>?_
 obtain⟨j,hj,h1,rfl⟩:=mem_take hy
 exact h j hj h1
theorem Hp.as (m:Hp κ a b out na nb){k:Nat}(hk:k<=na) (hna:na<=a.size) (h:∀i j,(hi:i<a.size)->(hj:j<b.size)->k<=i->i<na->j<nb->κ.kle (kv κ b[j]) (kv κ a[i])):Hp κ a b (out++(a.extract k na).reverse) k nb:=by
 unfold Hp at m ⊢
 rw[take_ext hk hna] at m
 rw[Array.toList_append]
 refine m.takesA λx hx y hy=>?_
 obtain⟨i,hi,hik,hin,rfl⟩:=mem_ext2 hna hx
 obtain⟨j,hj,h1,rfl⟩:=mem_take hy
 exact h i j hi hj hik hin h1
theorem Hp.bs (m:Hp κ a b out na nb){k:Nat}(hk:k<=nb) (hnb:nb<=b.size) (h:∀i j,(hi:i<b.size)->(hj:j<a.size)->k<=i->i<nb->j<na->κ.kle (kv κ a[j]) (kv κ b[i])):Hp κ a b (out++(b.extract k nb).reverse) na k:=by
 unfold Hp at m ⊢
 rw[take_ext hk hnb] at m
 rw[Array.toList_append]
 refine m.takesB λx hx y hy=>?_
 obtain⟨i,hi,hik,hin,rfl⟩:=mem_ext2 hnb hx
 obtain⟨j,hj,h1,rfl⟩:=mem_take hy
 exact h i j hi hj hik hin h1
theorem Hp.done (m:Hp κ a b out na nb) (h:na=0):Rd κ a b (a.extract 0 na++b.extract 0 nb++out.reverse):=by
 unfold Hp at m
 subst h
 have e:=m.swap.doneB
 have z:(a.extract 0 0++b.extract 0 nb++out.reverse).toList=(out.toList++(b.toList.take nb).reverse).reverse:=by
  rw[Array.toList_append,Array.toList_append,ext_beg,ext_beg,Array.toList_reverse,List.reverse_append];simp
 show (a.extract 0 0++b.extract 0 nb++out.reverse).toList.Perm _/\Asc κ (a.extract 0 0++b.extract 0 nb++out.reverse).toList
 rw[z]
 exact⟨(List.reverse_perm _).trans e.1,asc_flip e.2⟩
theorem Hp.first (m:Hp κ a b out na nb) (sa:Asc κ a.toList) (ha:0<a.size) (hb:0<b.size) (h1:κ.klt (kv κ b[0]) (kv κ a[0])) (h:nb=1):Rd κ a b (b.extract 0 nb++a.extract 0 na++out.reverse):=by
 unfold Hp at m
 subst h
 have e:=m.swap.doneAB λy hy x hx=>by
  obtain⟨i,hi,_,rfl⟩:=mem_take hy
  obtain⟨j,hj,h3,rfl⟩:=mem_take hx
  have:j=0:=by lia
  subst this
  have q:κ.kle (kv κ b[0]) (kv κ a[i]):=KeyOrd.kle_trans (KeyOrd.kle_of_klt h1) (asc_at sa (Nat.zero_le i) hi)
  exact q
 have z:(b.extract 0 1++a.extract 0 na++out.reverse).toList=(out.toList++((a.toList.take na).reverse++(b.toList.take 1).reverse)).reverse:=by
  rw[Array.toList_append,Array.toList_append,ext_beg,ext_beg,Array.toList_reverse,List.reverse_append,List.reverse_append];simp
 show (b.extract 0 1++a.extract 0 na++out.reverse).toList.Perm _/\Asc κ (b.extract 0 1++a.extract 0 na++out.reverse).toList
 rw[z]
 exact⟨(List.reverse_perm _).trans e.1,asc_flip e.2⟩
end
theorem Hp.ta' {κ:KeyKind}{a b out:Array Keyed}{na nb:Nat}(sb:Asc κ b.toList) (m:Hp κ a b out na nb) (h0:0<na) (hna:na<=a.size) (h1:0<nb) (hnb:nb<=b.size) (h:κ.kle (kv κ (b[nb-1]'(by lia))) (kv κ (a[na-1]'(by lia)))):Hp κ a b (out.push (a[na-1]'(by lia))) (na-1) nb:=by
 refine Hp.ta (na:=na-1) (by rw[show na-1+1=na by lia];exact m) (by lia) λj hj hn=>?_
 exact KeyOrd.kle_trans (asc_at sb (show j<=nb-1 by lia) (by lia)) h
theorem Hp.tb' {κ:KeyKind}{a b out:Array Keyed}{na nb:Nat}(sa:Asc κ a.toList) (m:Hp κ a b out na nb) (h0:0<na) (hna:na<=a.size) (h1:0<nb) (hnb:nb<=b.size) (h:κ.kle (kv κ (a[na-1]'(by lia))) (kv κ (b[nb-1]'(by lia)))):Hp κ a b (out.push (b[nb-1]'(by lia))) na (nb-1):=by
 refine Hp.tb (nb:=nb-1) (by rw[show nb-1+1=nb by lia];exact m) (by lia) λj hj hn=>?_
 exact KeyOrd.kle_trans (asc_at sa (show j<=na-1 by lia) (by lia)) h
section
variable {prog:Program}{w:World}{A:Around}{E:Value->Shared->Prop}{s:Shared}{κ:KeyKind}
theorem wpS_mergeHi {kd:SortKind}(hO:KLt prog w A s κ kd){st:SortSt}{a b:Array Keyed}{Q:Array Keyed->SortSt->Prop}(hk0:kindOf st=kd) (ka:KeysOf κ a) (kb:KeysOf κ b) (sa:Asc κ a.toList) (sb:Asc κ b.toList)
  (pa:0<a.size) (pb:0<b.size) (h1:κ.klt (kv κ b[0]) (kv κ a[0])) (h2:∀j,(hj:j<b.size)->κ.klt (kv κ b[j]) (kv κ a[a.size-1]))
  (h:∀out g,Rd κ a b out->Q out (setGal st g)):wpS (model prog w) A E s (mergeHi' a b) Q st:=by
 have hk:∀g,kindOf (setGal st g)=kd:=λg=>hk0
 refine wpS_bind (wpS_lift (wpAny_rule ⟨rfl,?_⟩))
 refine wpS_bind (wpS_elemP (getElem?_pos a (a.size-1) (by lia)) ?_)
 dsimp only
 have m0:Hp κ a b #[a[a.size-1]] (a.size-1) b.size:=by
  refine Hp.ta' (out:=#[]) sb ⟨by simp only[Array.toList_empty,List.nil_append];rw[List.take_of_length_le (by simp),List.take_of_length_le (by simp)];exact (List.reverse_perm _).append (List.reverse_perm _),by simp[Asc],?_,?_,by simp,by simp⟩ pa (Nat.le_refl _) pb (Nat.le_refl _) (KeyOrd.kle_of_klt (h2 _ (by lia)))
  ·rw[List.take_of_length_le (by simp)];exact asc_flip' sa
  ·rw[List.take_of_length_le (by simp)];exact asc_flip' sb
 by_cases e0:a.size-1=0
 ·rw[if_pos (by simp only[beq_iff_eq];exact e0)]
  exact wpS_pure (h _ (gallopOf st) (m0.done e0))
 ·rw[if_neg (by simp only[beq_iff_eq];exact e0)]
  by_cases e1:b.size=1
  ·rw[if_pos (by simp only[beq_iff_eq];exact e1)]
   exact wpS_pure (h _ (gallopOf st) (m0.first sa pa pb h1 e1))
  ·rw[if_neg (by simp only[beq_iff_eq];exact e1)]
   refine wpS_bind (wpS_get ?_)
   refine wpS_bind (wpS_mono (wpS_forRange (I:=λx c st'=>∃na nb out mg,c=(none,na,nb,out,mg)/\(∃g,st'=setGal st g)/\Hp κ a b out na nb/\0<na/\na<=a.size/\1<nb/\nb<=b.size/\x+na+nb<=a.size+b.size)
    (Q:=λc st'=>∃r t,c=(some r,t)/\(∃g,st'=setGal st g)/\Rd κ a b r) ?step ?fin ⟨_,_,_,_,rfl,⟨gallopOf st,rfl⟩,m0,by lia,by lia,by lia,by lia,by lia⟩) ?post)
   case post=>
    rintro c st' ⟨r,t,rfl,⟨g,rfl⟩,hr⟩
    exact wpS_pure (h r g hr)
   case fin=>
    rintro c st' ⟨na,nb,out,mg,rfl,_,m,y1,y2,y3,y4,y5⟩
    lia
   case step=>
    rintro x c st' _ hx ⟨na,nb,out,mg,rfl,⟨g,rfl⟩,m0,y1,y2,y3,y4,y5⟩
    dsimp only
    refine wpS_bind (wpS_mono (wpS_forRange (I:=λy c st'=>∃na nb out ac bc,c=(none,na,nb,out,ac,bc)/\(∃g,st'=setGal st g)/\Hp κ a b out na nb/\0<na/\na<=a.size/\1<nb/\nb<=b.size/\x+y+na+nb<=a.size+b.size)
     (Q:=λc st'=>(∃na nb out ac bc,c=(none,na,nb,out,ac,bc)/\(∃g,st'=setGal st g)/\Hp κ a b out na nb/\0<na/\na<=a.size/\1<nb/\nb<=b.size/\x+1+na+nb<=a.size+b.size)\/∃r t,c=(some r,t)/\(∃g,st'=setGal st g)/\Rd κ a b r) ?step ?fin ⟨_,_,_,_,_,rfl,⟨g,rfl⟩,m0,y1,y2,y3,y4,by lia⟩) ?post)
    case fin=>
     rintro c st' ⟨na,nb,out,ac,bc,rfl,_,m,y1,y2,y3,y4,y5⟩
     lia
    case step=>
     rintro y c st' _ hy ⟨na,nb,out,ac,bc,rfl,⟨g,rfl⟩,m,y1,y2,y3,y4,y5⟩
     dsimp only
     refine wpS_bind (wpS_elemP (getElem?_pos b (nb-1) (by lia)) ?_)
     refine wpS_bind (wpS_elemP (getElem?_pos a (na-1) (by lia)) ?_)
     refine wpS_bind (wpS_ltP hO (hk g) (kv_at kb (by lia)) (kv_at ka (by lia)) ?_)
     cases hb:κ.blt (kv κ (b[nb-1]'(by lia))) (kv κ (a[na-1]'(by lia)))
     ·dsimp only
      rw[if_neg (by decide)]
      refine wpS_bind (wpS_elemP (getElem?_pos b (nb-1) (by lia)) ?_)
      have m1:=m.tb' sa y1 y2 (by lia) y4 hb
      by_cases e1:nb-1=1
      ·rw[if_pos (by simp only[beq_iff_eq];exact e1)]
       exact wpS_pure (.inr ⟨_,_,rfl,⟨_,rfl⟩,m1.first sa pa pb h1 e1⟩)
      ·rw[if_neg (by simp only[beq_iff_eq];exact e1)]
       split
       ·exact wpS_pure (.inl ⟨_,_,_,_,_,rfl,⟨_,rfl⟩,m1,by lia,by lia,by lia,by lia,by lia⟩)
       ·exact wpS_pure ⟨_,_,_,_,_,rfl,⟨_,rfl⟩,m1,by lia,by lia,by lia,by lia,by lia⟩
     ·dsimp only
      rw[if_pos rfl]
      refine wpS_bind (wpS_elemP (getElem?_pos a (na-1) (by lia)) ?_)
      have m1:=m.ta' sb y1 y2 (by lia) y4 (KeyOrd.kle_of_klt hb)
      by_cases e1:na-1=0
      ·rw[if_pos (by simp only[beq_iff_eq];exact e1)]
       exact wpS_pure (.inr ⟨_,_,rfl,⟨_,rfl⟩,m1.done e1⟩)
      ·rw[if_neg (by simp only[beq_iff_eq];exact e1)]
       split
       ·exact wpS_pure (.inl ⟨_,_,_,_,_,rfl,⟨_,rfl⟩,m1,by lia,by lia,by lia,by lia,by lia⟩)
       ·exact wpS_pure ⟨_,_,_,_,_,rfl,⟨_,rfl⟩,m1,by lia,by lia,by lia,by lia,by lia⟩
    case post=>
     rintro c st' (⟨na,nb,out,ac,bc,rfl,⟨g,rfl⟩,m,y1,y2,y3,y4,y5⟩|⟨r,t,rfl,hg,hr⟩)
     ·dsimp only
      refine wpS_bind (wpS_lift (wpAny_rule ⟨rfl,?_⟩))
      refine wpS_bind (wpS_mono (wpS_forRange (I:=λy c st'=>∃na nb out mg ac bc,c=(none,na,nb,out,mg,ac,bc)/\(∃g,st'=setGal st g)/\Hp κ a b out na nb/\0<na/\na<=a.size/\1<nb/\nb<=b.size/\x+1+y+na+nb<=a.size+b.size)
       (Q:=λc st'=>(∃na nb out mg ac bc,c=(none,na,nb,out,mg,ac,bc)/\(∃g,st'=setGal st g)/\Hp κ a b out na nb/\0<na/\na<=a.size/\1<nb/\nb<=b.size/\x+1+na+nb<=a.size+b.size)\/∃r t,c=(some r,t)/\(∃g,st'=setGal st g)/\Rd κ a b r) ?step ?fin ⟨_,_,_,_,_,_,rfl,⟨g,rfl⟩,m,y1,y2,y3,y4,by lia⟩) ?post)
      case fin=>
       rintro c st' ⟨na,nb,out,mg,ac,bc,rfl,_,m,y1,y2,y3,y4,y5⟩
       lia
      case post=>
       rintro c st' (⟨na,nb,out,mg,ac,bc,rfl,⟨g,rfl⟩,m,y1,y2,y3,y4,y5⟩|⟨r,t,rfl,hg,hr⟩)
       ·dsimp only
        exact wpS_bind (wpS_modify (wpS_pure ⟨_,_,_,_,rfl,⟨_,rfl⟩,m,y1,y2,y3,y4,y5⟩))
       ·exact wpS_pure ⟨r,_,rfl,hg,hr⟩
      case step=>
       rintro y c st' _ hy ⟨na,nb,out,mg,ac,bc,rfl,⟨g,rfl⟩,m1,y1,y2,y3,y4,y5⟩
       dsimp only
       by_cases hmg:mg>1
       ·rw[if_pos hmg]
        have hk:=hk (mg-1)
        refine wpS_bind (wpS_modify ?_)
        refine wpS_bind (wpS_elemP (getElem?_pos b (nb-1) (by lia)) ?_)
        obtain⟨c,c1,c2,c0⟩:=gal_false ka sa (kv κ (b[nb-1]'(by lia))) (base:=0) (n:=na) (by lia)
        have c3:∀i,(hi:i<a.size)->i<na->(i<c->κ.kle (kv κ a[i]) (kv κ (b[nb-1]'(by lia))))/\(c<=i->κ.klt (kv κ (b[nb-1]'(by lia))) (kv κ a[i])):=λi hi hn=>by
         have:=c0 i (by lia) hn
         simp only[Nat.zero_add] at this
         exact this
        refine wpS_bind (wpS_gallop hO hk (kv_at kb (by lia)) c2 (by lia) c1 ?_)
        dsimp only
        by_cases hc:na-c>0
        ·rw[if_pos hc]
         have m2:=m1.as (k:=c) (by lia) (by lia) (λi j hi hj z1 z2 z3=>KeyOrd.kle_trans (asc_at sb (show j<=nb-1 by lia) (by lia)) (KeyOrd.kle_of_klt ((c3 i hi z2).2 z1)))
         by_cases e2:c=0
         ·rw[if_pos (by simp only[beq_iff_eq];exact e2)]
          exact wpS_pure (.inr ⟨_,_,rfl,⟨_,rfl⟩,m2.done e2⟩)
         ·rw[if_neg (by simp only[beq_iff_eq];exact e2)]
          have q2:κ.kle (kv κ (a[c-1]'(by lia))) (kv κ (b[nb-1]'(by lia))):=(c3 (c-1) (by lia) (by lia)).1 (by lia)
          obtain⟨na1,hna1⟩:∃na1,na1=c:=⟨_,rfl⟩
          simp only[<- hna1] at m2 q2 e2 ⊢
          refine wpS_bind (wpS_elemP (getElem?_pos b (nb-1) (by lia)) ?_)
          have m3:=m2.tb' sa (by lia) (by lia) (by lia) (by lia) q2
          by_cases e3:nb-1=1
          ·rw[if_pos (by simp only[beq_iff_eq];exact e3)]
           exact wpS_pure (.inr ⟨_,_,rfl,⟨_,rfl⟩,m3.first sa pa pb h1 e3⟩)
          ·rw[if_neg (by simp only[beq_iff_eq];exact e3)]
           refine wpS_bind (wpS_elemP (getElem?_pos a (na1-1) (by lia)) ?_)
           obtain⟨d,d1,d2,d0⟩:=gal_true kb sb (kv κ (a[na1-1]'(by lia))) (base:=0) (n:=nb-1) (by lia)
           have d3:∀i,(hi:i<b.size)->i<nb-1->(i<d->κ.klt (kv κ b[i]) (kv κ (a[na1-1]'(by lia))))/\(d<=i->κ.kle (kv κ (a[na1-1]'(by lia))) (kv κ b[i])):=λi hi hn=>by
            have:=d0 i (by lia) hn
            simp only[Nat.zero_add] at this
            exact this
           refine wpS_bind (wpS_gallop hO hk (kv_at ka (by lia)) d2 (by lia) d1 ?_)
           dsimp only
           have ld:0<d:=by
            rcases Nat.eq_zero_or_pos d with z|z
            ·have:=(d3 0 (by lia) (by lia)).2 (by lia)
             exact absurd (KeyOrd.klt_of_klt_of_kle h1 (asc_at sa (Nat.zero_le (na1-1)) (by lia))) (KeyOrd.not_klt_of_kle this)
            ·exact z
           by_cases hd:nb-1-d>0
           ·rw[if_pos hd]
            have m4:=m3.bs (k:=d) (by lia) (by lia) (λi j hi hj c1 c2 c3=>KeyOrd.kle_trans (asc_at sa (show j<=na1-1 by lia) (by lia)) ((d3 i hi (by lia)).2 c1))
            by_cases e4:d=1
            ·rw[if_pos (by simp only[beq_iff_eq];exact e4)]
             exact wpS_pure (.inr ⟨_,_,rfl,⟨_,rfl⟩,m4.first sa pa pb h1 e4⟩)
            ·rw[if_neg (by simp only[beq_iff_eq];exact e4),if_neg (by simp only[beq_iff_eq];lia)]
             have q4:κ.klt (kv κ (b[d-1]'(by lia))) (kv κ (a[na1-1]'(by lia))):=(d3 (d-1) (by lia) (by lia)).1 (by lia)
             refine wpS_bind (wpS_elemP (getElem?_pos a (na1-1) (by lia)) ?_)
             have m5:=m4.ta' sb (by lia) (by lia) (by lia) (by lia) (KeyOrd.kle_of_klt q4)
             by_cases e5:na1-1=0
             ·rw[if_pos (by simp[e5])]
              exact wpS_pure (.inr ⟨_,_,rfl,⟨_,rfl⟩,m5.done e5⟩)
             ·rw[if_neg (by simp only[beq_iff_eq];exact e5)]
              split
              ·exact wpS_pure (.inl ⟨_,_,_,_,_,_,rfl,⟨_,rfl⟩,m5,by lia,by lia,by lia,by lia,by lia⟩)
              ·exact wpS_pure ⟨_,_,_,_,_,_,rfl,⟨_,rfl⟩,m5,by lia,by lia,by lia,by lia,by lia⟩
           ·rw[if_neg hd]
            have m4:=m3
            have q4:κ.klt (kv κ (b[nb-1-1]'(by lia))) (kv κ (a[na1-1]'(by lia))):=(d3 (nb-1-1) (by lia) (by lia)).1 (by lia)
            refine wpS_bind (wpS_elemP (getElem?_pos a (na1-1) (by lia)) ?_)
            have m5:=m4.ta' sb (by lia) (by lia) (by lia) (by lia) (KeyOrd.kle_of_klt q4)
            by_cases e5:na1-1=0
            ·rw[if_pos (by simp[e5])]
             exact wpS_pure (.inr ⟨_,_,rfl,⟨_,rfl⟩,m5.done e5⟩)
            ·rw[if_neg (by simp only[beq_iff_eq];exact e5)]
             split
             ·exact wpS_pure (.inl ⟨_,_,_,_,_,_,rfl,⟨_,rfl⟩,m5,by lia,by lia,by lia,by lia,by lia⟩)
             ·exact wpS_pure ⟨_,_,_,_,_,_,rfl,⟨_,rfl⟩,m5,by lia,by lia,by lia,by lia,by lia⟩
        ·rw[if_neg hc]
         have m2:=m1
         have q2:κ.kle (kv κ (a[na-1]'(by lia))) (kv κ (b[nb-1]'(by lia))):=(c3 (na-1) (by lia) (by lia)).1 (by lia)
         obtain⟨na1,hna1⟩:∃na1,na1=na:=⟨_,rfl⟩
         simp only[<- hna1] at m2 q2 ⊢
         refine wpS_bind (wpS_elemP (getElem?_pos b (nb-1) (by lia)) ?_)
         have m3:=m2.tb' sa (by lia) (by lia) (by lia) (by lia) q2
         by_cases e3:nb-1=1
         ·rw[if_pos (by simp only[beq_iff_eq];exact e3)]
          exact wpS_pure (.inr ⟨_,_,rfl,⟨_,rfl⟩,m3.first sa pa pb h1 e3⟩)
         ·rw[if_neg (by simp only[beq_iff_eq];exact e3)]
          refine wpS_bind (wpS_elemP (getElem?_pos a (na1-1) (by lia)) ?_)
          obtain⟨d,d1,d2,d0⟩:=gal_true kb sb (kv κ (a[na1-1]'(by lia))) (base:=0) (n:=nb-1) (by lia)
          have d3:∀i,(hi:i<b.size)->i<nb-1->(i<d->κ.klt (kv κ b[i]) (kv κ (a[na1-1]'(by lia))))/\(d<=i->κ.kle (kv κ (a[na1-1]'(by lia))) (kv κ b[i])):=λi hi hn=>by
           have:=d0 i (by lia) hn
           simp only[Nat.zero_add] at this
           exact this
          refine wpS_bind (wpS_gallop hO hk (kv_at ka (by lia)) d2 (by lia) d1 ?_)
          dsimp only
          have ld:0<d:=by
           rcases Nat.eq_zero_or_pos d with z|z
           ·have:=(d3 0 (by lia) (by lia)).2 (by lia)
            exact absurd (KeyOrd.klt_of_klt_of_kle h1 (asc_at sa (Nat.zero_le (na1-1)) (by lia))) (KeyOrd.not_klt_of_kle this)
           ·exact z
          by_cases hd:nb-1-d>0
          ·rw[if_pos hd]
           have m4:=m3.bs (k:=d) (by lia) (by lia) (λi j hi hj c1 c2 c3=>KeyOrd.kle_trans (asc_at sa (show j<=na1-1 by lia) (by lia)) ((d3 i hi (by lia)).2 c1))
           by_cases e4:d=1
           ·rw[if_pos (by simp only[beq_iff_eq];exact e4)]
            exact wpS_pure (.inr ⟨_,_,rfl,⟨_,rfl⟩,m4.first sa pa pb h1 e4⟩)
           ·rw[if_neg (by simp only[beq_iff_eq];exact e4),if_neg (by simp only[beq_iff_eq];lia)]
            have q4:κ.klt (kv κ (b[d-1]'(by lia))) (kv κ (a[na1-1]'(by lia))):=(d3 (d-1) (by lia) (by lia)).1 (by lia)
            refine wpS_bind (wpS_elemP (getElem?_pos a (na1-1) (by lia)) ?_)
            have m5:=m4.ta' sb (by lia) (by lia) (by lia) (by lia) (KeyOrd.kle_of_klt q4)
            by_cases e5:na1-1=0
            ·rw[if_pos (by simp[e5])]
             exact wpS_pure (.inr ⟨_,_,rfl,⟨_,rfl⟩,m5.done e5⟩)
            ·rw[if_neg (by simp only[beq_iff_eq];exact e5)]
             split
             ·exact wpS_pure (.inl ⟨_,_,_,_,_,_,rfl,⟨_,rfl⟩,m5,by lia,by lia,by lia,by lia,by lia⟩)
             ·exact wpS_pure ⟨_,_,_,_,_,_,rfl,⟨_,rfl⟩,m5,by lia,by lia,by lia,by lia,by lia⟩
          ·rw[if_neg hd]
           have m4:=m3
           have q4:κ.klt (kv κ (b[nb-1-1]'(by lia))) (kv κ (a[na1-1]'(by lia))):=(d3 (nb-1-1) (by lia) (by lia)).1 (by lia)
           refine wpS_bind (wpS_elemP (getElem?_pos a (na1-1) (by lia)) ?_)
           have m5:=m4.ta' sb (by lia) (by lia) (by lia) (by lia) (KeyOrd.kle_of_klt q4)
           by_cases e5:na1-1=0
           ·rw[if_pos (by simp[e5])]
            exact wpS_pure (.inr ⟨_,_,rfl,⟨_,rfl⟩,m5.done e5⟩)
           ·rw[if_neg (by simp only[beq_iff_eq];exact e5)]
            split
            ·exact wpS_pure (.inl ⟨_,_,_,_,_,_,rfl,⟨_,rfl⟩,m5,by lia,by lia,by lia,by lia,by lia⟩)
            ·exact wpS_pure ⟨_,_,_,_,_,_,rfl,⟨_,rfl⟩,m5,by lia,by lia,by lia,by lia,by lia⟩
       ·rw[if_neg hmg]
        have hk:=hk mg
        refine wpS_bind (wpS_modify ?_)
        refine wpS_bind (wpS_elemP (getElem?_pos b (nb-1) (by lia)) ?_)
        obtain⟨c,c1,c2,c0⟩:=gal_false ka sa (kv κ (b[nb-1]'(by lia))) (base:=0) (n:=na) (by lia)
        have c3:∀i,(hi:i<a.size)->i<na->(i<c->κ.kle (kv κ a[i]) (kv κ (b[nb-1]'(by lia))))/\(c<=i->κ.klt (kv κ (b[nb-1]'(by lia))) (kv κ a[i])):=λi hi hn=>by
         have:=c0 i (by lia) hn
         simp only[Nat.zero_add] at this
         exact this
        refine wpS_bind (wpS_gallop hO hk (kv_at kb (by lia)) c2 (by lia) c1 ?_)
        dsimp only
        by_cases hc:na-c>0
        ·rw[if_pos hc]
         have m2:=m1.as (k:=c) (by lia) (by lia) (λi j hi hj z1 z2 z3=>KeyOrd.kle_trans (asc_at sb (show j<=nb-1 by lia) (by lia)) (KeyOrd.kle_of_klt ((c3 i hi z2).2 z1)))
         by_cases e2:c=0
         ·rw[if_pos (by simp only[beq_iff_eq];exact e2)]
          exact wpS_pure (.inr ⟨_,_,rfl,⟨_,rfl⟩,m2.done e2⟩)
         ·rw[if_neg (by simp only[beq_iff_eq];exact e2)]
          have q2:κ.kle (kv κ (a[c-1]'(by lia))) (kv κ (b[nb-1]'(by lia))):=(c3 (c-1) (by lia) (by lia)).1 (by lia)
          obtain⟨na1,hna1⟩:∃na1,na1=c:=⟨_,rfl⟩
          simp only[<- hna1] at m2 q2 e2 ⊢
          refine wpS_bind (wpS_elemP (getElem?_pos b (nb-1) (by lia)) ?_)
          have m3:=m2.tb' sa (by lia) (by lia) (by lia) (by lia) q2
          by_cases e3:nb-1=1
          ·rw[if_pos (by simp only[beq_iff_eq];exact e3)]
           exact wpS_pure (.inr ⟨_,_,rfl,⟨_,rfl⟩,m3.first sa pa pb h1 e3⟩)
          ·rw[if_neg (by simp only[beq_iff_eq];exact e3)]
           refine wpS_bind (wpS_elemP (getElem?_pos a (na1-1) (by lia)) ?_)
           obtain⟨d,d1,d2,d0⟩:=gal_true kb sb (kv κ (a[na1-1]'(by lia))) (base:=0) (n:=nb-1) (by lia)
           have d3:∀i,(hi:i<b.size)->i<nb-1->(i<d->κ.klt (kv κ b[i]) (kv κ (a[na1-1]'(by lia))))/\(d<=i->κ.kle (kv κ (a[na1-1]'(by lia))) (kv κ b[i])):=λi hi hn=>by
            have:=d0 i (by lia) hn
            simp only[Nat.zero_add] at this
            exact this
           refine wpS_bind (wpS_gallop hO hk (kv_at ka (by lia)) d2 (by lia) d1 ?_)
           dsimp only
           have ld:0<d:=by
            rcases Nat.eq_zero_or_pos d with z|z
            ·have:=(d3 0 (by lia) (by lia)).2 (by lia)
             exact absurd (KeyOrd.klt_of_klt_of_kle h1 (asc_at sa (Nat.zero_le (na1-1)) (by lia))) (KeyOrd.not_klt_of_kle this)
            ·exact z
           by_cases hd:nb-1-d>0
           ·rw[if_pos hd]
            have m4:=m3.bs (k:=d) (by lia) (by lia) (λi j hi hj c1 c2 c3=>KeyOrd.kle_trans (asc_at sa (show j<=na1-1 by lia) (by lia)) ((d3 i hi (by lia)).2 c1))
            by_cases e4:d=1
            ·rw[if_pos (by simp only[beq_iff_eq];exact e4)]
             exact wpS_pure (.inr ⟨_,_,rfl,⟨_,rfl⟩,m4.first sa pa pb h1 e4⟩)
            ·rw[if_neg (by simp only[beq_iff_eq];exact e4),if_neg (by simp only[beq_iff_eq];lia)]
             have q4:κ.klt (kv κ (b[d-1]'(by lia))) (kv κ (a[na1-1]'(by lia))):=(d3 (d-1) (by lia) (by lia)).1 (by lia)
             refine wpS_bind (wpS_elemP (getElem?_pos a (na1-1) (by lia)) ?_)
             have m5:=m4.ta' sb (by lia) (by lia) (by lia) (by lia) (KeyOrd.kle_of_klt q4)
             by_cases e5:na1-1=0
             ·rw[if_pos (by simp[e5])]
              exact wpS_pure (.inr ⟨_,_,rfl,⟨_,rfl⟩,m5.done e5⟩)
             ·rw[if_neg (by simp only[beq_iff_eq];exact e5)]
              split
              ·exact wpS_pure (.inl ⟨_,_,_,_,_,_,rfl,⟨_,rfl⟩,m5,by lia,by lia,by lia,by lia,by lia⟩)
              ·exact wpS_pure ⟨_,_,_,_,_,_,rfl,⟨_,rfl⟩,m5,by lia,by lia,by lia,by lia,by lia⟩
           ·rw[if_neg hd]
            have m4:=m3
            have q4:κ.klt (kv κ (b[nb-1-1]'(by lia))) (kv κ (a[na1-1]'(by lia))):=(d3 (nb-1-1) (by lia) (by lia)).1 (by lia)
            refine wpS_bind (wpS_elemP (getElem?_pos a (na1-1) (by lia)) ?_)
            have m5:=m4.ta' sb (by lia) (by lia) (by lia) (by lia) (KeyOrd.kle_of_klt q4)
            by_cases e5:na1-1=0
            ·rw[if_pos (by simp[e5])]
             exact wpS_pure (.inr ⟨_,_,rfl,⟨_,rfl⟩,m5.done e5⟩)
            ·rw[if_neg (by simp only[beq_iff_eq];exact e5)]
             split
             ·exact wpS_pure (.inl ⟨_,_,_,_,_,_,rfl,⟨_,rfl⟩,m5,by lia,by lia,by lia,by lia,by lia⟩)
             ·exact wpS_pure ⟨_,_,_,_,_,_,rfl,⟨_,rfl⟩,m5,by lia,by lia,by lia,by lia,by lia⟩
        ·rw[if_neg hc]
         have m2:=m1
         have q2:κ.kle (kv κ (a[na-1]'(by lia))) (kv κ (b[nb-1]'(by lia))):=(c3 (na-1) (by lia) (by lia)).1 (by lia)
         obtain⟨na1,hna1⟩:∃na1,na1=na:=⟨_,rfl⟩
         simp only[<- hna1] at m2 q2 ⊢
         refine wpS_bind (wpS_elemP (getElem?_pos b (nb-1) (by lia)) ?_)
         have m3:=m2.tb' sa (by lia) (by lia) (by lia) (by lia) q2
         by_cases e3:nb-1=1
         ·rw[if_pos (by simp only[beq_iff_eq];exact e3)]
          exact wpS_pure (.inr ⟨_,_,rfl,⟨_,rfl⟩,m3.first sa pa pb h1 e3⟩)
         ·rw[if_neg (by simp only[beq_iff_eq];exact e3)]
          refine wpS_bind (wpS_elemP (getElem?_pos a (na1-1) (by lia)) ?_)
          obtain⟨d,d1,d2,d0⟩:=gal_true kb sb (kv κ (a[na1-1]'(by lia))) (base:=0) (n:=nb-1) (by lia)
          have d3:∀i,(hi:i<b.size)->i<nb-1->(i<d->κ.klt (kv κ b[i]) (kv κ (a[na1-1]'(by lia))))/\(d<=i->κ.kle (kv κ (a[na1-1]'(by lia))) (kv κ b[i])):=λi hi hn=>by
           have:=d0 i (by lia) hn
           simp only[Nat.zero_add] at this
           exact this
          refine wpS_bind (wpS_gallop hO hk (kv_at ka (by lia)) d2 (by lia) d1 ?_)
          dsimp only
          have ld:0<d:=by
           rcases Nat.eq_zero_or_pos d with z|z
           ·have:=(d3 0 (by lia) (by lia)).2 (by lia)
            exact absurd (KeyOrd.klt_of_klt_of_kle h1 (asc_at sa (Nat.zero_le (na1-1)) (by lia))) (KeyOrd.not_klt_of_kle this)
           ·exact z
          by_cases hd:nb-1-d>0
          ·rw[if_pos hd]
           have m4:=m3.bs (k:=d) (by lia) (by lia) (λi j hi hj c1 c2 c3=>KeyOrd.kle_trans (asc_at sa (show j<=na1-1 by lia) (by lia)) ((d3 i hi (by lia)).2 c1))
           by_cases e4:d=1
           ·rw[if_pos (by simp only[beq_iff_eq];exact e4)]
            exact wpS_pure (.inr ⟨_,_,rfl,⟨_,rfl⟩,m4.first sa pa pb h1 e4⟩)
           ·rw[if_neg (by simp only[beq_iff_eq];exact e4),if_neg (by simp only[beq_iff_eq];lia)]
            have q4:κ.klt (kv κ (b[d-1]'(by lia))) (kv κ (a[na1-1]'(by lia))):=(d3 (d-1) (by lia) (by lia)).1 (by lia)
            refine wpS_bind (wpS_elemP (getElem?_pos a (na1-1) (by lia)) ?_)
            have m5:=m4.ta' sb (by lia) (by lia) (by lia) (by lia) (KeyOrd.kle_of_klt q4)
            by_cases e5:na1-1=0
            ·rw[if_pos (by simp[e5])]
             exact wpS_pure (.inr ⟨_,_,rfl,⟨_,rfl⟩,m5.done e5⟩)
            ·rw[if_neg (by simp only[beq_iff_eq];exact e5)]
             split
             ·exact wpS_pure (.inl ⟨_,_,_,_,_,_,rfl,⟨_,rfl⟩,m5,by lia,by lia,by lia,by lia,by lia⟩)
             ·exact wpS_pure ⟨_,_,_,_,_,_,rfl,⟨_,rfl⟩,m5,by lia,by lia,by lia,by lia,by lia⟩
          ·rw[if_neg hd]
           have m4:=m3
           have q4:κ.klt (kv κ (b[nb-1-1]'(by lia))) (kv κ (a[na1-1]'(by lia))):=(d3 (nb-1-1) (by lia) (by lia)).1 (by lia)
           refine wpS_bind (wpS_elemP (getElem?_pos a (na1-1) (by lia)) ?_)
           have m5:=m4.ta' sb (by lia) (by lia) (by lia) (by lia) (KeyOrd.kle_of_klt q4)
           by_cases e5:na1-1=0
           ·rw[if_pos (by simp[e5])]
            exact wpS_pure (.inr ⟨_,_,rfl,⟨_,rfl⟩,m5.done e5⟩)
           ·rw[if_neg (by simp only[beq_iff_eq];exact e5)]
            split
            ·exact wpS_pure (.inl ⟨_,_,_,_,_,_,rfl,⟨_,rfl⟩,m5,by lia,by lia,by lia,by lia,by lia⟩)
            ·exact wpS_pure ⟨_,_,_,_,_,_,rfl,⟨_,rfl⟩,m5,by lia,by lia,by lia,by lia,by lia⟩
     ·exact wpS_pure ⟨r,_,rfl,hg,hr⟩
end
end PyProof.Rows
namespace PyProof.Rows
open PySem
theorem KK_kv {κ:KeyKind}{a:Array Keyed}{i:Nat}(h:i<a.size):KK κ a i=kv κ a[i]:=by unfold KK kv;rw[getElem?_pos a _ h]
theorem galR_false {κ:KeyKind}{a:Array Keyed}(ka:KeysOf κ a){base n:Nat}(sa:SrtK κ a base (base+n)) (k:κ.α) (hn:base+n<=a.size) :
  ∃c,c<=n/\(∀i,i<n->∃x y,a[base+i]?=some x/\κ.keyOf x.1=some y/\asks false k y=decide (i<c))/\∀i,i<n->(i<c->κ.kle (KK κ a (base+i)) k)/\(c<=i->κ.klt k (KK κ a (base+i))):=by
 obtain⟨c,c1,c2⟩:=cut_at (p:=λi=>!κ.blt k (KK κ a (base+i))) n (λi j hij hj e=>by
  simp only[Bool.not_eq_true'] at e ⊢
  exact KeyOrd.kle_trans (sa (base+i) (base+j) (by lia) (by lia) (by lia)) e)
 refine⟨c,c1,λi hi=>⟨_,_,getElem?_pos a _ (by lia),kv_at ka (by lia),?_⟩,λi hi=>⟨λhc=>?_,λhc=>?_⟩⟩
 ·rw[<- c2 i hi,KK_kv (by lia)];rfl
 ·have e:=c2 i hi
  rw[decide_eq_true hc] at e
  exact (Bool.not_eq_true' _).mp e
 ·have e:=c2 i hi
  rw[decide_eq_false (by lia)] at e
  exact (Bool.not_eq_false' _).mp e
theorem galR_true {κ:KeyKind}{a:Array Keyed}(ka:KeysOf κ a){base n:Nat}(sa:SrtK κ a base (base+n)) (k:κ.α) (hn:base+n<=a.size) :
  ∃c,c<=n/\(∀i,i<n->∃x y,a[base+i]?=some x/\κ.keyOf x.1=some y/\asks true k y=decide (i<c))/\∀i,i<n->(i<c->κ.klt (KK κ a (base+i)) k)/\(c<=i->κ.kle k (KK κ a (base+i))):=by
 obtain⟨c,c1,c2⟩:=cut_at (p:=λi=>κ.blt (KK κ a (base+i)) k) n (λi j hij hj e=>KeyOrd.klt_of_kle_of_klt (sa (base+i) (base+j) (by lia) (by lia) (by lia)) e)
 refine⟨c,c1,λi hi=>⟨_,_,getElem?_pos a _ (by lia),kv_at ka (by lia),?_⟩,λi hi=>⟨λhc=>?_,λhc=>?_⟩⟩
 ·rw[<- c2 i hi,KK_kv (by lia)];rfl
 ·have e:=c2 i hi
  rw[decide_eq_true hc] at e
  exact e
 ·have e:=c2 i hi
  rw[decide_eq_false (by lia)] at e
  exact e
def putBack (xs:Array Keyed) (lo:Nat) (l:List (Keyed×Nat)):Array Keyed:=l.foldl (λa x=>a.setIfInBounds (lo+x.2) x.1) xs
theorem putBack_get (lo k:Nat):∀(l:List Keyed) (o:Nat) (xs:Array Keyed),lo+o+l.length<=xs.size->(putBack xs lo (l.zipIdx o)).size=xs.size/\(putBack xs lo (l.zipIdx o))[k]?=if lo+o<=k/\k<lo+o+l.length then l[k-(lo+o)]? else xs[k]?
 |[],o,xs,_=>⟨rfl,by rw[if_neg (by simp)];rfl⟩
 |p::l,o,xs,h=>by
  have h':lo+(o+1)+l.length<=(xs.setIfInBounds (lo+o) p).size:=by simp at h ⊢;lia
  obtain⟨i1,i2⟩:=putBack_get lo k l (o+1) (xs.setIfInBounds (lo+o) p) h'
  have e:putBack xs lo ((p::l).zipIdx o)=putBack (xs.setIfInBounds (lo+o) p) lo (l.zipIdx (o+1)):=rfl
  rw[e]
  refine⟨by rw[i1];simp,?_⟩
  rw[i2]
  simp only[List.length_cons] at h ⊢
  by_cases c1:k=lo+o
  ·subst c1
   rw[if_neg (by lia),if_pos (by lia),Nat.sub_self]
   rw[Array.getElem?_setIfInBounds]
   simp
   lia
  ·by_cases c2:lo+o<=k/\k<lo+o+(l.length+1)
   ·rw[if_pos (by lia),if_pos c2]
    rw[show k-(lo+o)=(k-(lo+(o+1)))+1 by lia]
    simp
   ·rw[if_neg (by lia),if_neg c2,Array.getElem?_setIfInBounds,if_neg (by lia)]
theorem putBack_list {xs m:Array Keyed}{lo:Nat}(h:lo+m.size<=xs.size):(putBack xs lo m.toList.zipIdx).toList=xs.toList.take lo++(m.toList++xs.toList.drop (lo+m.size)):=by
 apply List.ext_getElem?
 intro k
 have g:=(putBack_get lo k m.toList 0 xs (by simpa using h)).2
 rw[Array.getElem?_toList,g]
 simp only[Nat.add_zero,Array.length_toList]
 by_cases c1:k<lo
 ·rw[if_neg (by lia),List.getElem?_append_left (by simp;lia),List.getElem?_take_of_lt c1];simp
 ·have el:(xs.toList.take lo).length=lo:=by simp;lia
  rw[List.getElem?_append_right (by lia),el]
  by_cases c2:k<lo+m.size
  ·rw[if_pos (by lia),List.getElem?_append_left (by simp;lia)]
  ·rw[if_neg (by lia),List.getElem?_append_right (by simp;lia),List.getElem?_drop]
   simp only[Array.length_toList]
   rw[show lo+m.size+(k-lo-m.size)=k by lia];simp
theorem ext_list {a:Array Keyed}{i j:Nat}:(a.extract i j).toList=(a.toList.drop i).take (j-i):=by
 rw[Array.toList_extract,List.extract_eq_drop_take]
theorem asc_ext {κ:KeyKind}{a:Array Keyed}{lo hi:Nat}(h:SrtK κ a lo hi) (hs:hi<=a.size):Asc κ (a.extract lo hi).toList:=by
 refine List.pairwise_iff_getElem.mpr λi j hi' hj hij=>?_
 simp at hi' hj
 have:=h (lo+i) (lo+j) (by lia) (by lia) (by lia)
 rw[KK_kv (by lia),KK_kv (by lia)] at this
 simpa using this
theorem keys_ext {κ:KeyKind}{a:Array Keyed}(h:KeysOf κ a) (lo hi:Nat):KeysOf κ (a.extract lo hi):=λp hp=>by
 rw[ext_list] at hp
 exact h p (List.mem_of_mem_drop (List.mem_of_mem_take hp))
section
variable {prog:Program}{w:World}{A:Around}{E:Value->Shared->Prop}{s:Shared}{κ:KeyKind}
theorem wpS_set {Q:PUnit->SortSt->Prop}{st st':SortSt}(h:Q ⟨⟩ st'):wpS (model prog w) A E s (set st':StateT SortSt Sem PUnit) Q st:=by
 unfold wpS;rw[StateT.run_set];exact wpAny_pure ⟨rfl,h⟩
structure Mrg (κ:KeyKind) (st st':SortSt) (i sa na pw nb:Nat):Prop where
 perm:(arrOf st').Perm (arrOf st)
 kind:kindOf st'=kindOf st
 fail:failedOf st'=failedOf st
 out:∀k:Nat,k<sa\/sa+na+nb<=k->(arrOf st')[k]?=(arrOf st)[k]?
 srt:SrtK κ (arrOf st') sa (sa+na+nb)
 pend:pendingOf st'=((pendingOf st).setIfInBounds i (sa,na+nb,pw)).eraseIdxIfInBounds (i+1)
theorem merged_ok {a m:Array Keyed}{sa na nb k d:Nat}(s1:SrtK κ a sa (sa+na)) (s2:SrtK κ a (sa+na) (sa+na+nb)) (hsz:sa+na+nb<=a.size) (hk:k<na) (hd:d<=nb) (pnb:0<nb)
  (g1:∀i,i<na->i<k->κ.kle (KK κ a (sa+i)) (KK κ a (sa+na))) (g2:∀i,i<nb->d<=i->κ.kle (KK κ a (sa+na-1)) (KK κ a (sa+na+i)))
  (r:Rd κ (a.extract (sa+k) (sa+na)) (a.extract (sa+na) (sa+na+d)) m) :
  (putBack a (sa+k) m.toList.zipIdx).Perm a/\(∀j:Nat,j<sa\/sa+na+nb<=j->(putBack a (sa+k) m.toList.zipIdx)[j]?=a[j]?)/\SrtK κ (putBack a (sa+k) m.toList.zipIdx) sa (sa+na+nb):=by
 have hm:m.size=na-k+d:=by
  have:=r.1.length_eq
  simp at this
  lia
 have cat:(a.extract (sa+k) (sa+na)).toList++(a.extract (sa+na) (sa+na+d)).toList=(a.toList.drop (sa+k)).take (na-k+d):=by
  rw[ext_list,ext_list,show sa+na-(sa+k)=na-k by lia,show sa+na+d-(sa+na)=d by lia,List.take_add,List.drop_drop,show sa+k+(na-k)=sa+na by lia]
 have get:=λj=>(putBack_get (sa+k) j m.toList 0 a (by simp;lia)).2
 simp only[Nat.add_zero,Array.length_toList] at get
 have p:(putBack a (sa+k) m.toList.zipIdx).Perm a:=by
  refine Array.perm_iff_toList_perm.mpr ?_
  rw[putBack_list (by lia)]
  have e:a.toList=a.toList.take (sa+k)++((a.toList.drop (sa+k)).take (na-k+d)++a.toList.drop (sa+k+m.size)):=by
   rw[hm,<- List.drop_drop (i:=na-k+d) (j:=sa+k),List.take_append_drop,List.take_append_drop]
  conv=>rhs;rw[e]
  refine List.Perm.append_left _ (List.Perm.append_right _ ?_)
  rw[<- cat];exact r.1
 refine⟨p,λj hj=>?_,?_⟩
 ·rw[get j,if_neg (by lia)]
 ·have low:∀j,j<sa+k\/sa+na+d<=j->KK κ (putBack a (sa+k) m.toList.zipIdx) j=KK κ a j:=λj hj=>KK_congr (by rw[get j,if_neg (by lia)])
  have mid:∀j,sa+k<=j->(hj:j<sa+na+d)->KK κ (putBack a (sa+k) m.toList.zipIdx) j=kv κ (m[j-(sa+k)]'(by lia)):=λj h1 h2=>by
   unfold KK kv
   rw[get j,if_pos (by lia),Array.getElem?_toList,getElem?_pos m _ (by lia)]
  have src:∀j,sa+k<=j->j<sa+na+d->∃i,sa+k<=i/\i<sa+na+d/\KK κ (putBack a (sa+k) m.toList.zipIdx) j=KK κ a i:=λj h1 h2=>by
   rw[mid j h1 h2]
   have me:m[j-(sa+k)]'(by lia)∈(a.toList.drop (sa+k)).take (na-k+d):=by
    rw[<- cat];exact r.1.mem_iff.mp (by simp)
   obtain⟨i,hi,e⟩:=List.getElem_of_mem me
   simp at hi
   refine⟨sa+k+i,by lia,by lia,?_⟩
   rw[KK_kv (by lia),<- e]
   simp
  have last:∀i,sa<=i->i<sa+na->κ.kle (KK κ a i) (KK κ a (sa+na-1)):=λi h1 h2=>s1 i (sa+na-1) h1 (by lia) (by lia)
  intro i j h1 h2 h3
  by_cases ci:i<sa+k
  ·rw[low i (.inl ci)]
   have gi:κ.kle (KK κ a i) (KK κ a (sa+na)):=by
    have:=g1 (i-sa) (by lia) (by lia)
    rwa [show sa+(i-sa)=i by lia] at this
   by_cases cj:j<sa+k\/sa+na+d<=j
   ·rw[low j cj]
    by_cases c:j<sa+na
    ·exact s1 i j h1 h2 c
    ·exact KeyOrd.kle_trans gi (s2 (sa+na) j (Nat.le_refl _) (by lia) (by lia))
   ·obtain⟨q,q1,q2,q3⟩:=src j (by lia) (by lia)
    rw[q3]
    by_cases c:q<sa+na
    ·exact s1 i q h1 (by lia) c
    ·exact KeyOrd.kle_trans gi (s2 (sa+na) q (Nat.le_refl _) (by lia) (by lia))
  ·by_cases ci2:i<sa+na+d
   ·by_cases cj:j<sa+na+d
    ·rw[mid i (by lia) ci2,mid j (by lia) cj]
     exact asc_at r.2 (by lia) (by lia)
    ·obtain⟨q,q1,q2,q3⟩:=src i (by lia) ci2
     rw[q3,low j (.inr (by lia))]
     by_cases c:q<sa+na
     ·have:=g2 (j-(sa+na)) (by lia) (by lia)
      rw[show sa+na+(j-(sa+na))=j by lia] at this
      exact KeyOrd.kle_trans (last q (by lia) c) this
     ·exact s2 q j (by lia) (by lia) (by lia)
   ·rw[low i (.inr (by lia)),low j (.inr (by lia))]
    exact s2 i j (by lia) h2 h3
theorem wpS_mergeAt {kd:SortKind}(hO:KLt prog w A s κ kd){st:SortSt}{i sa na pw nb pw2:Nat}{Q:Bool->SortSt->Prop}(hk:kindOf st=kd) (h0:KeysOf κ (arrOf st)) (hf:failedOf st=none)
  (p1:(pendingOf st)[i]?=some (sa,na,pw)) (p2:(pendingOf st)[i+1]?=some (sa+na,nb,pw2)) (pna:0<na) (pnb:0<nb) (hsz:sa+na+nb<=(arrOf st).size)
  (s1:SrtK κ (arrOf st) sa (sa+na)) (s2:SrtK κ (arrOf st) (sa+na) (sa+na+nb)) (h:∀st',Mrg κ st st' i sa na pw nb->Q true st'):wpS (model prog w) A E s (mergeAt' i) Q st:=by
 refine wpS_bind (wpS_get ?_)
 dsimp only
 rw[p1,p2]
 refine wpS_bind (wpS_set ?_)
 refine wpS_bind (wpS_elemP (getElem?_pos (arrOf st) (sa+na) (by lia)) ?_)
 obtain⟨k,k1,k2,k3⟩:=galR_false h0 s1 (KK κ (arrOf st) (sa+na)) (by lia)
 refine wpS_bind (wpS_gallop (st:=SortSt.mk' (kindOf st) (arrOf st) (((pendingOf st).setIfInBounds i (sa,na+nb,pw)).eraseIdxIfInBounds (i+1)) (gallopOf st) (failedOf st)) hO hk (kv_at h0 (by lia)) (by rw[KK_kv (by lia)] at k2;exact k2) pna k1 ?_)
 dsimp only
 by_cases c1:na-k=0
 ·rw[if_pos (by simp only[beq_iff_eq];exact c1)]
  refine wpS_pure (h _ ⟨.refl _,rfl,rfl,λ_ _=>rfl,λx y d1 d2 d3=>?_,rfl⟩)
  show κ.kle (KK κ (arrOf st) x) (KK κ (arrOf st) y)
  by_cases cx:x<sa+na
  ·by_cases cy:y<sa+na
   ·exact s1 x y d1 d2 cy
   ·have:=(k3 (x-sa) (by lia)).1 (by lia)
    rw[show sa+(x-sa)=x by lia] at this
    exact KeyOrd.kle_trans this (s2 (sa+na) y (Nat.le_refl _) (by lia) d3)
  ·exact s2 x y (by lia) d2 d3
 ·rw[if_neg (by simp only[beq_iff_eq];exact c1)]
  rw[show sa+k+(na-k)-1=sa+na-1 by lia]
  refine wpS_bind (wpS_elemP (getElem?_pos (arrOf st) (sa+na-1) (by lia)) ?_)
  obtain⟨d,d1,d2,d3⟩:=galR_true h0 s2 (KK κ (arrOf st) (sa+na-1)) (by lia)
  refine wpS_bind (wpS_gallop (st:=SortSt.mk' (kindOf st) (arrOf st) (((pendingOf st).setIfInBounds i (sa,na+nb,pw)).eraseIdxIfInBounds (i+1)) (gallopOf st) (failedOf st)) hO hk (kv_at h0 (by lia)) (by rw[KK_kv (by lia)] at d2;exact d2) (by lia) d1 ?_)
  dsimp only
  have lk:κ.klt (KK κ (arrOf st) (sa+na)) (KK κ (arrOf st) (sa+k)):=(k3 k (by lia)).2 (Nat.le_refl _)
  have ld:d≠0:=λz=>by
   have:=(d3 0 pnb).2 (by lia)
   exact absurd (KeyOrd.klt_of_klt_of_kle lk (s1 (sa+k) (sa+na-1) (by lia) (by lia) (by lia))) (KeyOrd.not_klt_of_kle this)
  rw[if_neg (by simp only[beq_iff_eq];exact ld)]
  have sx:((arrOf st).extract (sa+k) (sa+na)).size=na-k:=by simp;lia
  have sy:((arrOf st).extract (sa+na) (sa+na+d)).size=d:=by simp;lia
  have px:0<((arrOf st).extract (sa+k) (sa+na)).size:=by lia
  have py:0<((arrOf st).extract (sa+na) (sa+na+d)).size:=by lia
  have gx:∀j,(hj:j<((arrOf st).extract (sa+k) (sa+na)).size)->kv κ ((arrOf st).extract (sa+k) (sa+na))[j]=KK κ (arrOf st) (sa+k+j):=λj hj=>by rw[KK_kv (by lia)];simp
  have gy:∀j,(hj:j<((arrOf st).extract (sa+na) (sa+na+d)).size)->kv κ ((arrOf st).extract (sa+na) (sa+na+d))[j]=KK κ (arrOf st) (sa+na+j):=λj hj=>by rw[KK_kv (by lia)];simp
  have q1:κ.klt (kv κ (((arrOf st).extract (sa+na) (sa+na+d))[0]'(by lia))) (kv κ (((arrOf st).extract (sa+k) (sa+na))[0]'(by lia))):=by
   rw[gx,gy];exact lk
  have q2:∀j,(hj:j<((arrOf st).extract (sa+na) (sa+na+d)).size)->κ.klt (kv κ ((arrOf st).extract (sa+na) (sa+na+d))[j]) (kv κ (((arrOf st).extract (sa+k) (sa+na))[((arrOf st).extract (sa+k) (sa+na)).size-1]'(by lia))):=λj hj=>by
   rw[gx,gy,show sa+k+(((arrOf st).extract (sa+k) (sa+na)).size-1)=sa+na-1 by lia]
   exact (d3 j (by lia)).1 (by lia)
  have fin:∀out g,Rd κ ((arrOf st).extract (sa+k) (sa+na)) ((arrOf st).extract (sa+na) (sa+na+d)) out->Q true (SortSt.mk' (kindOf st) (putBack (arrOf st) (sa+k) out.toList.zipIdx) (((pendingOf st).setIfInBounds i (sa,na+nb,pw)).eraseIdxIfInBounds (i+1)) g (failedOf st)):=λout g r=>by
   obtain⟨r1,r2,r3⟩:=merged_ok s1 s2 hsz (by lia) d1 pnb (λj j1 j2=>(k3 j j1).1 j2) (λj j1 j2=>(d3 j j1).2 j2) r
   exact h _ ⟨r1,rfl,rfl,r2,r3,rfl⟩
  have fn:∀out g,Rd κ ((arrOf st).extract (sa+k) (sa+na)) ((arrOf st).extract (sa+na) (sa+na+d)) out->Q (failedOf st).isNone (SortSt.mk' (kindOf st) (putBack (arrOf st) (sa+k) out.toList.zipIdx) (((pendingOf st).setIfInBounds i (sa,na+nb,pw)).eraseIdxIfInBounds (i+1)) g (failedOf st)):=λout g r=>by
   have e:(failedOf st).isNone=true:=by rw[hf];rfl
   rw[e];exact fin out g r
  have ax:Asc κ ((arrOf st).extract (sa+k) (sa+na)).toList:=asc_ext (λx y e1 e2 e3=>s1 x y (by lia) e2 e3) (by lia)
  have ay:Asc κ ((arrOf st).extract (sa+na) (sa+na+d)).toList:=asc_ext (λx y e1 e2 e3=>s2 x y e1 e2 (by lia)) (by lia)
  by_cases hle:na-k<=d
  ·rw[if_pos hle]
   refine wpS_bind (wpS_mergeLo (st:=SortSt.mk' (kindOf st) (arrOf st) (((pendingOf st).setIfInBounds i (sa,na+nb,pw)).eraseIdxIfInBounds (i+1)) (gallopOf st) (failedOf st)) hO hk (keys_ext h0 _ _) (keys_ext h0 _ _) ax ay px py q1 q2 λout g r=>?_)
   exact wpS_bind (wpS_modify (wpS_bind (wpS_get (wpS_pure (fn out g r)))))
  ·rw[if_neg hle]
   refine wpS_bind (wpS_mergeHi (st:=SortSt.mk' (kindOf st) (arrOf st) (((pendingOf st).setIfInBounds i (sa,na+nb,pw)).eraseIdxIfInBounds (i+1)) (gallopOf st) (failedOf st)) hO hk (keys_ext h0 _ _) (keys_ext h0 _ _) ax ay px py q1 q2 λout g r=>?_)
   exact wpS_bind (wpS_modify (wpS_bind (wpS_get (wpS_pure (fn out g r)))))
end
end PyProof.Rows
namespace PyProof.Rows
open PySem
def Runs (κ:KeyKind) (a:Array Keyed):List (Nat×Nat×Nat)->Nat->Nat->Prop
 |[],lo,hi=>lo=hi
 |r::rs,lo,hi=>r.1=lo/\0<r.2.1/\SrtK κ a lo (lo+r.2.1)/\Runs κ a rs (lo+r.2.1) hi
section
variable {κ:KeyKind}{a a':Array Keyed}
theorem Runs.app:∀{p q:List (Nat×Nat×Nat)}{lo hi:Nat},Runs κ a (p++q) lo hi<->∃m,Runs κ a p lo m/\Runs κ a q m hi
 |[],q,lo,hi=>⟨λh=>⟨lo,rfl,h⟩,λ⟨m,e,h⟩=>by cases e;exact h⟩
 |r::p,q,lo,hi=>⟨λ⟨h1,h2,h3,h4⟩=>by
   obtain⟨m,m1,m2⟩:=Runs.app.mp h4
   exact⟨m,⟨h1,h2,h3,m1⟩,m2⟩,λ⟨m,⟨h1,h2,h3,m1⟩,m2⟩=>⟨h1,h2,h3,Runs.app.mpr ⟨m,m1,m2⟩⟩⟩
theorem Runs.le:∀{p:List (Nat×Nat×Nat)}{lo hi:Nat},Runs κ a p lo hi->lo+p.length<=hi
 |[],lo,hi,h=>by cases h;simp
 |r::p,lo,hi,⟨h1,h2,h3,h4⟩=>by
  have:=h4.le
  simp only[List.length_cons];lia
theorem SrtK.congr {lo hi:Nat}(h:SrtK κ a lo hi) (e:∀k:Nat,lo<=k->k<hi->a'[k]?=a[k]?):SrtK κ a' lo hi:=λi j h1 h2 h3=>by
 rw[KK_congr (e i h1 (by lia)),KK_congr (e j (by lia) h3)];exact h i j h1 h2 h3
theorem Runs.congr:∀{p:List (Nat×Nat×Nat)}{lo hi:Nat},Runs κ a p lo hi->(∀k:Nat,lo<=k->k<hi->a'[k]?=a[k]?)->Runs κ a' p lo hi
 |[],lo,hi,h,_=>h
 |r::p,lo,hi,⟨h1,h2,h3,h4⟩,e=>⟨h1,h2,h3.congr (λk k1 k2=>e k k1 (by have:=h4.le;lia)),h4.congr (λk k1 k2=>e k (by lia) k2)⟩
theorem Runs.mod {f:Nat×Nat×Nat->Nat×Nat×Nat}(hf:∀x,(f x).1=x.1/\(f x).2.1=x.2.1):∀{p:List (Nat×Nat×Nat)}{i lo hi:Nat},Runs κ a p lo hi->Runs κ a (p.modify i f) lo hi
 |[],i,lo,hi,h=>by cases i<;>exact h
 |r::p,0,lo,hi,⟨h1,h2,h3,h4⟩=>by
  show Runs κ a (f r::p) lo hi
  refine⟨by rw[(hf r).1];exact h1,by rw[(hf r).2];exact h2,by rw[(hf r).2];exact h3,by rw[(hf r).2];exact h4⟩
 |r::p,i+1,lo,hi,⟨h1,h2,h3,h4⟩=>⟨h1,h2,h3,h4.mod hf⟩
theorem Runs.one {lo n w:Nat}(h:0<n) (hs:SrtK κ a lo (lo+n)):Runs κ a [(lo,n,w)] lo (lo+n):=⟨rfl,h,hs,rfl⟩
end
theorem two_at {α:Type}{l:List α}{i:Nat}(h:i+1<l.length):∃pre x y post,l=pre++x::y::post/\pre.length=i:=by
 refine⟨l.take i,l[i],l[i+1],l.drop (i+2),?_,by simp;lia⟩
 rw[<- List.drop_eq_getElem_cons,<- List.drop_eq_getElem_cons,List.take_append_drop]
theorem fused {p:Array (Nat×Nat×Nat)}{pre post:List (Nat×Nat×Nat)}{x y v:Nat×Nat×Nat}{i:Nat}(h:p.toList=pre++x::y::post) (hi:pre.length=i):((p.setIfInBounds i v).eraseIdxIfInBounds (i+1)).toList=pre++v::post:=by
 have hl:p.size=i+(post.length+2):=by
  have:=congrArg List.length h
  simp at this;lia
 rw[Array.eraseIdxIfInBounds,dif_pos (by simp;lia),Array.toList_eraseIdx,Array.toList_setIfInBounds,h]
 subst hi
 have e1:(pre++x::y::post).set pre.length v=pre++v::y::post:=by
  rw[List.set_append_right _ _ (Nat.le_refl _)];simp
 rw[e1,List.eraseIdx_append_of_length_le (by lia)]
 simp
structure Stands (κ:KeyKind) (kd:SortKind) (a₀:Array Keyed) (st:SortSt) (lo:Nat):Prop where
 perm:(arrOf st).Perm a₀
 kind:kindOf st=kd
 fail:failedOf st=none
 runs:Runs κ (arrOf st) (pendingOf st).toList 0 lo
section
variable {prog:Program}{w:World}{A:Around}{E:Value->Shared->Prop}{s:Shared}{κ:KeyKind}
theorem Stands.merge {kd:SortKind}{a₀:Array Keyed}(hO:KLt prog w A s κ kd) (h0:KeysOf κ a₀){st:SortSt}{lo i:Nat}{Q:Bool->SortSt->Prop}(d:Stands κ kd a₀ st lo) (hlo:lo<=a₀.size) (hi:i+1<(pendingOf st).size)
  (h:∀st',Stands κ kd a₀ st' lo->(pendingOf st').size+1=(pendingOf st).size->(∀k:Nat,lo<=k->(arrOf st')[k]?=(arrOf st)[k]?)->Q true st'):wpS (model prog w) A E s (mergeAt' i) Q st:=by
 obtain⟨pre,⟨s1,n1,w1⟩,⟨s2,n2,w2⟩,post,e,hp⟩:=two_at (l:=(pendingOf st).toList) (by simpa using hi)
 have r:=d.runs
 rw[e] at r
 obtain⟨m,r1,r2,r3,r4,r5,r6,r7,r8⟩:=Runs.app.mp r
 simp only at r2 r3 r4 r5 r6 r7 r8
 subst r2 r5
 have l8:=r8.le
 have l1:=r1.le
 have sz:(arrOf st).size=a₀.size:=d.perm.size_eq
 have p1:(pendingOf st)[i]?=some (s1,n1,w1):=by
  rw[<- Array.getElem?_toList,e,List.getElem?_append_right (by lia),hp,Nat.sub_self];rfl
 have p2:(pendingOf st)[i+1]?=some (s1+n1,n2,w2):=by
  rw[<- Array.getElem?_toList,e,List.getElem?_append_right (by lia),hp,Nat.add_sub_cancel_left];rfl
 refine wpS_mergeAt hO d.kind (keys_perm h0 d.perm) d.fail p1 p2 r3 r6 (by lia) r4 r7 λst' g=>h st' ⟨g.perm.trans d.perm,g.kind.trans d.kind,g.fail.trans d.fail,?_⟩ ?_ λk hk=>g.out k (.inr (by lia))
 ·rw[g.pend,fused e hp]
  refine Runs.app.mpr ⟨s1,r1.congr λk _ k2=>g.out k (.inl k2),rfl,by show 0<n1+n2;lia,?_,?_⟩
  ·have:=g.srt
   rwa [Nat.add_assoc] at this
  ·have:=r8.congr (a':=arrOf st') λk k1 _=>g.out k (.inr k1)
   rwa [Nat.add_assoc] at this
 ·have:=congrArg List.length (fused (v:=(s1,n1+n2,w1)) e hp)
  rw[<- g.pend] at this
  have e2:=congrArg List.length e
  simp at this e2
  lia
theorem wpS_sortRunsG {kd:SortKind}{a₀:Array Keyed}(hO:KLt prog w A s κ kd) (h0:KeysOf κ a₀){st:SortSt}{Q:Unit->SortSt->Prop}(d:Stands κ kd a₀ st 0)
  (h:∀st',(arrOf st').Perm a₀->failedOf st'=none->SortedToK κ (arrOf st') a₀.size->Q () st'):wpS (model prog w) A E s sortRuns' Q st:=by
 rw[sortRuns'_eq]
 refine wpS_bind (wpS_get ?_)
 dsimp only
 have sz:(arrOf st).size=a₀.size:=d.perm.size_eq
 simp only[sz]
 generalize minRun' a₀.size a₀.size 0=mr
 refine wpS_bind (wpS_mono (wpS_forRange (I:=λx c st'=>∃lo,c=(none,lo)/\Stands κ kd a₀ st' lo/\x<=lo/\lo<=a₀.size)
  (Q:=λc st'=>c=(none,a₀.size)/\Stands κ kd a₀ st' a₀.size) ?step ?fin ⟨0,rfl,d,Nat.le_refl _,Nat.zero_le _⟩) ?post)
 case fin=>
  rintro c st' ⟨lo,rfl,d,h1,h2⟩
  have:lo=a₀.size:=by lia
  subst this
  exact⟨rfl,d⟩
 case post=>
  rintro c st' ⟨rfl,d⟩
  dsimp only
  refine wpS_bind (wpS_mono (wpS_forRange (I:=λx c st'=>c=(none,())/\Stands κ kd a₀ st' a₀.size/\(pendingOf st').size+x<=a₀.size)
   (Q:=λc st'=>c=(none,())/\Stands κ kd a₀ st' a₀.size/\(pendingOf st').size<=1) ?step2 ?fin2 ⟨rfl,d,?init2⟩) ?post2)
  case init2=>
   have:=d.runs.le
   simp at this;lia
  case fin2=>
   rintro c st' ⟨rfl,d,h1⟩
   exact⟨rfl,d,by lia⟩
  case post2=>
   rintro c st' ⟨rfl,d,h1⟩
   refine wpS_pure (h st' d.perm d.fail λi j hij hj=>?_)
   have r:=d.runs
   cases e:(pendingOf st').toList with
   |nil=>
    rw[e] at r
    have r':0=a₀.size:=r
    lia
   |cons p ps=>
    rw[e] at r
    obtain⟨r1,r2,r3,r4⟩:=r
    have:ps=[]:=by
     have:=congrArg List.length e
     simp at this
     exact List.length_eq_zero_iff.mp (by lia)
    subst this
    have r4':0+p.2.1=a₀.size:=r4
    rw[r4'] at r3
    exact r3 i j (Nat.zero_le _) hij hj
  case step2=>
   rintro x c st' _ hx ⟨rfl,d,h1⟩
   refine wpS_bind (wpS_get ?_)
   by_cases c1:(pendingOf st').size<=1
   ·rw[if_pos c1]
    exact wpS_pure ⟨rfl,d,c1⟩
   ·rw[if_neg c1]
    refine wpS_bind (d.merge hO h0 (Nat.le_refl _) ?_ λst2 d2 e2 _=>?_)
    ·have key:∀c:Bool,(if c=true then (pendingOf st').size-2-1 else (pendingOf st').size-2)+1<(pendingOf st').size:=λc=>by cases c<;>simp<;>lia
     exact key _
    ·simp only[Bool.not_true,Bool.false_eq_true,if_false]
     exact wpS_pure ⟨rfl,d2,by lia⟩
 case step=>
  rintro x c st' _ hx ⟨lo,rfl,d,h1,h2⟩
  dsimp only
  by_cases c1:lo>=a₀.size
  ·rw[if_pos c1]
   have:lo=a₀.size:=by lia
   subst this
   exact wpS_pure ⟨rfl,d⟩
  ·rw[if_neg c1]
   have sz':(arrOf st').size=a₀.size:=d.perm.size_eq
   have rest:∀(n:Nat) (st2:SortSt),1<=n->lo+n<=a₀.size->Mv st' st2 lo a₀.size->SrtK κ (arrOf st2) lo (lo+n)->Stands κ kd a₀ st2 lo:=λn st2 n1 n2 m2 _=>
    ⟨m2.perm.trans d.perm,m2.kind.trans d.kind,m2.fail.trans d.fail,by rw[m2.pend];exact d.runs.congr λk _ k2=>m2.out k (.inl k2)⟩
   have push:∀(n:Nat) (st2:SortSt),1<=n->Stands κ kd a₀ st2 lo->SrtK κ (arrOf st2) lo (lo+n)->Stands κ kd a₀ (setPending st2 ((pendingOf st2).push (lo,n,0))) (lo+n):=λn st2 n1 d2 s2=>
    ⟨d2.perm,d2.kind,d2.fail,by
     show Runs κ (arrOf st2) ((pendingOf st2).push (lo,n,0)).toList 0 (lo+n)
     rw[Array.toList_push]
     exact Runs.app.mpr ⟨lo,d2.runs,Runs.one (by lia) s2⟩⟩
   refine wpS_bind (wpS_cntG hO d.kind (keys_perm h0 d.perm) (by lia) (by lia) λm st2 m1 m2 mv s2=>?_)
   have mv':Mv st' st2 lo a₀.size:=by rwa [show lo+(a₀.size-lo)=a₀.size by lia] at mv
   dsimp only
   by_cases c2:m<mr
   ·rw[if_pos c2]
    refine wpS_bind (wpS_lift (wpAny_rule ⟨rfl,?_⟩))
    have hmin:lo+min (a₀.size-lo) mr<=(arrOf st2).size:=by rw[mv.size];lia
    refine wpS_bind (wpS_binG hO (mv.kind.trans d.kind) (keys_perm h0 (mv.perm.trans d.perm)) hmin (by lia) s2 λst3 mv3 s3=>?_)
    simp only[Bool.not_true,Bool.false_eq_true,if_false]
    have mv3':Mv st' st3 lo a₀.size:=mv'.trans ⟨mv3.perm,mv3.kind,mv3.fail,mv3.pend,λk hk=>mv3.out k (by lia)⟩
    have d3:=rest _ st3 (show 1<=min (a₀.size-lo) mr by lia) (by lia) mv3' s3
    obtain⟨n,hn⟩:∃n,n=min (a₀.size-lo) mr:=⟨_,rfl⟩
    have n1:1<=n:=by lia
    have n2:lo+n<=a₀.size:=by lia
    simp only[<- hn] at s3 ⊢
    clear hn hmin mv3
    refine wpS_bind (wpS_get ?_)
    split
    ·refine wpS_bind (wpS_mono (wpS_forRange (I:=λx c st4=>c=(none,())/\Stands κ kd a₀ st4 lo/\SrtK κ (arrOf st4) lo (lo+n)) (Q:=λc st4=>c=(none,())/\Stands κ kd a₀ st4 lo/\SrtK κ (arrOf st4) lo (lo+n)) ?_ ?_ ⟨rfl,d3,s3⟩) ?_)
     ·rintro y c st4 _ _ ⟨rfl,d4,s4⟩
      refine wpS_bind (wpS_get ?_)
      split
      ·rename_i e5
       split
       ·exact wpS_pure ⟨rfl,d4,s4⟩
       ·have hsz2:(pendingOf st4).size>1:=by
         by_cases z:(pendingOf st4).size>1
         ·exact z
         ·rw[if_neg z] at e5;cases e5
        refine wpS_bind (d4.merge hO h0 h2 (by lia) λst5 d5 _ o5=>?_)
        simp only[Bool.not_true,Bool.false_eq_true,if_false]
        exact wpS_pure ⟨rfl,d5,s4.congr λk k1 _=>o5 k k1⟩
      ·exact wpS_pure ⟨rfl,d4,s4⟩
     ·rintro c st4 ⟨rfl,d4,s4⟩
      exact⟨rfl,d4,s4⟩
     ·rintro c st4 ⟨rfl,d4,s4⟩
      refine wpS_bind (wpS_modify (wpS_bind (wpS_modify (wpS_pure ⟨_,rfl,push _ _ n1 ⟨d4.perm,d4.kind,d4.fail,?_⟩ s4,by lia,n2⟩))))
      show Runs κ (arrOf st4) (Array.modify _ _ _).toList 0 lo
      rw[Array.toList_modify]
      refine Runs.mod ?_ d4.runs
      exact λ_=>⟨rfl,rfl⟩
    ·exact wpS_bind (wpS_modify (wpS_pure ⟨_,rfl,push _ _ n1 d3 s3,by lia,n2⟩))
   ·rw[if_neg c2]
    have s3:=s2
    have d3:=rest _ st2 m1 (by lia) mv' s2
    have n1:1<=m:=m1
    have n2:lo+m<=a₀.size:=by lia
    clear s2
    obtain⟨n,hn⟩:∃n,n=m:=⟨_,rfl⟩
    simp only[<- hn] at s3 n1 n2 ⊢
    refine wpS_bind (wpS_get ?_)
    split
    ·refine wpS_bind (wpS_mono (wpS_forRange (I:=λx c st4=>c=(none,())/\Stands κ kd a₀ st4 lo/\SrtK κ (arrOf st4) lo (lo+n)) (Q:=λc st4=>c=(none,())/\Stands κ kd a₀ st4 lo/\SrtK κ (arrOf st4) lo (lo+n)) ?_ ?_ ⟨rfl,d3,s3⟩) ?_)
     ·rintro y c st4 _ _ ⟨rfl,d4,s4⟩
      refine wpS_bind (wpS_get ?_)
      split
      ·rename_i e5
       split
       ·exact wpS_pure ⟨rfl,d4,s4⟩
       ·have hsz2:(pendingOf st4).size>1:=by
         by_cases z:(pendingOf st4).size>1
         ·exact z
         ·rw[if_neg z] at e5;cases e5
        refine wpS_bind (d4.merge hO h0 h2 (by lia) λst5 d5 _ o5=>?_)
        simp only[Bool.not_true,Bool.false_eq_true,if_false]
        exact wpS_pure ⟨rfl,d5,s4.congr λk k1 _=>o5 k k1⟩
      ·exact wpS_pure ⟨rfl,d4,s4⟩
     ·rintro c st4 ⟨rfl,d4,s4⟩
      exact⟨rfl,d4,s4⟩
     ·rintro c st4 ⟨rfl,d4,s4⟩
      refine wpS_bind (wpS_modify (wpS_bind (wpS_modify (wpS_pure ⟨_,rfl,push _ _ n1 ⟨d4.perm,d4.kind,d4.fail,?_⟩ s4,by lia,n2⟩))))
      show Runs κ (arrOf st4) (Array.modify _ _ _).toList 0 lo
      rw[Array.toList_modify]
      refine Runs.mod ?_ d4.runs
      exact λ_=>⟨rfl,rfl⟩
    ·exact wpS_bind (wpS_modify (wpS_pure ⟨_,rfl,push _ _ n1 d3 s3,by lia,n2⟩))
end
end PyProof.Rows
namespace PyProof.Rows
open PySem
inductive AtK:Bool->Value->List Int->Prop
 |int (i:Int) (t:Tok):AtK false (.int i t) [i]
 |str (x:Str) (t:Tok):AtK true (.str x t) (x.cps.toList.map Int.ofNat)
theorem AtK.uniq {k:Bool}{v:Value}{l m:List Int}(h:AtK k v l) (g:AtK k v m):l=m:=by
 cases h<;>cases g<;>rfl
inductive AtsK (pat:Nat->Bool):Nat->List Value->List (List Int)->Prop
 |nil {i:Nat}:AtsK pat i [] []
 |cons {i:Nat}{v:Value}{l:List Int}{vs:List Value}{ls:List (List Int)}(h:AtK (pat i) v l) (r:AtsK pat (i+1) vs ls):AtsK pat i (v::vs) (l::ls)
theorem AtsK.uniq {pat:Nat->Bool}:∀{i:Nat}{vs:List Value}{ls ms:List (List Int)},AtsK pat i vs ls->AtsK pat i vs ms->ls=ms
 |_,_,_,_,.nil,.nil=>rfl
 |_,_,_,_,.cons h r,.cons h' r'=>by rw[h.uniq h',r.uniq r']
def TupK (h:Heap) (pat:Nat->Bool) (v:Value) (l:List (List Int)):Prop:=∃a o xs n,v=.ref a/\h.get? a=some o/\o.cls=.type "tuple" /\ o.data=.seq xs n/\AtsK pat 0 xs.toList l
theorem TupK.uniq {h:Heap}{pat:Nat->Bool}{v:Value}{l m:List (List Int)}(x:TupK h pat v l) (y:TupK h pat v m):l=m:=by
 obtain⟨a,o,xs,n,rfl,e1,e2,e3,e4⟩:=x
 obtain⟨a',o',xs',n',e5,f1,f2,f3,f4⟩:=y
 cases e5
 rw[e1] at f1;cases f1
 rw[e3] at f3;cases f3
 exact e4.uniq f4
theorem TupK.keep {h h':Heap}{pat:Nat->Bool}{v:Value}{l:List (List Int)}(k:∀b o,h.get? b=some o->o.cls=.type "tuple" -> h'.get? b=some o) (x:TupK h pat v l):TupK h' pat v l:=by
 obtain⟨a,o,xs,n,rfl,e1,e2,e3,e4⟩:=x
 exact⟨a,o,xs,n,rfl,k _ _ e1 e2,e2,e3,e4⟩
open Classical in
noncomputable def tupKind (h:Heap) (pat:Nat->Bool):KeyKind where
 α:=List (List Int)
 blt a b:=decide (a<b)
 irrefl a:=by simpa using List.lt_irrefl a
 trans a b c h1 h2:=by simp only[decide_eq_true_eq] at *;exact List.lt_trans h1 h2
 negTrans a b c h:=by
  simp only[decide_eq_true_eq] at *
  by_cases hab:a<b
  ·exact .inl hab
  ·exact .inr (List.lt_of_le_of_lt (List.not_lt.mp hab) h)
 total a b h1 h2:=by simp only[decide_eq_false_iff_not] at *;exact List.le_antisymm (List.not_lt.mp h2) (List.not_lt.mp h1)
 keyOf v:=if e:∃l,TupK h pat v l then some e.choose else none
 dflt:=[]
open Classical in
theorem tup_key {h:Heap}{pat:Nat->Bool}{v:Value}{l:List (List Int)}(x:TupK h pat v l):(tupKind h pat).keyOf v=some l:=by
 have e:∃l,TupK h pat v l:=⟨l,x⟩
 show (if e:∃l,TupK h pat v l then some e.choose else none)=some l
 rw[dif_pos e,e.choose_spec.uniq x]
open Classical in
theorem key_tup {h:Heap}{pat:Nat->Bool}{v:Value}{l:List (List Int)}(x:(tupKind h pat).keyOf v=some l):TupK h pat v l:=by
 by_cases e:∃l,TupK h pat v l
 ·have:=tup_key e.choose_spec
  rw[this] at x
  cases x
  exact e.choose_spec
 ·have:(tupKind h pat).keyOf v=none:=by
   show (if e:∃l,TupK h pat v l then some e.choose else none)=none
   rw[dif_neg e]
  rw[this] at x;cases x
theorem map_lt:∀{l m:List Nat},l.map Int.ofNat<m.map Int.ofNat<->l<m
 |[],[]=>by simp
 |[],_::_=>by simp
 |_::_,[]=>by simp
 |x::l,y::m=>by
  rw[List.map_cons,List.map_cons,List.cons_lt_cons_iff,List.cons_lt_cons_iff,map_lt]
  simp only[Int.ofNat_eq_natCast,Int.ofNat_lt,Int.ofNat_inj]
theorem map_inj:∀{l m:List Nat},l.map Int.ofNat=m.map Int.ofNat->l=m
 |[],[],_=>rfl
 |[],_::_,h=>by simp at h
 |_::_,[],h=>by simp at h
 |x::l,y::m,h=>by
  rw[List.map_cons,List.map_cons] at h
  obtain⟨h1,h2⟩:=List.cons.inj h
  rw[Int.ofNat.inj h1,map_inj h2]
section
variable {prog:Program}{w:World}{A:Around}{E:Value->Shared->Prop}{s:Shared}{pat:Nat->Bool}
theorem eqB_at {k:Bool}{x y:Value}{a b:List Int}{Q:Bool->Shared->Prop}(hx:AtK k x a) (hy:AtK k y b) (h:Q (decide (a=b)) s):wpAny (model prog w) A (eqBool x y) Q E s:=by
 cases hx with
 |int i t=>
  cases hy with
  |int j u=>
   refine wpAny_eqBool_int ?_
   have e:decide ([i]=[j])=(i==j):=by simp;rfl
   rw[e] at h;exact h
 |str x t=>
  cases hy with
  |str y u=>
   refine PySem.wpAny_eqBool_str ?_
   have e:decide (x.cps.toList.map Int.ofNat=y.cps.toList.map Int.ofNat)=decide (x=y):=by
    rw[decide_eq_decide]
    constructor
    ·intro z
     have:=map_inj z
     cases x;cases y
     simp at this ⊢
     exact this
    ·rintro rfl;rfl
   rw[e] at h;exact h
theorem oneLt_at {k c:Bool}{x y:Value}{a b:List Int}{Q:Bool->Shared->Prop}(hx:AtK k x a) (hy:AtK k y b) (h:Q (decide (a<b)) s):wpAny (model prog w) A (oneLt' c x y) Q E s:=by
 cases hx with
 |int i t=>
  cases hy with
  |int j u=>
   have e:decide ([i]<[j])=decide (i<j):=by rw[decide_eq_decide,List.cons_lt_cons_iff];simp
   rw[e] at h
   cases c with
   |true=>exact oneLt_int h
   |false=>
    rw[oneLt'_eq]
    simp only[Bool.false_eq_true,if_false,pure_bind]
    exact wpAny_bind (wpAny_lt_int (wpAny_truthy_bool h))
 |str x t=>
  cases hy with
  |str y u=>
   have e:decide (x.cps.toList.map Int.ofNat<y.cps.toList.map Int.ofNat)=decide (x.cps.toList<y.cps.toList):=by rw[decide_eq_decide];exact map_lt
   rw[e] at h
   cases c with
   |true=>exact oneLt_str h
   |false=>
    rw[oneLt'_eq]
    simp only[Bool.false_eq_true,if_false,pure_bind]
    exact wpAny_bind (PySem.P.lt_str (wpAny_truthy_bool h))
theorem klt_tup (c:Bool):KLt prog w A s (tupKind s.heap pat) (tuples' c):=by
 intro E x y (a:List (List Int)) (b:List (List Int)) Q ha hb hq
 obtain⟨p,o,xs,n,rfl,e1,e2,e3,e4⟩:=key_tup ha
 obtain⟨p',o',xs',n',rfl,f1,f2,f3,f4⟩:=key_tup hb
 refine wpAny_bind (listItems_at e1 e3 ?_)
 refine wpAny_bind (listItems_at f1 f3 ?_)
 have go:∀(vs us:List Value) (i:Nat) (l m:List (List Int)),AtsK pat i vs l->AtsK pat i us m->∀(F:(Value×Value)×Nat->Option Bool×Unit->Sem (ForInStep (Option Bool×Unit))) (R:Option Bool×Unit->Shared->Prop),
   (∀p q j x y Q',AtK (pat j) p x->AtK (pat j) q y->(if x=y then Q' (.yield (none,())) s else Q' (.done (some (decide (x<y)),())) s)->wpAny (model prog w) A (F ((p,q),j) (none,())) Q' E s) ->
   (∀r,(r=(some (decide (l<m)),())\/(r=(none,())/\decide (l<m)=decide (vs.length<us.length)))->R r s)->wpAny (model prog w) A (forIn ((vs.zip us).zipIdx i) (none,()) F) R E s:=by
  intro vs
  induction vs with
  |nil=>
   intro us i l m hl hm F R hF hR
   cases hl
   rw[List.zip_nil_left,List.zipIdx_nil,List.forIn_nil]
   refine wpAny_pure (hR _ (.inr ⟨rfl,?_⟩))
   cases hm<;>simp
  |cons v vs ih=>
   intro us i l m hl hm F R hF hR
   cases hl with
   |@cons _ _ x _ xs hx rx=>
   cases hm with
   |nil=>
    rw[List.zip_nil_right,List.zipIdx_nil,List.forIn_nil]
    exact wpAny_pure (hR _ (.inr ⟨rfl,by simp⟩))
   |@cons _ u y us ys hy ry=>
    rw[List.zip_cons_cons,List.zipIdx_cons,List.forIn_cons]
    refine wpAny_bind (hF _ _ _ _ _ _ hx hy ?_)
    by_cases e:x=y
    ·rw[if_pos e]
     dsimp only
     refine ih us (i+1) xs ys rx ry F R hF λr hr=>hR r ?_
     have e2:decide (x::xs<y::ys)=decide (xs<ys):=by
      rw[decide_eq_decide,List.cons_lt_cons_iff,e]
      simp[List.lt_irrefl]
     rw[e2,List.length_cons,List.length_cons]
     simpa using hr
    ·rw[if_neg e]
     dsimp only
     refine wpAny_pure (hR _ (.inl ?_))
     have e2:decide (x::xs<y::ys)=decide (x<y):=by
      rw[decide_eq_decide,List.cons_lt_cons_iff]
      simp[e]
     rw[e2]
 refine wpAny_bind (go _ _ 0 a b e4 f4 _ _ (λp q j x y Q' hx hy hQ=>?_) λr hr=>?_)
 ·dsimp only
  refine wpAny_bind (eqB_at hx hy ?_)
  by_cases e:x=y
  ·rw[if_pos e] at hQ
   rw[decide_eq_true e]
   exact wpAny_pure hQ
  ·rw[if_neg e] at hQ
   rw[decide_eq_false e]
   exact wpAny_bind (oneLt_at hx hy (wpAny_pure hQ))
 ·have hq':Q (decide (a<b)) s:=hq
  rcases hr with rfl|⟨rfl,e⟩
  ·exact wpAny_pure hq'
  ·rw[e] at hq'
   refine wpAny_pure ?_
   simpa using hq'
end
end PyProof.Rows
namespace PyProof.Rows
open PySem
section
variable {prog:Program}{w:World}{A:Around}{E:Value->Shared->Prop}{s:Shared}{pat:Nat->Bool}
theorem firsts_tup:∀{vs:List Value}{Q:List (Option Value)->Shared->Prop},(∀v∈vs,∃l,TupK s.heap pat v l/\l≠[])->(∀us:List Value,us.length=vs.length->(∀u∈us,∃l,AtK (pat 0) u l)->Q (us.map some) s)->wpAny (model prog w) A (vs.mapM firstOfTuple') Q E s
 |[],Q,_,h=>by rw[List.mapM_nil];exact wpAny_pure (h [] rfl (by simp))
 |v::vs,Q,hv,h=>by
  rw[List.mapM_cons]
  obtain⟨l,⟨a,o,xs,n,rfl,e1,e2,e3,e4⟩,e5⟩:=hv v (by simp)
  refine wpAny_bind (m:=firstOfTuple' (.ref a)) (wpAny_bind (wpAny_typeOf (T:= "tuple") ⟨o,e1,e2⟩ ?_))
  rw[if_neg (by simp)]
  refine wpAny_bind (listItems_at e1 e3 (wpAny_pure (wpAny_bind (firsts_tup (λu hu=>hv u (by simp[hu])) λus hl hu=>wpAny_pure ?_))))
  generalize hx:xs.toList=ys at e4
  cases e4 with
  |nil=>exact absurd rfl e5
  |@cons _ u l _ _ hk _=>
   have ex:xs[0]?=some u:=by rw[<- Array.getElem?_toList,hx];rfl
   rw[ex]
   refine h (u::us) (by simp[hl]) λq hq=>?_
   rcases List.mem_cons.mp hq with rfl|z
   ·exact⟨l,hk⟩
   ·exact hu q z
def tyK (k:Bool):Value:=if k then .type "str" else .type "int"
theorem types_at {k:Bool}:∀{us:List Value},(∀u∈us,∃l,AtK k u l)->us.mapM typeOf=pure (us.map λ_=>tyK k)
 |[],_=>by simp
 |u::us,h=>by
  rw[List.mapM_cons,types_at (us:=us) λq hq=>h q (by simp[hq])]
  obtain⟨l,hl⟩:=h u (by simp)
  have e:typeOf u=pure (tyK k):=by cases hl<;>rfl
  rw[e];simp
theorem kind_tup {vs:List Value}{Q:SortKind->Shared->Prop}(h0:vs≠[]) (hv:∀v∈vs,∃l,TupK s.heap pat v l/\l≠[]) (h:Q (tuples' true) s):wpAny (model prog w) A (keyKind' vs.toArray) Q E s:=by
 rw[keyKind'_eq,List.mapM_toArray]
 simp only[bind_map_left]
 refine wpAny_bind (firsts_tup hv λus hl hu=>?_)
 rw[if_pos (by simp)]
 refine wpAny_bind (wpAny_rule ?_)
 have e:(us.map some).toArray.filterMap id=us.toArray:=by
  rw[List.filterMap_toArray];congr 1;rw[List.filterMap_map];exact List.filterMap_some
 rw[e,oneTypeOnly'_eq,List.mapM_toArray,types_at hu]
 simp only[map_pure,pure_bind]
 cases us with
 |nil=>exact absurd (List.length_eq_zero_iff.mp hl.symm) h0
 |cons u us=>
  have e0:((u::us).map λ_=>tyK (pat 0)).toArray[0]?=some (tyK (pat 0)):=by simp
  have e1:(((u::us).map λ_=>tyK (pat 0)).toArray.all λx=>x==tyK (pat 0))=true:=by
   simp only[List.all_toArray,List.all_map,List.all_eq_true]
   intro _ _
   show (tyK (pat 0)==tyK (pat 0))=true
   cases pat 0<;>rfl
  rw[e0]
  simp only[e1,if_true,pure_bind]
  have e2:((some (tyK (pat 0))).any λx=>x != Value.type "tuple")=true:=by cases pat 0<;>rfl
  rw[e2]
  exact wpAny_pure h
def AscT (h:Heap) (pat:Nat->Bool) (vs:List Value):Prop:=vs.Pairwise λu v=>∀l m,TupK h pat u l->TupK h pat v m->¬m<l
theorem tup_out {vs:List Value}{h:Heap}{xs:Array Keyed}(hv:∀v∈vs,∃l,TupK h pat v l) (hp:xs.Perm (pairsOf vs)) (hs:SortedToK (tupKind h pat) xs (pairsOf vs).size) :
  (xs.map (·.2)).toList.Perm vs/\AscT h pat (xs.map (·.2)).toList:=by
 have hl:xs.toList.Perm (vs.zip vs):=by rw[<- pairsOf_toList];exact Array.perm_iff_toList_perm.mp hp
 have mem:∀p,p∈xs.toList->p.1=p.2/\p.1∈vs:=λp q=>mem_zip_self (hl.mem_iff.mp q)
 constructor
 ·rw[Array.toList_map]
  have z:=hl.map Prod.snd
  rwa [List.map_snd_zip (Nat.le_refl _)] at z
 ·refine List.pairwise_iff_getElem.mpr λi j hi hj hij l m hl hm=>?_
  have i1:i<xs.size:=by simpa using hi
  have j1:j<xs.size:=by simpa using hj
  have z:=hs i j (Nat.le_of_lt hij) (by rw[<- hp.size_eq];exact j1)
  have ki:KK (tupKind h pat) xs i=l:=by
   have a:=(mem xs[i] (by simp)).1
   have b:TupK h pat xs[i].1 l:=by rw[a];simpa using hl
   rw[KK_kv i1];unfold kv;rw[tup_key b];rfl
  have kj:KK (tupKind h pat) xs j=m:=by
   have a:=(mem xs[j] (by simp)).1
   have b:TupK h pat xs[j].1 m:=by rw[a];simpa using hm
   rw[KK_kv j1];unfold kv;rw[tup_key b];rfl
  rw[ki,kj] at z
  exact of_decide_eq_false z
theorem lsort_tup {p:Addr}{vs:List Value}{n:Nat}{P:Fin->Shared->Prop}(hL:s.heap.get? p=some (seqObj "list" vs.toArray n)) (hv:∀v∈vs,∃l,TupK s.heap pat v l/\l≠[]) (hz:vs.length<=sizeLine)
  (h:∀out:Array Value,out.toList.Perm vs->AscT s.heap pat out.toList->P (.done (.ret .none)) { s with heap:=sortedHeap s.heap p vs out }) :
  wpAny (model prog w) A (Builtin.«list.sort» ⟨[.ref p],[]⟩) P E s:=by
 have lt:=Heap.lt_size hL
 obtain⟨c1,hE⟩:∃c,(s.heap.update p (Obj.mapSeq λ_=>#[])).get? p=some (seqObj "list" #[] c):=⟨_,get?_update_seq hL (λ_=>#[])⟩
 have kp:∀b o,b≠p->s.heap.get? b=some o->(((s.heap.update p (Obj.mapSeq λ_=>#[])).push (seqObj "tuple" vs.toArray 0)).push (seqObj "list" #[] 0)).get? b=some o:=λb o hb q=>by
  have l2:=Heap.lt_size q
  rw[Heap.get?_push_ne _ _ _ (by rw[size_push',Heap.size_update];exact Nat.ne_of_lt (Nat.lt_succ_of_lt l2)),Heap.get?_push_ne _ _ _ (by rw[Heap.size_update];exact Nat.ne_of_lt l2),Heap.get?_update_ne _ _ _ _ hb];exact q
 have hT:(((s.heap.update p (Obj.mapSeq λ_=>#[])).push (seqObj "tuple" vs.toArray 0)).push (seqObj "list" #[] 0)).get? p=some (seqObj "list" #[] c1):=by
  rw[Heap.get?_push_ne _ _ _ (by rw[size_push',Heap.size_update];exact Nat.ne_of_lt (Nat.lt_succ_of_lt lt)),Heap.get?_push_ne _ _ _ (by rw[Heap.size_update];exact Nat.ne_of_lt lt)];exact hE
 have kT:∀b o,s.heap.get? b=some o->o.cls=.type "tuple" -> (((s.heap.update p (Obj.mapSeq λ_=>#[])).push (seqObj "tuple" vs.toArray 0)).push (seqObj "list" #[] 0)).get? b=some o:=λb o q c=>kp b o (by rintro rfl;rw[hL] at q;cases q;simp at c) q
 have hv':∀v∈vs,∃l,TupK (((s.heap.update p (Obj.mapSeq λ_=>#[])).push (seqObj "tuple" vs.toArray 0)).push (seqObj "list" #[] 0)) pat v l/\l≠[]:=λv q=>by
  obtain⟨l,x,y⟩:=hv v q
  exact⟨l,x.keep kT,y⟩
 have back:∀out:Array Value,out.toList.Perm vs->AscT (((s.heap.update p (Obj.mapSeq λ_=>#[])).push (seqObj "tuple" vs.toArray 0)).push (seqObj "list" #[] 0)) pat out.toList->AscT s.heap pat out.toList:=λout _ q=>List.Pairwise.imp (λz l m x y=>z l m (x.keep kT) (y.keep kT)) q
 rw[list_sort_plain]
 refine wpAny_bind (listItems_at hL rfl (wpAny_bind (listUpdate_at hL rfl (wpAny_bind (seqEpoch_at hE rfl (wpAny_bind (wpAny_newTuple (wpAny_bind (wpAny_newList (wpAny_holding ?_) (Nat.zero_le _))) (by simpa using hz))))) (by simpa using hz) (Nat.zero_le _))))
 show wpAny (model prog w) A _ P E { s with heap:=((s.heap.update p (Obj.mapSeq λ_=>#[])).push (seqObj "tuple" vs.toArray 0)).push (seqObj "list" #[] 0) }
 dsimp only
 by_cases small:vs.toArray.size<2
 ·rw[if_pos small,if_pos small]
  refine wpAny_bind (wpAny_pure ?_)
  rw[StateT.run_pure]
  refine wpAny_bind (wpAny_pure ?_)
  dsimp only
  have e:(vs.toArray.zip vs.toArray).map (·.2)=vs.toArray:=by
   apply Array.toList_inj.mp;simp[List.map_snd_zip]
  refine wpAny_bind (seqEpoch_at hT rfl (wpAny_bind (listUpdate_at hT rfl ?_ (Nat.zero_le _) (by show ((vs.toArray.zip vs.toArray).map (·.2)).size<=_;rw[e];simp;lia))))
  simp only[bne_self_eq_false,Bool.false_eq_true,if_false]
  refine wpAny_pure ?_
  show P _ { s with heap:=sortedHeap s.heap p vs ((vs.toArray.zip vs.toArray).map (·.2)) }
  rw[e]
  refine h _ (by simp) ?_
  have:vs.length<2:=by simpa using small
  match vs,this with
  |[],_=>exact List.Pairwise.nil
  |[x],_=>exact List.pairwise_singleton _ _
  |_::_::_,z=>simp at z;lia
 ·rw[if_neg small,if_neg small]
  refine wpAny_bind (kind_tup (pat:=pat) (λz=>small (by rw[z];decide)) hv' ?_)
  have ka:KeysOf (tupKind (((s.heap.update p (Obj.mapSeq λ_=>#[])).push (seqObj "tuple" vs.toArray 0)).push (seqObj "list" #[] 0)) pat) (pairsOf vs):=λq hq=>by
   rw[pairsOf_toList] at hq
   obtain⟨l,x,_⟩:=hv' _ (mem_zip_self hq).2
   exact⟨l,tup_key x⟩
  refine wpAny_bind (wpAny_mono (wpS_sortRunsG (κ:=tupKind (((s.heap.update p (Obj.mapSeq λ_=>#[])).push (seqObj "tuple" vs.toArray 0)).push (seqObj "list" #[] 0)) pat) (kd:=tuples' true) (a₀:=pairsOf vs) (st:=SortSt.mk' (tuples' true) (vs.toArray.zip vs.toArray) #[] 7 none)
   (Q:=λ_ st'=>(arrOf st').Perm (pairsOf vs)/\failedOf st'=none/\SortedToK (tupKind (((s.heap.update p (Obj.mapSeq λ_=>#[])).push (seqObj "tuple" vs.toArray 0)).push (seqObj "list" #[] 0)) pat) (arrOf st') (pairsOf vs).size)
   (klt_tup true) ka ⟨Array.Perm.refl _,rfl,rfl,rfl⟩ λst' a b c=>⟨a,b,c⟩) ?_ λ_ _ e=>e)
  rintro⟨⟨⟩,st'⟩ s' ⟨rfl,hp,hf,hs⟩
  dsimp only
  obtain⟨o1,o2⟩:=tup_out (λv q=>(hv' v q).imp λ_ z=>z.1) hp hs
  refine wpAny_bind (seqEpoch_at hT rfl (wpAny_bind (listUpdate_at hT rfl ?_ (Nat.zero_le _) ?_)))
  ·rw[hf]
   simp only[bne_self_eq_false,Bool.false_eq_true,if_false]
   exact wpAny_pure (h _ o1 (back _ o1 o2))
  ·refine Nat.le_trans (Nat.le_of_eq ?_) (Nat.le_succ_of_le hz)
   have:=o1.length_eq
   rw[Array.length_toList] at this
   exact this
theorem sorted_tup {p:Addr}{vs:List Value}{Q:Value->Shared->Prop}(hl:s.heap.IsList p vs.toArray) (hv:∀v∈vs,∃l,TupK s.heap pat v l/\l≠[]) (hz:vs.length<=sizeLine)
  (h:∀out:Array Value,out.toList.Perm vs->AscT s.heap pat out.toList->Q (.ref (s.heap.objs.size+1)) { s with heap:=sortedAll s.heap vs out }) :
  wpAny (model prog w) A (call (.builtin "sorted") [.ref p]) Q E s:=by
 refine Calls.call_function_entry kind_sorted plain_sorted entry_sorted (args_sorted1 _) ?_
 unfold Builtin.«sorted»
 have hsz:((s.heap.push (seqObj "list" #[] 0)).update s.heap.objs.size (Obj.mapSeq (·++vs.toArray))).objs.size=s.heap.objs.size+1:=by rw[Heap.size_update,size_push']
 have hL:(((s.heap.push (seqObj "list" #[] 0)).update s.heap.objs.size (Obj.mapSeq (·++vs.toArray))).push (seqObj "list" vs.toArray 0)).get? (s.heap.objs.size+1)=some (seqObj "list" vs.toArray 0):=by rw[<- hsz];exact Heap.get?_push_size _ rfl
 have kp:∀b o,s.heap.get? b=some o->(((s.heap.push (seqObj "list" #[] 0)).update s.heap.objs.size (Obj.mapSeq (·++vs.toArray))).push (seqObj "list" vs.toArray 0)).get? b=some o:=λb o q=>by
  have l2:=Heap.lt_size q
  rw[Heap.get?_push_ne _ _ _ (by rw[hsz];exact Nat.ne_of_lt (Nat.lt_succ_of_lt l2)),Heap.get?_update_ne _ _ _ _ (Nat.ne_of_lt l2),Heap.get?_push_ne _ _ _ (Nat.ne_of_lt l2)];exact q
 have back:∀{v:Value}{l:List (List Int)},TupK s.heap pat v l->TupK (((s.heap.push (seqObj "list" #[] 0)).update s.heap.objs.size (Obj.mapSeq (·++vs.toArray))).push (seqObj "list" vs.toArray 0)) pat v l:=λx=>x.keep λb o q _=>kp b o q
 refine wpAny_bind (m:=checkCount "sorted" 1 1 _) (wpAny_pure (wpAny_bind (collect_list hl (wpAny_bind (wpAny_newList ?_ hz)) hz)))
 show wpAny _ _ _ _ _ { s with heap:=((s.heap.push (seqObj "list" #[] 0)).update s.heap.objs.size (Obj.mapSeq (·++vs.toArray))).push (seqObj "list" vs.toArray 0) }
 rw[hsz]
 refine wpAny_bind (wpAny_holding (wpAny_call_entry slot_list_sort ⟨_,hL,rfl⟩ entry_list_sort (lsort_tup (pat:=pat) hL (λv q=>(hv v q).imp λ_ z=>⟨back z.1,z.2⟩) hz λout a1 a2=>⟨_,rfl,wpAny_pure ⟨_,rfl,h out a1 ?_⟩⟩) (args_list_sort _)))
 exact List.Pairwise.imp (λz l m x y=>z l m (back x) (back y)) a2
end
end PyProof.Rows
namespace L2
open PySem PySem.Spec PyProof.Rows
inductive AtV:Bool->V->List Int->Prop
 |int (i:Int):AtV false (.int i) [i]
 |str (x:Str):AtV true (.str x) (x.cps.toList.map Int.ofNat)
inductive AtsV (pat:Nat->Bool):Nat->List V->List (List Int)->Prop
 |nil {i:Nat}:AtsV pat i [] []
 |cons {i:Nat}{v:V}{l:List Int}{vs:List V}{ls:List (List Int)}(h:AtV (pat i) v l) (r:AtsV pat (i+1) vs ls):AtsV pat i (v::vs) (l::ls)
def TupV (H:Hp) (pat:Nat->Bool) (v:V) (l:List (List Int)):Prop:=∃a xs,v=.ref a/\H a=some (.tup xs)/\AtsV pat 0 xs l
def AscV (H:Hp) (pat:Nat->Bool) (vs:List V):Prop:=vs.Pairwise λu v=>∀l m,TupV H pat u l->TupV H pat v m->¬m<l
theorem AtV.rel {k:Bool}{x:V}{l:List Int}{u:Value}(h:AtV k x l) (r:RelV x u):AtK k u l:=by
 cases h with
 |int i=>obtain⟨t,rfl⟩:=r;exact .int i t
 |str x=>obtain⟨t,rfl⟩:=r;exact .str x t
theorem AtsV.rel {pat:Nat->Bool}:∀{i:Nat}{xs:List V}{ls:List (List Int)}{us:List Value},AtsV pat i xs ls->Vals xs us->AtsK pat i us ls
 |_,_,_,_,.nil,.nil=>.nil
 |_,_,_,_,.cons h r,.cons h' r'=>.cons (h.rel h') (r.rel r')
theorem TupV.rel {P:Program}{w:World}{H:Hp}{h:Heap}(ok:HOk P w H h){pat:Nat->Bool}{x:V}{l:List (List Int)}{u:Value}(t:TupV H pat x l) (r:RelV x u):TupK h pat u l:=by
 obtain⟨a,xs,rfl,e,ha⟩:=t
 cases (show u=Value.ref a from r)
 obtain⟨_,its,rv,o,ho,hc,n,hd⟩:=ok a _ e
 exact⟨a,o,_,n,rfl,ho,hc,hd,by simpa using ha.rel rv⟩
theorem vals_perm:∀{us us':List Value},us'.Perm us->∀{xs:List V},Vals xs us->∃xs',Vals xs' us'/\xs'.Perm xs:=by
 intro us us' p
 induction p with
 |nil=>intro xs r;exact⟨xs,r,.refl _⟩
 |cons u p ih=>
  intro xs r
  cases r with
  |cons h r=>
   obtain⟨xs',r',p'⟩:=ih r
   exact⟨_::xs',.cons h r',p'.cons _⟩
 |swap u v l=>
  intro xs r
  cases r with
  |cons h r=>
   cases r with
   |cons h2 r=>exact⟨_::_::_,.cons h2 (.cons h r),List.Perm.swap _ _ _⟩
 |trans p q ihp ihq=>
  intro xs r
  obtain⟨x1,r1,p1⟩:=ihq r
  obtain⟨x2,r2,p2⟩:=ihp r1
  exact⟨x2,r2,p2.trans p1⟩
theorem vals_mem:∀{xs:List V}{us:List Value}{u:Value},Vals xs us->u∈us->∃x,x∈xs/\RelV x u
 |_,_,u,.nil,h=>by simp at h
 |_,_,u,.cons r rs,h=>by
  rcases List.mem_cons.mp h with rfl|z
  ·exact⟨_,by simp,r⟩
  ·obtain⟨x,h1,h2⟩:=vals_mem rs z
   exact⟨x,by simp[h1],h2⟩
theorem asc_vals {P:Program}{w:World}{H:Hp}{h:Heap}(ok:HOk P w H h){pat:Nat->Bool}:∀{xs:List V}{us:List Value},Vals xs us->AscT h pat us->AscV H pat xs
 |_,_,.nil,_=>.nil
 |x::xs,u::us,.cons r rs,a=>by
  obtain⟨a1,a2⟩:=List.pairwise_cons.mp a
  refine List.pairwise_cons.mpr ⟨λy hy l m tl tm=>?_,asc_vals ok rs a2⟩
  obtain⟨v,hv,rv⟩:∃v,v∈us/\RelV y v:=by
   clear a a1 a2
   induction rs with
   |nil=>simp at hy
   |cons h t ih=>
    rcases List.mem_cons.mp hy with rfl|z
    ·exact⟨_,by simp,h⟩
    ·obtain⟨v,h1,h2⟩:=ih z
     exact⟨v,by simp[h1],h2⟩
  exact a1 v hv l m (tl.rel ok r) (tm.rel ok rv)
section
variable {X:Cx}
theorem call_sortedT:CallR X (.builtin "sorted") (λxs H Q=>∃(p:Addr) (vs:List V) (pat:Nat->Bool),xs=[.ref p]/\H p=some (.lst vs)/\(∀v∈vs,∃l,TupV H pat v l/\l≠[]) /\
  ∀q us,H q=none->us.Perm vs->AscV H pat us->Q (.ref q) (upd H q (.lst us))):=by
 intro pins s σ H xs us Q I r h
 obtain⟨p,vs,pat,rfl,hp,ht,q⟩:=h
 obtain⟨u,rfl,ru⟩:=vals1 r
 cases ru
 obtain⟨hz,its,n,rv,ho⟩:=I.hok p _ hp
 have hl:=rv.length
 refine sorted_tup (pat:=pat) (vs:=its) ⟨_,ho,rfl,n,rfl⟩ (λv hv=>?_) (by lia) λout o1 o2=>?_
 ·obtain⟨x,hx,rx⟩:=vals_mem rv hv
  obtain⟨l,t,ne⟩:=ht x hx
  exact⟨l,t.rel I.hok rx,ne⟩
 ·obtain⟨e,he⟩:=sortedAll_at s.heap its out
  obtain⟨xs',r',p'⟩:=vals_perm o1 rv
  exact⟨.ref _,_,I.laid (a:=s.heap.objs.size+1) (o:=.lst xs') (t':=s.toks) (λb o z=>sortedAll_old z) (Nat.le_succ _) ⟨by rw[p'.length_eq];exact hz,out.toList,e,r',by simpa using he⟩,rfl,q _ xs' (I.hok.fresh (Nat.le_succ _)) p' (asc_vals I.hok r' o2)⟩
end
end L2
namespace EnumT
open PySem PySem.Spec
section
variable {prog:Program}{w:World}{A:Around}{E:Value->Shared->Prop}{s:Shared}
theorem inner_item {it t:Addr}{i:Nat}{items:Array Value}{x:Value}{Q:Value->Shared->Prop}(st:s.heap.IsTupleIter it t i) (ht:s.heap.IsTuple t items) (hx:items[i]?=some x)
  (q:∀h',h'.IsTupleIter it t (i+1)->Heap.SameBut it s.heap h'->Q x { s with heap:=h' }):wpAny (model prog w) A (Builtin.SmallTypes.nextOf (.ref it)) Q E s:=by
 obtain⟨o,e1,e2,e3⟩:=id st
 obtain⟨ot,f1,_,nt,f2⟩:=ht
 unfold Builtin.SmallTypes.nextOf
 refine wpAny_bind (wpAny_callSpecial?_slot (name:=Str.ofString "__next__") st.typeIs F.slot_tuple_iterator_next (wpAny_call_entry F.slot_tuple_iterator_next st.typeIs F.entry_tuple_iterator_next ?_ (F.args_tuple_iterator_next_1 _)))
 show wpAny _ _ (field (.ref it) 0 >>= _) _ _ s
 refine wpAny_bind (wpAny_field e1 e3 (x:=.ref t) rfl ?_)
 show wpAny _ _ (if (Value.ref t==Value.none)=true then _ else _) _ _ s
 rw[if_neg (show ¬((Value.ref t==Value.none)=true) from Bool.false_ne_true)]
 show wpAny _ _ (field (.ref it) 1 >>= _) _ _ s
 refine wpAny_bind (wpAny_field e1 e3 (x:=.int i 0) rfl ?_)
 show wpAny _ _ (seqItems? (.ref t) >>= _) _ _ s
 refine wpAny_bind (wpAny_seqItems f1 f2 ?_)
 simp only[Int.toNat_natCast,hx]
 refine wpAny_bind (wpAny_setField e1 e3 (by simp) (wpAny_pure ⟨x,rfl,wpAny_pure (q _ ⟨_,Heap.get?_update_self _ e1 (Obj.isFreed_of_fields (Obj.data_mapFields e3 _)),(Obj.cls_mapFields ..).trans e2,?_⟩ (Heap.SameBut.update ..))⟩))
 rw[Obj.data_mapFields e3];simp[rawInt]
theorem inner_end {it t:Addr}{i:Nat}{items:Array Value}{Q:Value->Shared->Prop}(hh:A.handled=none) (st:s.heap.IsTupleIter it t i) (ht:s.heap.IsTuple t items) (hx:items[i]?=none)
  (q:∀h' e,Heap.ExtBut it s.heap h'->(∃o,h'.get? e=some o/\o.cls=.type "StopIteration")->E (.ref e) { s with heap:=h' }):wpAny (model prog w) A (Builtin.SmallTypes.nextOf (.ref it)) Q E s:=by
 obtain⟨o,e1,e2,e3⟩:=id st
 obtain⟨ot,f1,_,nt,f2⟩:=ht
 unfold Builtin.SmallTypes.nextOf
 refine wpAny_bind (wpAny_callSpecial?_slot (name:=Str.ofString "__next__") st.typeIs F.slot_tuple_iterator_next (wpAny_call_entry F.slot_tuple_iterator_next st.typeIs F.entry_tuple_iterator_next ?_ (F.args_tuple_iterator_next_1 _)))
 show wpAny _ _ (field (.ref it) 0 >>= _) _ _ s
 refine wpAny_bind (wpAny_field e1 e3 (x:=.ref t) rfl ?_)
 show wpAny _ _ (if (Value.ref t==Value.none)=true then _ else _) _ _ s
 rw[if_neg (show ¬((Value.ref t==Value.none)=true) from Bool.false_ne_true)]
 show wpAny _ _ (field (.ref it) 1 >>= _) _ _ s
 refine wpAny_bind (wpAny_field e1 e3 (x:=.int i 0) rfl ?_)
 show wpAny _ _ (seqItems? (.ref t) >>= _) _ _ s
 refine wpAny_bind (wpAny_seqItems f1 f2 ?_)
 simp only[Int.toNat_natCast,hx]
 refine wpAny_bind (wpAny_rule (wpAny_bind (wpAny_setField e1 e3 (by simp) ?_)))
 show wpAny _ _ (newExc (.type "StopIteration") [] >>= _) _ _ _
 refine wpAny_bind ?_
 simp only[newExc,newTuple]
 refine wpAny_bind (wpAny_newObj_type ?_ (by size_fits))
 refine wpAny_bind (m:=firstArgMember _ _) (wpAny_of_eq (a:=Value.none) (by first|rfl|(simp only[firstArgMember];rfl)) ?_)
 refine wpAny_newObj_type ?_ (by size_fits)
 simp only[raiseNew]
 refine wpAny_bind (wpAny_handled ?_)
 first|rw[show A.in1.handled=none from hh]|rw[hh]
 refine wpAny_bind (wpAny_pure (wpAny_throw ?_))
 exact q _ _ (((Heap.SameBut.update ..).extBut.push _).push _) ⟨_,Heap.get?_push_size _ rfl,rfl⟩
theorem pair_next {e it:Addr}{i:Nat}{x old:Value}{St:Heap->Prop}{Q:Value->Shared->Prop}(he:IsEnum s.heap e it i old) (hne:e≠it)
  (nx:∀Q':Value->Shared->Prop,(∀h',Heap.SameBut it s.heap h'->St h'->Q' x { s with heap:=h' })->wpAny (model prog w) A (Builtin.SmallTypes.nextOf (.ref it)) Q' E s)
  (q:∀h1 h',Heap.SameBut it s.heap h1->St h1->IsEnumOut h' e it ((i:Int)+1) x s.heap.objs.size->h'.get? s.heap.objs.size=some { cls:=.type "tuple",data:=.seq #[.int i s.toks,x] } ->
   (∀b o,b≠e->h1.get? b=some o->h'.get? b=some o)->Q (.ref s.heap.objs.size) { s with heap:=h',toks:=s.toks+1 }) :
  wpAny (model prog w) A (Builtin.«enumerate.__next__» ⟨[.ref e],[]⟩) (λfin s'=>∃v,fin=.done (.ret v)/\Q v s') E s:=by
 obtain⟨hp,g,d,tk,os⟩:=s
 show wpAny _ _ (field (.ref e) 2 >>= _) _ _ _
 refine wpAny_bind (wpAny_field he rfl (x:=.ref it) rfl ?_)
 refine wpAny_bind (nx _ λh₁ s1 st1=>?_)
 replace s1:Heap.SameBut it hp h₁:=s1
 have he₁:IsEnum h₁ e it i old:=(s1.2 e hne).trans he
 show wpAny _ _ (field (.ref e) 3 >>= _) _ _ ⟨h₁,g,d,tk,os⟩
 refine wpAny_bind (wpAny_field he₁ rfl (x:=rawInt i) rfl ?_)
 show wpAny _ _ (field (.ref e) 4 >>= _) _ _ ⟨h₁,g,d,tk,os⟩
 refine wpAny_bind (wpAny_field he₁ rfl (x:=.none) rfl ?_)
 show wpAny _ _ (mkInt i >>= _) _ _ ⟨h₁,g,d,tk,os⟩
 refine wpAny_bind (wpAny_mkInt ?_)
 show wpAny _ _ (setField (.ref e) 3 (rawInt ((i:Int)+1)) >>= _) _ _ ⟨h₁,g,d,tk+1,os⟩
 refine wpAny_bind (wpAny_setField_rec he₁ (by simp) λh₂ he₂ s2=>?_)
 replace s2:Heap.SameBut e h₁ h₂:=s2
 replace he₂:IsEnum h₂ e it ((i:Int)+1) old:=he₂
 show wpAny _ _ (setField (.ref e) 4 .none >>= _) _ _ ⟨h₂,g,d,tk+1,os⟩
 refine wpAny_bind (wpAny_setField_rec he₂ (by simp) λh₃ he₃ s3=>?_)
 replace s3:Heap.SameBut e h₂ h₃:=s3
 replace he₃:IsEnum h₃ e it ((i:Int)+1) old:=he₃
 show wpAny _ _ (newTuple [.int i tk,x] >>= _) _ _ ⟨h₃,g,d,tk+1,os⟩
 refine wpAny_bind (wpAny_newTuple ?_)
 have z3:h₃.objs.size=hp.objs.size:=by rw[s3.1,s2.1,s1.1]
 have elt:e<hp.objs.size:=Heap.lt_size he
 obtain⟨h₄,e4⟩:∃h₄,h₃.push { cls:=.type "tuple",data:=.seq #[.int i tk,x] }=h₄:=⟨_,rfl⟩
 have he₄:IsEnum h₄ e it ((i:Int)+1) old:=by rw[<- e4];exact Heap.get?_push_of_some _ he₃
 have ht₄:h₄.get? hp.objs.size=some { cls:=.type "tuple",data:=.seq #[.int i tk,x] }:=by rw[<- e4,<- z3];exact Heap.get?_push_size _ rfl
 have k4:∀b o,b≠e->h₁.get? b=some o->h₄.get? b=some o:=λb o hb eb=>by
  rw[<- e4];exact Heap.get?_push_of_some _ (s3.extBut b o hb (s2.extBut b o hb eb))
 rw[e4]
 show wpAny _ _ (Builtin.SmallTypes.ownedTupleIsFree (.ref e) >>= _) _ _ ⟨h₄,g,d,tk+1,os⟩
 rw[z3]
 refine wpAny_bind ?_
 unfold Builtin.SmallTypes.ownedTupleIsFree
 refine wpAny_bind (wpAny_field he₄ rfl (x:=.none) rfl (wpAny_pure ?_))
 simp only[if_true]
 refine wpAny_bind (wpAny_rule ?_)
 refine wpAny_bind (wpAny_field he₄ rfl (x:=old) rfl ?_)
 refine wpAny_bind (wpAny_setField_rec he₄ (by simp) λh₅ he₅ s5=>?_)
 replace s5:Heap.SameBut e h₄ h₅:=s5
 replace he₅:IsEnum h₅ e it ((i:Int)+1) x:=he₅
 show wpAny _ _ (Builtin.SmallTypes.ownedTupleHandOut (.ref e) (.ref hp.objs.size) >>= _) _ _ ⟨h₅,g,d,tk+1,os⟩
 refine wpAny_bind ?_
 unfold Builtin.SmallTypes.ownedTupleHandOut
 refine wpAny_bind (wpAny_setField_rec he₅ (by simp) λh₆ he₆ s6=>?_)
 replace s6:Heap.SameBut e h₅ h₆:=s6
 replace he₆:IsEnumOut h₆ e it ((i:Int)+1) x hp.objs.size:=he₆
 refine wpAny_setField_rec he₆ (by simp) λh₇ he₇ s7=>?_
 replace s7:Heap.SameBut e h₆ h₇:=s7
 replace he₇:IsEnumOut h₇ e it ((i:Int)+1) x hp.objs.size:=he₇
 have k7:∀b o,b≠e->h₄.get? b=some o->h₇.get? b=some o:=λb o hb eb=>s7.extBut b o hb (s6.extBut b o hb (s5.extBut b o hb eb))
 exact wpAny_bind (wpAny_letGo (wpAny_pure ⟨_,rfl,q h₁ h₇ s1 st1 he₇ (k7 _ _ (Nat.ne_of_gt elt) ht₄) λb o hb eb=>k7 b o hb (k4 b o hb eb)⟩))
theorem next_pair {e it t:Addr}{i:Nat}{items:Array Value}{x old:Value}{Q:Option Value->Shared->Prop}(he:IsEnum s.heap e it i old) (hne:e≠it) (st:s.heap.IsTupleIter it t i) (ht:s.heap.IsTuple t items) (hx:items[i]?=some x)
  (q:∀h1 h',Heap.SameBut it s.heap h1->IsEnumOut h' e it ((i:Int)+1) x s.heap.objs.size->h'.IsTupleIter it t (i+1)->h'.get? s.heap.objs.size=some { cls:=.type "tuple",data:=.seq #[.int i s.toks,x] } ->
   (∀b o,b≠e->h1.get? b=some o->h'.get? b=some o)->Q (some (.ref s.heap.objs.size)) { s with heap:=h',toks:=s.toks+1 }):wpAny (model prog w) A (pyNext (.ref e)) Q E s:=by
 have hT:s.TypeIs (.ref e) "enumerate":=⟨_,he,rfl⟩
 unfold pyNext
 refine wpAny_bind (wpAny_attempt (wpAny_callSpecial?_slot (name:=Str.ofString "__next__") hT F.slot_enumerate_next (wpAny_call_entry F.slot_enumerate_next hT F.entry_enumerate_next
  (pair_next (St:=λh=>h.IsTupleIter it t (i+1)) he hne (λQ' q'=>inner_item st ht hx λh' st' sb=>q' h' sb st') λh1 h' sb st1 ho hT' kp=>wpAny_pure (q h1 h' sb ho ?_ hT' kp)) (F.args_enumerate_next_1 _))))
 obtain⟨o,x1,x2⟩:=st1
 exact⟨o,kp it o (Ne.symm hne) x1,x2⟩
theorem next_end {e it t:Addr}{i:Nat}{items:Array Value}{old:Value}{Q:Option Value->Shared->Prop}(hh:A.handled=none) (he:IsEnum s.heap e it i old) (st:s.heap.IsTupleIter it t i) (ht:s.heap.IsTuple t items) (hx:items[i]?=none)
  (q:∀h',Heap.ExtBut it s.heap h'->Q none { s with heap:=h' }):wpAny (model prog w) A (pyNext (.ref e)) Q E s:=by
 have hT:s.TypeIs (.ref e) "enumerate":=⟨_,he,rfl⟩
 unfold pyNext
 refine wpAny_bind (wpAny_attempt (wpAny_callSpecial?_slot (name:=Str.ofString "__next__") hT F.slot_enumerate_next (wpAny_call_entry F.slot_enumerate_next hT F.entry_enumerate_next ?_ (F.args_enumerate_next_1 _))))
 show wpAny _ _ (field (.ref e) 2 >>= _) _ _ _
 refine wpAny_bind (wpAny_field he rfl (x:=.ref it) rfl ?_)
 refine wpAny_bind (inner_end hh st ht hx λh' x eb ⟨o,ho,hc⟩=>?_)
 exact wpAny_bind (wpAny_isInstance (T:= "StopIteration") (b:=true) ⟨o,ho,hc⟩ isSubtype_stop (wpAny_pure (q _ eb)))
theorem meets_new (l:Addr) (items:Array Value) (n:Nat) (dct:Option Addr) (sl:Array (Option Value)) :
  Meets (Builtin.«enumerate.__new__» ⟨[.type "enumerate",.ref l],[]⟩) (λ_ R s=>s.heap.get? l=some { cls:=.type "tuple",dict:=dct,data:=.seq items n,slots:=sl } /\
   R (.ok (.ret (.ref (s.heap.push { cls:=.type "tuple_iterator",data:=.fields #[.ref l,.int 0 0] }).objs.size)))
    { s with heap:=(s.heap.push { cls:=.type "tuple_iterator",data:=.fields #[.ref l,.int 0 0] }).push { cls:=.type "enumerate",data:=.fields #[.none,.bool false,.ref s.heap.objs.size,rawInt 0,.none,.none] } }):=
 .of_wp λprog w A R s h=>by
  obtain⟨hp,g,d,tk,os⟩:=s;obtain⟨hl,h⟩:=h
  have f0:=sub_enumerate
  have hL:Heap.IsTuple (Shared.heap ⟨hp,g,d,tk,os⟩) l items:=⟨_,hl,rfl,n,rfl⟩
  wp_walk using AutoSeq1.wpAny_loadPart' hl
  refine wpAny_stack_any λst=>wpAny_pure ?_
  split
  ·rename_i c _ _ _ _ _
   cases (c==Value.type "enumerate")
   all_goals
    wp_walk using AutoSeq1.wpAny_loadPart' hl,wpAny_pyIter_tuple hL
    exact⟨_,rfl,h⟩
  ·wp_walk using AutoSeq1.wpAny_loadPart' hl,wpAny_pyIter_tuple hL
   exact⟨_,rfl,h⟩
theorem call_new {l:Addr}{items:Array Value}{Q:Value->Shared->Prop}(hL:s.heap.IsTuple l items)
  (q:∀h',IsEnum h' (s.heap.objs.size+1) s.heap.objs.size 0 .none->h'.IsTupleIter s.heap.objs.size l 0->(∀b o,s.heap.get? b=some o->h'.get? b=some o)->Q (.ref (s.heap.objs.size+1)) { s with heap:=h' }) :
  wpAny (model prog w) A (call (.type "enumerate") [.ref l]) Q E s:=by
 obtain⟨⟨c,dct,dt,sl⟩,hl,hc,n,hd⟩:=hL
 replace hc:c=.type "tuple":=hc
 replace hd:dt=.seq items n:=hd
 subst hc hd
 refine callType_new F.called_enumerate (by decide) (F.typeCall_enumerate_1 _) (F.newCall_enumerate_1 _) (λobj=>F.args_object_init_2 obj _) F.entry_enumerate_new (meets_new l items n dct sl) ⟨hl,?_⟩
 have z1:(s.heap.push { cls:=.type "tuple_iterator",data:=.fields #[.ref l,.int 0 0] }).objs.size=s.heap.objs.size+1:=Heap.size_push ..
 show _/\_
 rw[z1]
 have he:=Heap.get?_push_size (s.heap.push { cls:=.type "tuple_iterator",data:=.fields #[.ref l,.int 0 0] }) (o:={ cls:=.type "enumerate",data:=.fields #[.none,.bool false,.ref s.heap.objs.size,rawInt 0,.none,.none] }) rfl
 rw[z1] at he
 exact⟨⟨_,he,rfl⟩,q _ he ⟨_,Heap.get?_push_of_some _ (Heap.get?_push_size _ rfl),rfl,rfl⟩ λb o x=>Heap.get?_push_of_some _ (Heap.get?_push_of_some _ x)⟩
end
end EnumT
namespace L2
open PySem PySem.Spec PyProof.Rows
def Ite (K:PySem.W.Frag) (a:Addr):It:=
 ⟨λi H=>∃xs x,SqT K H a xs/\xs[i]?=some x,λi H y H'=>∃p x,H p=none/\(∀xs,SqT K H a xs->xs[i]?=some x)/\H'=upd H p (.tup [.int i,x])/\y=.ref p,λi H=>∃xs,SqT K H a xs/\xs.length<=i⟩
theorem push_lt {h:Heap}{o o':Obj}{b:Addr}(e:(h.push o).get? b=some o') (hlt:b<h.objs.size):h.get? b=some o':=by
 unfold Heap.get? Heap.push at *
 simp only[Array.getElem?_push] at e
 rw[if_neg (Nat.ne_of_lt hlt)] at e
 exact e
theorem turn_enumT {P:Program}{w:World}{K:PySem.W.Frag}{elts:List Expr}{x1:Nat}{tpos:Pos}(a e it:Addr) (hne:e≠it) :
  Turn P w K (.Tuple elts x1 tpos) (Ite K a) [e,it] e (λi h=>(∃old,IsEnum h e it i old)/\h.IsTupleIter it a i) where
 mem:=by simp
 obj:=λi h st b hb=>by
  rcases List.mem_cons.mp hb with rfl|hb
  ·obtain⟨⟨old,z⟩,_⟩:=st
   exact⟨_,z,λv q=>by
    have q':Data.fields _=Data.cell v:=q
    cases q'⟩
  ·have:b=it:=by simpa using hb
   subst this
   obtain⟨_,o,z,_,d⟩:=st
   exact⟨o,z,λv q=>by rw[d] at q;cases q⟩
 keep:=λi h h' st k=>by
  obtain⟨⟨old,z⟩,st2⟩:=st
  exact⟨⟨old,k e (by simp) _ z⟩,st2.at λo q=>k it (by simp) o q⟩
 item:=by
  intro X hP hw hK hc i pins s σ H E I hf st hg
  subst hP hw hK
  obtain⟨⟨old,he⟩,st2⟩:=st
  obtain⟨xs,x,hq,hx⟩:=hg
  obtain⟨its,rv,p,hz⟩:=I.tuple hq
  obtain⟨u,hu,ru⟩:=rv.get hx
  obtain⟨e0,e1,e2,e3,e4,e5⟩:=hf e (by simp)
  obtain⟨f0,f1,f2,f3,f4,f5⟩:=hf it (by simp)
  refine EnumT.next_pair he hne st2 (show s.heap.IsTuple a its.toArray from p) (x:=u) (by simpa using hu) λh1 h' sb ho st3 ht kp=>?_
  refine⟨_,rfl,wpAny_letOwnedTupleGo_enum ho λh2 he2 sb2=>?_⟩
  have elt:e<s.heap.objs.size:=Heap.lt_size he
  have ilt:it<s.heap.objs.size:=by obtain⟨o,z,_⟩:=st2;exact Heap.lt_size z
  have fresh:H s.heap.objs.size=none:=I.hok.fresh (Nat.le_refl _)
  have z1:h1.objs.size=s.heap.objs.size:=sb.1
  have J0:Inv X pins σ (upd H s.heap.objs.size (.tup [.int i,x])) { s with heap:=s.heap.push { cls:=.type "tuple",data:=.seq #[.int i s.toks,u] },toks:=s.toks+1 }:=
   I.laid (λb o q=>Heap.get?_push_of_some _ q) (Nat.le_refl _) ⟨by show 2<=sizeLine;decide,[.int i s.toks,u],.cons ⟨_,rfl⟩ (.cons ru .nil),_,Heap.get?_push_size _ rfl,rfl,⟨_,rfl⟩,rfl⟩
  have ne1:(upd H s.heap.objs.size (.tup [.int i,x])) it=none:=by rw[upd_ne (Nat.ne_of_lt ilt)];exact f0
  have ne2:(upd H s.heap.objs.size (.tup [.int i,x])) e=none:=by rw[upd_ne (Nat.ne_of_lt elt)];exact e0
  have J1:=J0.turned (it:=it) (h':=h1.push { cls:=.type "tuple",data:=.seq #[.int i s.toks,u] }) (t':=s.toks+1) (λb o hb q=>by
    have q:(s.heap.push { cls:=.type "tuple",data:=.seq #[.int i s.toks,u] }).get? b=some o:=q
    by_cases hlt:b<s.heap.objs.size
    ·have q':s.heap.get? b=some o:=push_lt q hlt
     exact Heap.get?_push_of_some _ ((sb.2 b hb).trans q')
    ·have hb2:b<s.heap.objs.size+1:=by have:=Heap.lt_size q;rw[Heap.size_push] at this;exact this
     have eb:b=s.heap.objs.size:=Nat.le_antisymm (Nat.le_of_lt_succ hb2) (Nat.le_of_not_lt hlt)
     subst eb
     rw[Heap.get?_push_size _ rfl] at q
     cases q
     have:=Heap.get?_push_size h1 (o:={ cls:=.type "tuple",data:=.seq #[.int i s.toks,u] }) rfl
     rw[z1] at this
     exact this) ne1 f1 f3 f4 f5
  have J2:=J1.turned (it:=e) (h':=h') (t':=s.toks+1) (λb o hb q=>by
    have q:(h1.push { cls:=.type "tuple",data:=.seq #[.int i s.toks,u] }).get? b=some o:=q
    by_cases hlt:b<s.heap.objs.size
    ·have q':h1.get? b=some o:=push_lt q (by rw[z1];exact hlt)
     exact kp b o hb q'
    ·have hb2:b<s.heap.objs.size+1:=by have:=Heap.lt_size q;rw[Heap.size_push,z1] at this;exact this
     have eb:b=s.heap.objs.size:=Nat.le_antisymm (Nat.le_of_lt_succ hb2) (Nat.le_of_not_lt hlt)
     subst eb
     have:=Heap.get?_push_size h1 (o:={ cls:=.type "tuple",data:=.seq #[.int i s.toks,u] }) rfl
     rw[z1] at this
     rw[this] at q
     cases q
     exact ht) ne2 e1 e3 e4 e5
  have J3:=J2.turned (it:=e) (h':=h2) (t':=s.toks+1) (λb o hb q=>(sb2.2 b hb).trans q) ne2 e1 e3 e4 e5
  refine⟨.ref s.heap.objs.size,_,J3,rfl,⟨_,x,fresh,λys hy=>by rw[I.tuple_inj hy hq];exact hx,rfl,rfl⟩,⟨⟨u,by
   have:(((i+1:Nat)):Int)=(i:Int)+1:=by lia
   rw[this];exact he2⟩,st3.at λo q=>(sb2.2 it (Ne.symm hne)).trans q⟩,λb hb=>?_⟩
  rcases List.mem_cons.mp hb with rfl|hb
  ·exact ne2
  ·have:b=it:=by simpa using hb
   subst this
   exact ne1
 done:=by
  intro X hP hw hK hc i pins s σ H E I hf st hg
  subst hP hw hK
  obtain⟨⟨old,he⟩,st2⟩:=st
  obtain⟨xs,hq,hx⟩:=hg
  obtain⟨its,rv,p,hz⟩:=I.tuple hq
  obtain⟨f0,f1,f2,f3,f4,f5⟩:=hf it (by simp)
  have hl:=rv.length
  exact EnumT.next_end (I.ok.hd hc) he st2 (show s.heap.IsTuple a its.toArray from p) (by simp;lia) λh' eb=>⟨rfl,I.turned (t':=s.toks) (λb o hb e=>eb b o hb e) f0 f1 f3 f4 f5⟩
 self:=λ_ _ _ _ _ st h=>by
  obtain⟨⟨old,he⟩,_⟩:=st
  exact wpAny_pyIter_enum he h
section
variable {X:Cx}{elts:List Expr}{x1:Nat}{tpos:Pos}
def iEnumT (K:PySem.W.Frag) (ta:TA):TI:=λσ H R=>ta σ H λvs H1=>∃a,vs=[.ref a]/\(∃xs,SqT K H1 a xs)/\R (Ite K a) H1
theorem pi_enumT {e:Expr}{ta:TA}{p pos:Pos}(hg:Gl X "enumerate") (hm:X.mg "enumerate" = none) (ha:PA X [e] ta) (hs:starEach [e] X.env=[(false,eval e X.env)]:=by rfl):PI X (.Tuple elts x1 tpos) (.Call (.Name "enumerate" p) [e] [] pos) (iEnumT X.K ta):=by
 intro pins s σ H R I h
 refine Call_ (ld_blt I hg hm PyProof.Rows.boot_enumerate (PyProof.Rows.callWith_type1 (thn (ha pos pins s σ H _ I h) λus s1 ⟨vs,H1,I1,r1,q1⟩=>?_) hs rfl))
 obtain⟨a,rfl,⟨xs,hq⟩,q⟩:=q1
 obtain⟨u,rfl,ru⟩:=vals1 r1
 cases ru
 obtain⟨its,rv,pt,hz⟩:=I1.tuple hq
 refine EnumT.call_new (show s1.heap.IsTuple a its.toArray from pt) λh' he st kp=>?_
 refine wpAny_pyIter_enum he ?_
 have J:Inv X pins σ H1 { s1 with heap:=h' }:=I1.kept (t':=s1.toks) kp
 refine⟨s1.heap.objs.size+1,[s1.heap.objs.size+1,s1.heap.objs.size],_,_,H1,rfl,J,turn_enumT a _ _ (Nat.succ_ne_self _),⟨⟨.none,he⟩,st⟩,λb hb=>?_,q⟩
 rcases List.mem_cons.mp hb with rfl|hb
 ·exact I1.fpOk (Nat.le_succ _) (I1.hok.fresh (Nat.le_succ _))
 ·have:b=s1.heap.objs.size:=by simpa using hb
  subst this
  exact I1.fpOk (Nat.le_refl _) (I1.hok.fresh (Nat.le_refl _))
end
end L2
namespace L2
open PySem PySem.Spec PyProof.Rows
section
variable {X:Cx}
def compCxG (X:Cx) (scope:Scope) (cl:List (Str×Addr)) (C:Addr) (ns:List Str) (fp:List Addr) (s₀:Shared) (H₀:Hp):Cx:=
 { X with N:=ns++X.N,s₀:=s₀,H₀:=H₀,env:=compEnvC scope cl C X.env,outer:=X.stack,stack:=X.stack,ex:=fp,fn:=λ_=>false,pn:=[],xe:=λ_ _=>False }
def tCompG (n:Nat) (wi:TI) (g:TG) (tt:TT) (te:TE):TE:=λσ H Q=>wi σ H λJ H1=>∀D,H1 D=none->∃W:Nat->Nat->List V->Hp->Prop,(∃m,W 0 m [] (upd H1 D (.lst []))) /\
 ∀i m xs H2,W i m xs H2->H2 D=some (.lst xs)/\xs.length<sizeLine/\((J.stop i H2/\Q (.ref D) H2)\/(J.go i H2/\∀y H3,J.yld i H2 y H3->∀os:St,os.length=n ->
  g y (os++σ) H3 λσ4 H4=>tt σ4 H4 λb H5=>if b=true then te σ4 H5 λv H6=>H6 D=some (.lst xs)/\∃m',m'<m/\W (i+1) m' (xs++[v]) (upd H6 D (.lst (xs++[v]))) else ∃m',m'<m/\W (i+1) m' xs H5))
theorem compLoopG {prog:Program}{w:World}{A:Around}{R:Result->Shared->Prop}{s:Shared}{elt target iter:Expr}{ifs:List Expr}{scope:Scope}{pos:Pos}{it acc:Value}{env:Env}(T:Sem Bool)
  (hT:compTurn (.ListComp elt [⟨target,iter,ifs,0⟩] scope pos) 0 it acc env=(standAt iter.pos >>= λ_=>pyNext it >>= λr=>match r with
   |none=>pure (.done .next)
   |some v=>letOwnedTupleGo target it v >>= λ_=>assign target env v >>= λ_=>T >>= λok=>(if ok=true then (eval elt env >>= λx=>call (.builtin "list.append") [acc,x] >>= λ_=>pure ()) else pure ()) >>= λ_=>
     again (.compLoop (.ListComp elt [⟨target,iter,ifs,0⟩] scope pos) 0 it acc env)))
  (I:Nat->Shared->Prop)
  (turn:∀n s,I n s->wpAny (model prog w) A (pyNext it) (λr s₁=>match r with
   |none=>R (.ok .next) s₁
   |some v=>wpAny (model prog w) A (letOwnedTupleGo target it v) (λ_ s₁'=>wpAny (model prog w) A (assign target env v) (λ_ s₂=>wpAny (model prog w) A T (λok s₃=>
     if ok=true then wpAny (model prog w) A (eval elt env) (λx s₄=>wpAny (model prog w) A (call (.builtin "list.append") [acc,x]) (λ_ s₅=>∃m,m<n/\I m s₅) (λ_ _=>False) s₄) (λ_ _=>False) s₃
     else ∃m,m<n/\I m s₃) (λ_ _=>False) s₂) (λ_ _=>False) s₁') (λ_ _=>False) s₁) (λ_ _=>False) s)
  (n:Nat) (h:I n s):codeAny (model prog w) A (.compLoop (.ListComp elt [⟨target,iter,ifs,0⟩] scope pos) 0 it acc env) R s:=by
 refine codeAny_loop rfl I (λn s hI=>?_) n h
 show wpAny _ A ((compTurn (.ListComp elt [⟨target,iter,ifs,0⟩] scope pos) 0 it acc env).onRaise (λx=>do noteFrame x env;theTreesLotGoes x)) _ _ s
 refine wpAny_noted ?_
 rw[hT]
 refine wpAny_bind (wpAny_standAt (wpAny_bind (wpAny_mono (turn n s hI) (λr s₁ h₁=>?_) λ_ _ h'=>h'.elim)))
 cases r with
 |none=>exact wpAny_pure h₁
 |some v=>
  refine wpAny_bind (wpAny_mono h₁ (λ_ s₁' h₁'=>?_) λ_ _ h'=>h'.elim)
  refine wpAny_bind (wpAny_mono h₁' (λ_ s₂ h₂=>wpAny_bind (wpAny_mono h₂ (λok s₃ h₃=>?_) λ_ _ h'=>h'.elim)) λ_ _ h'=>h'.elim)
  cases ok with
  |true=>
   rw[if_pos rfl] at h₃
   simp only[if_true]
   exact wpAny_bind (wpAny_bind (wpAny_mono h₃ (λx s₄ h₄=>wpAny_bind (wpAny_mono h₄ (λ_ s₅ h₅=>wpAny_pure (wpAny_pure ⟨rfl,h₅⟩)) λ_ _ h'=>h'.elim)) λ_ _ h'=>h'.elim))
  |false=>
   rw[if_neg Bool.false_ne_true] at h₃
   simp only[Bool.false_eq_true,if_false]
   exact wpAny_bind (wpAny_pure (wpAny_pure ⟨rfl,h₃⟩))
theorem turn_no (elt target iter:Expr) (scope:Scope) (pos:Pos) (it acc:Value) (env:Env):compTurn (.ListComp elt [⟨target,iter,[],0⟩] scope pos) 0 it acc env=(standAt iter.pos >>= λ_=>pyNext it >>= λr=>match r with
   |none=>pure (.done .next)
   |some v=>letOwnedTupleGo target it v >>= λ_=>assign target env v >>= λ_=>(pure true:Sem Bool) >>= λok=>(if ok=true then (eval elt env >>= λx=>call (.builtin "list.append") [acc,x] >>= λ_=>pure ()) else pure ()) >>= λ_=>
     again (.compLoop (.ListComp elt [⟨target,iter,[],0⟩] scope pos) 0 it acc env)):=by
 rw[compTurn_list1]
 congr 1
theorem turn_one (elt target iter c:Expr) (scope:Scope) (pos:Pos) (it acc:Value) (env:Env):compTurn (.ListComp elt [⟨target,iter,[c],0⟩] scope pos) 0 it acc env=(standAt iter.pos >>= λ_=>pyNext it >>= λr=>match r with
   |none=>pure (.done .next)
   |some v=>letOwnedTupleGo target it v >>= λ_=>assign target env v >>= λ_=>isTrue c env (eval c env) >>= λok=>(if ok=true then (eval elt env >>= λx=>call (.builtin "list.append") [acc,x] >>= λ_=>pure ()) else pure ()) >>= λ_=>
     again (.compLoop (.ListComp elt [⟨target,iter,[c],0⟩] scope pos) 0 it acc env)):=by
 rw[compTurn_list]
 refine bind_congr λ_=>bind_congr λr=>?_
 cases r with
 |none=>rfl
 |some v=>
  refine bind_congr λ_=>bind_congr λ_=>?_
  simp only[List.forIn_cons,List.forIn_nil,if_true,bind_assoc,pure_bind]
  refine bind_congr λok=>?_
  cases ok<;>simp
theorem compG_start {pins:List (Addr×Obj)}{σ:St}{H:Hp}{s:Shared}{h':Heap}{tk:Nat}{scope:Scope}{cl:List (Str×Addr)}{C:Addr}{nn:List Str}{fp:List Addr}{m:Str->Option Value}
  (I:Inv X pins σ H s) (hC:C=s.heap.objs.size) (keep:∀b o,s.heap.get? b=some o->h'.get? b=some o) (ns:h'.Ns C m) (hfp:∀b∈fp,FpOk X pins H b) (hfs:∀b∈fp,b<s.heap.objs.size)
  (hkind:scope.kind=.function) (hcell:∀y∈scope.names,y.2≠.cell) (hloc:∀y∈X.N,scope.names.lookup y≠some .local)
  (hcl1:∀y c,cl.lookup y=some c->X.env.cells.lookup y=some c) (hcl2:∀p∈scope.names,p.2=.free->(cl.lookup p.1).isSome=true)
  (hfr:∀p∈scope.names,p.2=.free->Vis X.env.scope p.1/\X.env.scope.names.lookup p.1≠some .local) :
  Inv (compCxG X scope cl C nn fp s H) [] ((nn.map λ_=>none)++σ) H { s with heap:=h',toks:=tk }:=by
 have cells:∀y c,cl.lookup y=some c->∃v,s.heap.IsCell c v:=λy c e=>I.cell y c (hcl1 y c e)
 have celllt:∀y c,cl.lookup y=some c->c<s.heap.objs.size:=λy c e=>by
  obtain⟨v,q⟩:=cells y c e
  exact q.lt
 have cellk:∀c v,s.heap.IsCell c v->h'.IsCell c v:=λc v ⟨o,e,d⟩=>⟨o,keep c o e,d⟩
 have stkl:∀b∈frs X.stack,∃o,s.heap.get? b=some o:=λb hb=>by
  rcases List.mem_cons.mp (I.stkSub b hb) with e|hb
  ·obtain⟨_,⟨o,_,_,ho,_⟩,_⟩:=I.loc
   exact⟨o,by rw[e];exact ho⟩
  ·obtain⟨_,o,ho,_⟩:=I.funs.mem hb
   exact⟨o,ho⟩
 refine⟨⟨I.ok.mod,hkind,I.ok.glob,I.ok.blt,Nat.le_of_eq hC.symm,λy z c h1 h2=>I.ok.inj y z c (hcl1 y c h1) (hcl1 z c h2),λy hy=>?_,λy c h _=>Bool.noConfusion h,I.ok.hd,I.ok.frames,.inl rfl,λb hb=>⟨?_,λy c e z=>?_⟩,I.bs,
  Nat.le_trans I.ok.bsz I.sz,λb o e hb=>?_,λb hb hf=>?_,I.stack,I.stkFree⟩,rfl,I.bare,Un.kept keep,⟨m,ns,λi y v h1 h2 h3=>?_⟩,λy c e=>?_,?_,λy c e=>?_,λp hp=>absurd hp (by simp[compCxG]),I.hok.kept keep,?_⟩
 ·
  have hy:(relabel scope X.env).names.lookup y=some .cell\/(relabel scope X.env).names.lookup y=some .free:=hy
  obtain⟨p,hp,e1,e2⟩:∃p∈scope.names,p.1=y/\p.2=.free:=by
   rcases hy with hy|hy
   ·exact relabel_vis hy hcell (.inl rfl)
   ·exact relabel_vis hy hcell (.inr rfl)
  obtain⟨c,e⟩:=Option.isSome_iff_exists.mp (hcl2 p hp e2)
  exact⟨c,by rw[<- e1];exact e⟩
 ·show b≠C
  rw[hC];exact Nat.ne_of_lt (hfs b hb)
 ·exact (hfp b hb).2.2.2.2.1 y c (hcl1 y c e) z
 ·rcases (hfp b hb).2.2.2.1 with z|z
  ·exact I.ok.noex b o e z
  ·exact absurd (Nat.lt_of_lt_of_le (Heap.lt_size (I.ok.bs b o e).1) z) (Nat.lt_irrefl _)
 ·rcases List.mem_cons.mp (I.stkSub b hf) with z|z
  ·exact (hfp b hb).2.1 z
  ·exact (hfp b hb).2.2.1 z
 ·
  by_cases hin:i<nn.length
  ·rw[List.getElem?_append_left (by simpa using hin)] at h2
   simp at h2
  ·obtain⟨j,rfl⟩:∃j,i=nn.length+j:=⟨i-nn.length,by lia⟩
   have h1:X.N[j]?=some y:=by
    have h1:(nn++X.N)[nn.length+j]?=some y:=h1
    rw[List.getElem?_append_right (Nat.le_add_right _ _),Nat.add_sub_cancel_left] at h1
    exact h1
   have h2:σ[j]?=some (some v):=by
    rw[List.getElem?_append_right (by simp)] at h2
    simpa using h2
   have h3:(relabel scope X.env).names.lookup y=some .local\/(relabel scope X.env).names.lookup y=some .cell\/(relabel scope X.env).names.lookup y=some .free:=h3
   rcases h3 with h3|h3
   ·exact absurd (relabel_local h3) (hloc y (List.mem_of_getElem? h1))
   ·obtain⟨p,hp,e1,e2⟩:∃p∈scope.names,p.1=y/\p.2=.free:=by
     rcases h3 with h3|h3
     ·exact relabel_vis h3 hcell (.inl rfl)
     ·exact relabel_vis h3 hcell (.inr rfl)
    obtain⟨hv,hnl⟩:=hfr p hp e2
    rw[e1] at hv hnl
    obtain⟨m0,_,hl0⟩:=I.loc
    obtain⟨u,ru,lk⟩:=hl0 j y v h1 h2 hv
    rcases lk with ⟨lk,_⟩|⟨_,c,hc,hcv⟩
    ·exact absurd lk hnl
    ·obtain⟨c',e'⟩:=Option.isSome_iff_exists.mp (hcl2 p hp e2)
     rw[e1] at e'
     have:=hcl1 y c' e'
     rw[hc] at this
     cases this
     refine⟨u,ru,.inr ⟨h3,c,e',cellk c _ hcv⟩⟩
 ·obtain⟨v,q⟩:=cells y c e
  exact⟨v,cellk c v q⟩
 ·show H C=none
  exact I.hok.fresh (Nat.le_of_eq hC.symm)
 ·exact I.freeC y c (hcl1 y c e)
 ·show ((nn.map λ_=>none)++σ).length=(nn++X.N).length
  simp[I.len]
theorem compG_end {pins:List (Addr×Obj)}{σ σ':St}{H H':Hp}{s s':Shared}{h':Heap}{scope:Scope}{cl:List (Str×Addr)}{C:Addr}{nn:List Str}{fp:List Addr}
  (I:Inv X pins σ H s) (hC:C=s.heap.objs.size) (hfp:∀b∈fp,FpOk X pins H b) (J:Inv (compCxG X scope cl C nn fp s H) [] σ' H' s') (sb:Heap.SameBut C s'.heap h'):Inv X pins σ H' { s' with heap:=h' }:=by
 have ne:∀b o,s.heap.get? b=some o->b≠C:=λb o e=>by rw[hC];exact Nat.ne_of_lt (Heap.lt_size e)
 have B:Un (frs X.stack) fp H H' s.heap s'.heap:=J.base
 have U:Un (frs X.stack) fp H H' s.heap h':=
  ⟨λb o e n hb hx=>(sb.2 b (ne b o e)).trans (B.keep b o e n hb hx),λb o e n hb hx=>by
   obtain⟨sl,q⟩:=B.slot b o e n hb hx
   exact⟨sl,(sb.2 b (ne b o e)).trans q⟩,B.free,λb o e hx=>by
   obtain⟨o',q⟩:=B.there b o e hx
   exact⟨o',(sb.2 b (ne b o e)).trans q⟩,B.tups,B.frzs,B.tbls⟩
 have hf:H' C=none:=J.free
 have K:HOk X.prog X.w H' h':=λb o e=>(J.hok b o e).stay (λc u hc q=>(sb.2 c (by
  rintro rfl
  rcases hc with z|z
  ·rw[z,e] at hf;cases hf
  ·rw[hf] at z;cases z)).trans q) (λ_ q=>q) λ_ _ q=>q
 refine I.call' (s':={ s' with heap:=h' }) (ch:=fp) J.os U K J.bare λb hb=>?_
 obtain⟨_,h2,_,h4,h5,h6⟩:=hfp b hb
 exact⟨h4,h2,h5,h6⟩
end
end L2
namespace L2
open PySem PySem.Spec PyProof.Rows
section
variable {X:Cx}
theorem pe_compG {nn:List Str}{tg:Expr}{ifs:List Expr}{pos:Pos}{elt iter:Expr}{scope:Scope}{wi:TI}{g:TG}{tt:TT}{te:TE}(T:Env->Sem Bool) (hc:X.calm=true) (hi:PI X tg iter wi)
  (hturn:∀it acc env,compTurn (.ListComp elt [⟨tg,iter,ifs,0⟩] scope pos) 0 it acc env=(standAt iter.pos >>= λ_=>pyNext it >>= λr=>match r with
   |none=>pure (.done .next)
   |some v=>letOwnedTupleGo tg it v >>= λ_=>assign tg env v >>= λ_=>T env >>= λok=>(if ok=true then (eval elt env >>= λx=>call (.builtin "list.append") [acc,x] >>= λ_=>pure ()) else pure ()) >>= λ_=>
     again (.compLoop (.ListComp elt [⟨tg,iter,ifs,0⟩] scope pos) 0 it acc env)))
  (hgt:∀cl C fp s₀ H₀,PG (compCxG X scope cl C nn fp s₀ H₀) tg g)
  (hloc2:∀y (os σ:St) H R,os.length=nn.length->g y (os++σ) H R->g y (os++σ) H λσ' H'=>(∃os':St,os'.length=nn.length/\σ'=os'++σ)/\R σ' H')
  (htt:∀cl C fp s₀ H₀ (pins:List (Addr×Obj)) (s:Shared) (σ:St) (H:Hp) (Q:Bool->Hp->Prop),Inv (compCxG X scope cl C nn fp s₀ H₀) pins σ H s->tt σ H Q->wpAny (model X.prog X.w) X.A (T (compEnvC scope cl C X.env)) (TP (compCxG X scope cl C nn fp s₀ H₀) pins σ Q) (λ_ _=>False) s)
  (he:∀cl C fp s₀ H₀,PE (compCxG X scope cl C nn fp s₀ H₀) elt te)
  (hkind:scope.kind=.function) (hcell:∀y∈scope.names,y.2≠.cell) (hnames:∀y∈scope.names,y.2=.local->scope.names.lookup y.1=some .local)
  (hloc:∀y∈X.N,scope.names.lookup y≠some .local) (hfr:∀p∈scope.names,p.2=.free->Vis X.env.scope p.1/\X.env.scope.names.lookup p.1≠some .local)
  (hs:∀x,foldedSetIterable iter X.env x=pure x):PE X (.ListComp elt [⟨tg,iter,ifs,0⟩] scope pos) (tCompG nn.length wi g tt te):=by
 intro pins s σ H Q I h
 rw[eval_ListComp]
 obtain⟨cl,hclos,hcl1,hcl2⟩:=closureFor_some (scope:=scope) (env:=X.env) (λp hp hk=>by
  obtain⟨hv,hn⟩:=hfr p hp hk
  refine I.ok.has p.1 ?_
  rcases hv with z|z
  ·exact absurd z hn
  ·exact z)
 refine wpAny_comprehension_free (use:=none) rfl hs hclos hkind hnames (thn (hi pins s σ H _ I h) λv s1 h1=>thn h1 λitv s2 h2=>?_)
 obtain⟨it,fp,tn,J,H2,rfl,I2,T',st2,f2,q⟩:=h2
 have hD:H2 s2.heap.objs.size=none:=I2.hok.fresh (Nat.le_refl _)
 obtain⟨W,⟨m0,w0⟩,turn⟩:=q _ hD
 refine wpAny_newObj_type (wpAny_newFunctionEnv hcell (by intro y hy;simp at hy) (λh₁ hns₁ hsb₁=>?_) hkind)
 dsimp only at hns₁ hsb₁ ⊢
 have I3:Inv X pins σ (upd H2 s2.heap.objs.size (.lst [])) { s2 with heap:=s2.heap.push { cls:=.type "list",dict:=none,data:=.seq ([]:List Value).toArray } }:=
  I2.laid (t':=s2.toks) (λb u e=>Heap.get?_push_of_some _ e) (Nat.le_refl _) ⟨Nat.zero_le _,[],0,.nil,Heap.get?_push_size _ rfl⟩
 have fpn:∀b∈fp,b≠s2.heap.objs.size:=λb hb=>by
  obtain⟨o,e,_⟩:=T'.obj 0 s2.heap st2 b hb
  exact Nat.ne_of_lt (Heap.lt_size e)
 have fplt:∀b∈fp,b<(s2.heap.push { cls:=.type "list",dict:=none,data:=.seq ([]:List Value).toArray }).objs.size:=λb hb=>by
  obtain⟨o,e,_⟩:=T'.obj 0 s2.heap st2 b hb
  rw[Heap.size_push];exact Nat.lt_succ_of_lt (Heap.lt_size e)
 have f3:∀b∈fp,FpOk X pins (upd H2 s2.heap.objs.size (.lst [])) b:=λb hb=>⟨by rw[upd_ne (fpn b hb)];exact (f2 b hb).1,(f2 b hb).2⟩
 generalize hg2:s2.heap.push { cls:=.type "list",dict:=none,data:=.seq ([]:List Value).toArray }=g2 at hns₁ hsb₁ I3 fplt ⊢
 have keep:∀b o,g2.get? b=some o->h₁.get? b=some o:=λb o e=>(hsb₁.2 b (Nat.ne_of_lt (Heap.lt_size e))).trans (Heap.get?_push_of_some _ e)
 have J0:=compG_start (nn:=nn) (tk:=s2.toks+([]:List (Str×Value)).length) I3 (C:=g2.objs.size) rfl keep hns₁ f3 fplt hkind hcell hloc hcl1 hcl2 hfr
 generalize hY:compCxG X scope cl g2.objs.size nn fp { s2 with heap:=g2 } (upd H2 s2.heap.objs.size (.lst []))=Y at J0
 have eY:PE Y elt te:=by rw[<- hY];exact he _ _ _ _ _
 have eG:PG Y tg g:=by rw[<- hY];exact hgt _ _ _ _ _
 have eT:∀(pins:List (Addr×Obj)) (s:Shared) (σ:St) (H:Hp) (Q:Bool->Hp->Prop),Inv Y pins σ H s->tt σ H Q->wpAny (model Y.prog Y.w) Y.A (T Y.env) (TP Y pins σ Q) Y.xe s:=by rw[<- hY];exact htt _ _ _ _ _
 have eP:Y.prog=X.prog:=by rw[<- hY];rfl
 have eW:Y.w=X.w:=by rw[<- hY];rfl
 have eK:Y.K=X.K:=by rw[<- hY];rfl
 have eA:Y.A=X.A:=by rw[<- hY];rfl
 have eC:Y.calm=true:=by rw[<- hY];exact hc
 have eE:Y.env=compEnvC scope cl g2.objs.size X.env:=by rw[<- hY];rfl
 have eX:Y.xe=λ_ _=>False:=by rw[<- hY];rfl
 have eN:Y.N=nn++X.N:=by rw[<- hY];rfl
 have eEx:Y.ex=fp:=by rw[<- hY];rfl
 have eFs:Y.fs=frs X.stack:=by rw[<- hY];rfl
 have ePn:Y.pn=[]:=by rw[<- hY];rfl
 have fpY:∀{H':Hp},(∀b∈fp,H' b=none)->∀b∈fp,FpOk Y [] H' b:=λhn b hb=>by
  have g:=f3 b hb
  refine⟨hn b hb,?_,?_,.inl (by rw[eEx];exact hb),?_,λp hp=>absurd hp (by rw[ePn];simp)⟩
  ·rw[eE];exact Nat.ne_of_lt (fplt b hb)
  ·rw[eFs]
   intro z
   rcases List.mem_cons.mp (I3.stkSub b z) with z|z
   ·exact g.2.1 z
   ·exact g.2.2.1 z
  ·rw[eE]
   exact λy c e=>g.2.2.2.2.1 y c (hcl1 y c e)
 have loop:∀s₃:Shared,s₃={ s2 with heap:=h₁,toks:=s2.toks+([]:List (Str×Value)).length } ->
   codeAny (model X.prog X.w) X.A (.compLoop (.ListComp elt [⟨tg,iter,ifs,0⟩] scope pos) 0 (.ref it) (.ref s2.heap.objs.size) (compEnvC scope cl g2.objs.size X.env))
    (compPost (model X.prog X.w) X.A X.xe none (EP X pins σ Q) (.ref s2.heap.objs.size) g2.objs.size) s₃:=by
  rintro s₃ rfl
  refine compLoopG (T (compEnvC scope cl g2.objs.size X.env)) (hturn _ _ _) (λn s'=>∃i xs H' os,os.length=nn.length/\Inv Y [] (os++σ) H' s'/\tn i s'.heap/\(∀b∈fp,H' b=none)/\W i n xs H') ?_ m0
   ⟨0,[],_,nn.map λ_=>none,by simp,J0,T'.keep 0 _ _ st2 (λb hb o e=>keep b o (by rw[<- hg2];exact Heap.get?_push_of_some _ e)),λb hb=>(f3 b hb).1,w0⟩
  rintro n s3 ⟨i,xs,H3,os,hos,I4,st3,fr3,w3⟩
  obtain⟨hDx,hlx,alt⟩:=turn i n xs H3 w3
  rcases alt with ⟨stop,qn⟩|⟨go,step⟩
  ·have D1:=T'.done Y eP eW eK eC i [] s3 _ H3 (λ_ _=>False) I4 (fpY fr3) st3 stop
   rw[eA] at D1
   refine thn D1 λr s4 ⟨hr,I5⟩=>?_
   subst hr
   obtain⟨m4,hns4,_⟩:=id I5.loc
   rw[eE] at hns4
   refine⟨m4,hns4,λh' sb=>⟨.ref _,H3,?_,rfl,qn⟩⟩
   rw[<- hY] at I5
   exact compG_end I3 rfl f3 I5 sb
  ·have G1:=T'.item Y eP eW eK eC i [] s3 _ H3 (λ_ _=>False) I4 (fpY fr3) st3 go
   rw[eA] at G1
   refine thn G1 λr s4 ⟨u,hr,h4⟩=>?_
   subst hr
   refine thn h4 λ_ s5 ⟨y,H5,I5,r5,y5,st5,fr5⟩=>?_
   have I5':=I5.pinned (fpY fr5) (T'.obj _ _ st5)
   have S1:=eG _ s5 _ H5 y u _ I5' r5 (hloc2 y os σ H5 _ hos (step y _ y5 os hos))
   rw[eP,eW,eA,eE,eX] at S1
   refine thn S1 λ_ s6 ⟨σ6,H6,I6,⟨os6,hos6,e6⟩,q6⟩=>?_
   subst e6
   have S2:=eT _ s6 _ _ _ I6 q6
   rw[eP,eW,eA,eE,eX] at S2
   refine thn S2 λok s7 ⟨H7,I7,q7⟩=>?_
   have back:∀{s9:Shared}{H9:Hp}{m':Nat}{zs:List V},Inv Y ([]++pinsAt fp s5.heap) (os6++σ) H9 s9->m'<n->W (i+1) m' zs H9->∃m,m<n/\∃i xs H' os,os.length=nn.length/\Inv Y [] (os++σ) H' s9/\tn i s9.heap/\(∀b∈fp,H' b=none)/\W i m xs H':=λ{s9 H9 m' zs} I9 hm' w9=>by
    have pin:∀b∈fp,∀ob,s5.heap.get? b=some ob->s9.heap.get? b=some ob/\H9 b=none:=λb hb ob e=>by
     have z:=I9.pin (b,ob) (List.mem_append_right _ (List.mem_append_right _ (mem_pinsAt hb e)))
     exact⟨z.1,z.2.1⟩
    refine⟨m',hm',i+1,zs,H9,os6,hos6,I9.unpinned,T'.keep _ _ _ st5 (λb hb ob e=>(pin b hb ob e).1),λb hb=>?_,w9⟩
    obtain⟨ob,e,_⟩:=T'.obj _ _ st5 b hb
    exact (pin b hb ob e).2
   cases ok with
   |true=>
    rw[if_pos rfl] at q7
    rw[if_pos rfl]
    have S3:=eY _ s7 _ _ _ I7 q7
    rw[eP,eW,eA,eE,eX] at S3
    refine thn S3 λxv s8 ⟨v8,H8,I8,r8,hD8,m',hm',w8⟩=>?_
    have S4:=mt_append (X:=Y) _ s8 _ H8 (.ref s2.heap.objs.size) [v8] (.ref s2.heap.objs.size) [xv] (λ_ H9=>H9=upd H8 s2.heap.objs.size (.lst (xs++[v8]))) I8 rfl (.cons r8 .nil) ⟨_,xs,v8,rfl,rfl,hD8,hlx,rfl⟩
    rw[eP,eW,eA,eX] at S4
    refine thn S4 λ_ s9 ⟨v9,H9,I9,_,e9⟩=>?_
    subst e9
    exact back I9 hm' w8
   |false=>
    rw[if_neg Bool.false_ne_true] at q7
    rw[if_neg Bool.false_ne_true]
    obtain⟨m',hm',w8⟩:=q7
    exact back I7 hm' w8
 exact codeAny_compStart_list (loop _ rfl) (T'.self _ 0 _ _ _ (T'.keep 0 _ _ st2 (λb hb o e=>keep b o (by rw[<- hg2];exact Heap.get?_push_of_some _ e))) (loop _ rfl))
theorem scopes_ok {scope sc:Scope}{N:List Str}(hNe:X.N=N) (hsc:X.env.scope=sc)
  (hcell:scope.names.all (λy=>y.2 != .cell)=true) (hnames:scope.names.all (λy=>y.2 != .local||scope.names.lookup y.1==some .local)=true) (hloc:N.all (λy=>scope.names.lookup y != some .local)=true)
  (hfr:scope.names.all (λp=>p.2 != .free||(sc.names.lookup p.1==some .cell||sc.names.lookup p.1==some .free))=true) :
  (∀y∈scope.names,y.2≠.cell)/\(∀y∈scope.names,y.2=.local->scope.names.lookup y.1=some .local)/\(∀y∈X.N,scope.names.lookup y≠some .local)/\(∀p∈scope.names,p.2=.free->Vis X.env.scope p.1/\X.env.scope.names.lookup p.1≠some .local):=by
 refine⟨λy hy=>?_,λy hy hl=>?_,λy hy=>?_,λp hp hk=>?_⟩
 ·have:=List.all_eq_true.mp hcell y hy
  simpa using this
 ·have:=List.all_eq_true.mp hnames y hy
  simpa [hl] using this
 ·have:=List.all_eq_true.mp hloc y (by rw[<- hNe];exact hy)
  simpa using this
 ·have:=List.all_eq_true.mp hfr p hp
  rw[hk] at this
  have z:sc.names.lookup p.1=some .cell\/sc.names.lookup p.1=some .free:=by simpa using this
  rw[hsc]
  refine⟨.inr z,λq=>?_⟩
  rcases z with z|z<;>(rw[z] at q;cases q)
theorem loc1 {y:V}{os σ:St}{H:Hp}{R:St->Hp->Prop}(ho:os.length=1) (h:gName 0 y (os++σ) H R):gName 0 y (os++σ) H λσ' H'=>(∃os':St,os'.length=1/\σ'=os'++σ)/\R σ' H':=by
 match os,ho with
 |[o],_=>exact⟨⟨[some y],rfl,rfl⟩,h⟩
theorem loc2 {K:PySem.W.Frag}{y:V}{os σ:St}{H:Hp}{R:St->Hp->Prop}(ho:os.length=2) (h:gTup K 2 (gCons (gName 0) (gCons (gName 1) gNil)) y (os++σ) H R) :
  gTup K 2 (gCons (gName 0) (gCons (gName 1) gNil)) y (os++σ) H λσ' H'=>(∃os':St,os'.length=2/\σ'=os'++σ)/\R σ' H':=by
 match os,ho with
 |[o1,o2],_=>
  obtain⟨a,xs,e1,e2,e3,v,r,e4,v2,r2,e5,e6,q⟩:=h
  exact⟨a,xs,e1,e2,e3,v,r,e4,v2,r2,e5,e6,⟨[some v,some v2],rfl,rfl⟩,q⟩
theorem pe_compIf {x:Str}{px pos:Pos}{elt iter c:Expr}{scope:Scope}{wi:TI}{tt:TT}{te:TE}(N:List Str) (sc:Scope) (hNe:X.N=N) (hsc:X.env.scope=sc) (hc:X.calm=true) (hN:X.N.Nodup) (hi:PI X (.Name x px) iter wi)
  (ht:∀cl C fp s₀ H₀,PT (compCxG X scope cl C [x] fp s₀ H₀) c tt) (he:∀cl C fp s₀ H₀,PE (compCxG X scope cl C [x] fp s₀ H₀) elt te)
  (hkind:scope.kind=.function:=by rfl) (hcell:scope.names.all (λy=>y.2 != .cell)=true:=by decide +kernel) (hnames:scope.names.all (λy=>y.2 != .local||scope.names.lookup y.1==some .local)=true:=by decide +kernel)
  (hx:scope.names.lookup x=some .local:=by rfl) (hloc:N.all (λy=>scope.names.lookup y != some .local)=true:=by decide +kernel)
  (hfr:scope.names.all (λp=>p.2 != .free||(sc.names.lookup p.1==some .cell||sc.names.lookup p.1==some .free))=true:=by decide +kernel)
  (hs:∀x,foldedSetIterable iter X.env x=pure x:=by intro _;rfl):PE X (.ListComp elt [⟨.Name x px,iter,[c],0⟩] scope pos) (tCompG 1 wi (gName 0) tt te):=by
 obtain⟨s1,s2,s3,s4⟩:=scopes_ok hNe hsc hcell hnames hloc hfr
 refine pe_compG (nn:=[x]) (λenv=>isTrue c env (eval c env)) hc hi (λit acc env=>turn_one elt _ iter c scope pos it acc env) (λcl C fp s₀ H₀=>?_) (λy os σ H R ho h=>loc1 ho h) (λcl C fp s₀ H₀ pins s σ H Q I h=>ht cl C fp s₀ H₀ pins s σ H Q I h) he hkind s1 s2 s3 s4 hs
 have l:(compCxG X scope cl C [x] fp s₀ H₀).env.scope.names.lookup x=some .local:=lookup_relabel_local hx
 exact pg_name (i:=0) (List.nodup_cons.mpr ⟨λz=>s3 x z hx,hN⟩) rfl (.inl l) (.inr l)
theorem gpair {x y:Str}{p1 p2 tpos:Pos}{k:Nat}{scope:Scope}{cl:List (Str×Addr)}{C:Addr}{fp:List Addr}{s₀:Shared}{H₀:Hp}(hc:X.calm=true) (hN:X.N.Nodup) (hxy:x≠y) (s3:∀z∈X.N,scope.names.lookup z≠some .local) (hx:scope.names.lookup x=some .local) (hy:scope.names.lookup y=some .local) :
  PG (compCxG X scope cl C [x,y] fp s₀ H₀) (.Tuple [.Name x p1,.Name y p2] k tpos) (gTup X.K 2 (gCons (gName 0) (gCons (gName 1) gNil))):=by
 have lx:(compCxG X scope cl C [x,y] fp s₀ H₀).env.scope.names.lookup x=some .local:=lookup_relabel_local hx
 have ly:(compCxG X scope cl C [x,y] fp s₀ H₀).env.scope.names.lookup y=some .local:=lookup_relabel_local hy
 have nd:(compCxG X scope cl C [x,y] fp s₀ H₀).N.Nodup:=List.nodup_cons.mpr ⟨λz=>by
  rcases List.mem_cons.mp z with z|z
  ·exact hxy z
  ·exact s3 x z hx,List.nodup_cons.mpr ⟨λz=>s3 y z hy,hN⟩⟩
 exact pg_tup (X:=compCxG X scope cl C [x,y] fp s₀ H₀) hc (pgs_cons (pg_name (i:=0) nd rfl (.inl lx) (.inr lx)) (pgs_cons (pg_name (i:=1) nd rfl (.inl ly) (.inr ly)) pgs_nil))
def ttYes:TT:=λ_ H Q=>Q true H
theorem pe_comp2 {x y:Str}{p1 p2 tpos pos:Pos}{k:Nat}{elt iter:Expr}{scope:Scope}{wi:TI}{te:TE}(N:List Str) (sc:Scope) (hNe:X.N=N) (hsc:X.env.scope=sc) (hc:X.calm=true) (hN:X.N.Nodup) (hi:PI X (.Tuple [.Name x p1,.Name y p2] k tpos) iter wi)
  (he:∀cl C fp s₀ H₀,PE (compCxG X scope cl C [x,y] fp s₀ H₀) elt te) (hxy:x≠y:=by decide)
  (hkind:scope.kind=.function:=by rfl) (hcell:scope.names.all (λy=>y.2 != .cell)=true:=by decide +kernel) (hnames:scope.names.all (λy=>y.2 != .local||scope.names.lookup y.1==some .local)=true:=by decide +kernel)
  (hx:scope.names.lookup x=some .local:=by rfl) (hy:scope.names.lookup y=some .local:=by rfl) (hloc:N.all (λy=>scope.names.lookup y != some .local)=true:=by decide +kernel)
  (hfr:scope.names.all (λp=>p.2 != .free||(sc.names.lookup p.1==some .cell||sc.names.lookup p.1==some .free))=true:=by decide +kernel)
  (hs:∀x,foldedSetIterable iter X.env x=pure x:=by intro _;rfl):PE X (.ListComp elt [⟨.Tuple [.Name x p1,.Name y p2] k tpos,iter,[],0⟩] scope pos) (tCompG 2 wi (gTup X.K 2 (gCons (gName 0) (gCons (gName 1) gNil))) ttYes te):=by
 obtain⟨s1,s2,s3,s4⟩:=scopes_ok hNe hsc hcell hnames hloc hfr
 exact pe_compG (nn:=[x,y]) (λ_=>pure true) hc hi (λit acc env=>turn_no elt _ iter scope pos it acc env) (λcl C fp s₀ H₀=>gpair hc hN hxy s3 hx hy) (λy os σ H R ho h=>loc2 ho h) (λcl C fp s₀ H₀ pins s σ H Q I h=>wpAny_pure ⟨H,I,h⟩) he hkind s1 s2 s3 s4 hs
theorem pe_comp2If {x y:Str}{p1 p2 tpos pos:Pos}{k:Nat}{elt iter c:Expr}{scope:Scope}{wi:TI}{tt:TT}{te:TE}(N:List Str) (sc:Scope) (hNe:X.N=N) (hsc:X.env.scope=sc) (hc:X.calm=true) (hN:X.N.Nodup) (hi:PI X (.Tuple [.Name x p1,.Name y p2] k tpos) iter wi)
  (ht:∀cl C fp s₀ H₀,PT (compCxG X scope cl C [x,y] fp s₀ H₀) c tt) (he:∀cl C fp s₀ H₀,PE (compCxG X scope cl C [x,y] fp s₀ H₀) elt te) (hxy:x≠y:=by decide)
  (hkind:scope.kind=.function:=by rfl) (hcell:scope.names.all (λy=>y.2 != .cell)=true:=by decide +kernel) (hnames:scope.names.all (λy=>y.2 != .local||scope.names.lookup y.1==some .local)=true:=by decide +kernel)
  (hx:scope.names.lookup x=some .local:=by rfl) (hy:scope.names.lookup y=some .local:=by rfl) (hloc:N.all (λy=>scope.names.lookup y != some .local)=true:=by decide +kernel)
  (hfr:scope.names.all (λp=>p.2 != .free||(sc.names.lookup p.1==some .cell||sc.names.lookup p.1==some .free))=true:=by decide +kernel)
  (hs:∀x,foldedSetIterable iter X.env x=pure x:=by intro _;rfl):PE X (.ListComp elt [⟨.Tuple [.Name x p1,.Name y p2] k tpos,iter,[c],0⟩] scope pos) (tCompG 2 wi (gTup X.K 2 (gCons (gName 0) (gCons (gName 1) gNil))) tt te):=by
 obtain⟨s1,s2,s3,s4⟩:=scopes_ok hNe hsc hcell hnames hloc hfr
 exact pe_compG (nn:=[x,y]) (λenv=>isTrue c env (eval c env)) hc hi (λit acc env=>turn_one elt _ iter c scope pos it acc env) (λcl C fp s₀ H₀=>gpair hc hN hxy s3 hx hy) (λy os σ H R ho h=>loc2 ho h) (λcl C fp s₀ H₀ pins s σ H Q I h=>ht cl C fp s₀ H₀ pins s σ H Q I h) he hkind s1 s2 s3 s4 hs
end
end L2
namespace L2
open PySem PySem.Spec PyProof.Rows PySem.W PySem.Builtin PySem.Builtin.ObjectAttr PySem.Builtin.Getset_descriptor
section
variable {prog:Program}{w:World}{A:Around}{E:Value->Shared->Prop}{s:Shared}{K:Frag}{x C:Addr}
def ExcAt (x C:Addr) (h:Heap):Prop:=∃ox vs,h.get? x=some ox/\ox.cls=.ref C/\ox.data=.fields vs/\vs[2]?=some .none
theorem ExcAt.type {M:Model}{h:Heap}(I:ExcAt x C h):Looks M h (typeOf (.ref x)) (.ref C):=by
 obtain⟨ox,_,h1,h2,_⟩:=I
 have z:=(Looks.ld (M:=M) (part:=none) h1).andThen (f:=λo=>pure o.cls) (Looks.now (a:=ox.cls))
 rw[h2] at z
 exact z
theorem exc_get {tp:Value}{R:Result->Shared->Prop}(X:K.In s.heap) (I:ExcAt x C s.heap) (hm:mroIn K C (.type "object")=some true) (h:R (.ok (.ret (.ref C))) s) :
  codeAny (model prog w) A (.call (.builtin "getset_descriptor.__get__") ⟨[.builtin "object.__class__",.ref x,tp],[]⟩) R s:=by
 obtain⟨h1,g1,d1,t1,o1⟩:=s
 have Lt:=I.type (M:=model prog w)
 have Lm:=looks_mroIn (M:=model prog w) X hm
 refine codeAny_call_builtin KF.slot_gs.plain KF.entry_gs ?_
 refine KF.slot_gs.check _ _ _ _ _ _ _ _ KF.type_class (KF.args_gs _ _ _) ?_
 unfold Builtin.«getset_descriptor.__get__» descrGet
 rw[dga_obj]
 refine wpAny_bind (wpAny_pure ?_)
 unfold descrGetter descrCheckInstance descrNameAndClass isInstance
 simp only[KF.owner_class]
 repeat lk
 refine⟨Code.quiet_builtin _ (by decide +kernel),codeAny_builtin KF.entry_class ?_⟩
 unfold Builtin.«object.__class__» shownTypeOf
 repeat lk
 exact h
theorem exc_entry {tk:Tok}{Q:Fin->Shared->Prop}(X:K.In s.heap) (I:ExcAt x C s.heap)
  (ha:findIn K (.ref C) "__class__" = some (some (.builtin "object.__class__"))) (hn:specialIn K (.builtin "object.__class__") "__get__" = some (some (.builtin "getset_descriptor.__get__"))) (htk:takesIn K (.builtin "object.__class__")=some true)
  (hm:mroIn K C (.type "object")=some true) (hc:(clsIn K C).isSome=true) (h:Q (.done (.ret (.ref C))) s):wpAny (model prog w) A (Builtin.«object.__getattribute__» ⟨[.ref x,.str "__class__" tk],[]⟩) Q E s:=by
 obtain⟨hh,g,d,t,os⟩:=s
 have L0:=I.type (M:=model prog w)
 have L4:Looks (model prog w) hh (Builtin.ObjectAttr.find (.ref x) (.ref C) "__class__") (Builtin.ObjectAttr.Found.bind (.builtin "getset_descriptor.__get__") (.builtin "object.__class__")):=by
  have y1:=looks_findIn (M:=model prog w) X ha
  have y2:Looks (model prog w) hh (Builtin.ObjectAttr.getOf (some (.builtin "object.__class__"))) (some (.builtin "getset_descriptor.__get__")):=looks_specialIn X hn
  have y3:=looks_takesIn (M:=model prog w) X htk
  have y4:Looks (model prog w) hh (Builtin.ObjectAttr.dataDescriptor? (some (.builtin "object.__class__")) (some (.builtin "getset_descriptor.__get__"))) (some (.builtin "getset_descriptor.__get__",.builtin "object.__class__")):=y3.andThen .now
  exact y1.andThen (y2.andThen (y4.andThen (Looks.tag .now)))
 unfold Builtin.«object.__getattribute__»
 repeat (first|with_reducible refine L0.at ?_|with_reducible refine L4.at ?_|wp_step)
 refine exc_get X I hm ?_
 repeat (any_goals (first|assumption|wp_step))
theorem exc_check {M:Model}{nameV:Value}{P:Unit->Shared->Prop}(X:K.In s.heap) (I:ExcAt x C s.heap) (hb:mroIn K C (.type "BaseException")=some true) (h:P () s) :
  wpAny M A (checkBuiltinCall "BaseException.__getattribute__" ⟨[.ref x,nameV],[]⟩) P E s:=by
 have hk:builtinKind "BaseException.__getattribute__" = some .slot:=by decide +kernel
 have hsplit:splitId "BaseException.__getattribute__" = some ("BaseException", "__getattribute__"):=by decide +kernel
 have hargs:=F.args_bexc_ga (.ref x) nameV
 obtain⟨hh,g,d,t,os⟩:=s
 have L0:=I.type (M:=M)
 have L3:=looks_mroIn (M:=M) X hb
 simp only[checkBuiltinCall,hk,hsplit]
 refine wpAny_bind ?_
 unfold isInstance
 refine wpAny_bind (L0.at (L3.at ?_))
 repeat (first|assumption|wp_step)
theorem exc_call {tk:Tok}{R:Result->Shared->Prop}(X:K.In s.heap) (I:ExcAt x C s.heap)
  (ha:findIn K (.ref C) "__class__" = some (some (.builtin "object.__class__"))) (hn:specialIn K (.builtin "object.__class__") "__get__" = some (some (.builtin "getset_descriptor.__get__"))) (htk:takesIn K (.builtin "object.__class__")=some true)
  (hm:mroIn K C (.type "object")=some true) (hb:mroIn K C (.type "BaseException")=some true) (hc:(clsIn K C).isSome=true) (h:R (.ok (.ret (.ref C))) s) :
  codeAny (model prog w) A (.call (.builtin "BaseException.__getattribute__") ⟨[.ref x,.str "__class__" tk],[]⟩) R s:=
 codeAny_call_builtin F.excAttr_ValueError.ga.plain F.entry_bexc_ga (exc_check X I hb (exc_entry X I ha hn htk hm hc h))
theorem exc_class {Q:Option Value->Shared->Prop}(X:K.In s.heap) (I:ExcAt x C s.heap) (hga:findIn K (.ref C) "__getattribute__" = some (some (.builtin "BaseException.__getattribute__"))) (hgt:findIn K (.ref C) "__getattr__" = some none)
  (ha:findIn K (.ref C) "__class__" = some (some (.builtin "object.__class__"))) (hn:specialIn K (.builtin "object.__class__") "__get__" = some (some (.builtin "getset_descriptor.__get__"))) (htk:takesIn K (.builtin "object.__class__")=some true)
  (hm:mroIn K C (.type "object")=some true) (hb:mroIn K C (.type "BaseException")=some true) (hc:(clsIn K C).isSome=true) (h:Q (some (.ref C)) { s with toks:=s.toks+1 }) :
  wpAny (model prog w) A (getAttr? (.ref x) "__class__") Q E s:=by
 have go:=λ(A':Around) (R:Result->Shared->Prop) (tk:Tok)=>exc_call (prog:=prog) (w:=w) (A:=A') (R:=R) (s:={ s with toks:=s.toks+1 }) (tk:=tk) X I ha hn htk hm hb hc
 obtain⟨hh,g,d,t,os⟩:=s
 have L0:=I.type (M:=model prog w)
 have L1:=looks_findIn (M:=model prog w) X hga
 have L2:=looks_findIn (M:=model prog w) X hgt
 have f3:=F.excAttr_ValueError.ga.bind (.ref x)
 have hx2:(Value.builtin "BaseException.__getattribute__" == Value.builtin "object.__getattribute__")=false:=by decide +kernel
 have hx1:(onTheHeap (Value.ref C)&&Value.builtin "BaseException.__getattribute__" == Value.builtin "object.__getattribute__")=false:=by rw[hx2];rfl
 unfold getAttr? getAttrBy? getAttrBy
 refine wpAny_bind (wpAny_mkText (wpAny_bind (wpAny_attempt (wpAny_holding (wpAny_bind (L0.at (wpAny_bind (L1.at ?_))))))))
 dsimp only
 rw[if_neg (by rw[hx1];exact Bool.false_ne_true)]
 unfold getAttrByItsOwn
 repeat (any_goals (first|assumption|with_reducible refine L0.at ?_|with_reducible refine L2.at ?_|wp_step))
 refine go _ _ _ ?_
 repeat (any_goals (first|assumption|wp_step))
structure ExcCls (K:Frag) (C:Addr):Prop where
 hga:findIn K (.ref C) "__getattribute__" = some (some (.builtin "BaseException.__getattribute__"))
 hgt:findIn K (.ref C) "__getattr__" = some none
 ha:findIn K (.ref C) "__class__" = some (some (.builtin "object.__class__"))
 hn:specialIn K (.builtin "object.__class__") "__get__" = some (some (.builtin "getset_descriptor.__get__"))
 htk:takesIn K (.builtin "object.__class__")=some true
 hm:mroIn K C (.type "object")=some true
 hb:mroIn K C (.type "BaseException")=some true
 hc:(clsIn K C).isSome=true
theorem kitx_exc (T:ExcCls K C):KitX K (.ref x) (.ref C) (ExcAt x C) where
 ty:=λ_ _ _ I=>I.type
 it:=λ_ _ X _=>by
  have hc:=T.hc
  unfold clsIn at hc
  split at hc
  ·rename_i c' d' cd' sl' ho
   intro A1 Q1 E1 s1 kp q1
   unfold isType loadHead
   refine wpAny_bind (wpAny_loadPart (kp _ _ (X _ _ ho)) ?_)
   exact wpAny_pure q1
  ·cases hc
 ne:=λh tp dd its n sl X htp=>by
  have hc:=T.hc
  refine Bool.eq_false_iff.mpr λq=>?_
  have e:C=tp:=Value.ref.inj (beq_iff_eq.mp q)
  subst e
  unfold clsIn at hc
  split at hc
  ·rename_i c' d' cd' sl' ho
   have z:=(X _ _ ho).symm.trans htp
   cases z
  ·cases hc
 ca:=λX I k=>exc_class X I T.hga T.hgt T.ha T.hn T.htk T.hm T.hb T.hc k
end
end L2
namespace L2
open PySem PySem.Spec PyProof.Rows PySem.W
section
variable {K:Frag}{h:Heap}{C:Addr}{bmB:List Value}{newId:String}
end
section
variable {X:Cx}{x:Str}{C:Addr}{E:XK}{e₀:Expr}{rest:List Expr}{t:TA}{np cpos pos:Pos}
end
section
variable {X:Cx}{pins:List (Addr×Obj)}{σ:St}{H:Hp}{s:Shared}
end
end L2
namespace L2
open PySem PySem.Spec PyProof.Rows PySem.W
section
variable {X:Cx}{pins:List (Addr×Obj)}{σ:St}{H:Hp}{s:Shared}
end
end L2
namespace L2
open PySem PySem.Spec PyProof.Rows PySem.W
section
variable {prog:Program}{w:World}{A:Around}{E:Value->Shared->Prop}{s:Shared}{x C e:Addr}
end
end L2
namespace L2
open PySem PySem.Spec PyProof.Rows
section
variable {X:Cx}{k:Nat}{f xe:Addr}{fd:FuncData}{ps:List Str}{sp:SpH}{x:Str}{p pos:Pos}{e:Expr}{es:List Expr}{t:TA}
end
end L2
namespace L2
open PySem PySem.Spec PyProof.Rows PySem.W
section
variable {X:Cx}
def clsV:V->Option Value
 |.ty n=>some (.type n)
 |.ref a=>some (.ref a)
 |_=>none
theorem clsV_is {c:V}{u cv:Value}(r:RelV c u) (e:clsV c=some cv):u=cv:=by
 cases c with
 |ty n=>cases e;exact r
 |ref a=>cases e;exact r
 |_=>cases e
def ExcT (K:Frag) (H:Hp) (x:V) (t:Value):Prop:=∃a C,x=.ref a/\H a=some (.ext (ExcAt a C))/\ExcCls K C/\t=.ref C
theorem call_isi:CallR X (.builtin "isinstance") (λxs H Q=>∃x c t cv b,xs=[x,c]/\clsV c=some cv/\(TyOf X.K H x t\/ExcT X.K H x t)/\kitOne X.K t cv=some b/\Q (.bl b) H):=by
 intro pins s σ H xs us Q I r h
 obtain⟨x,c,t,cv,b,rfl,hc,ht,hk,q⟩:=h
 obtain⟨u,u',rfl,rx,rc⟩:=vals2 r
 cases clsV_is rc hc
 rcases ht with ty|⟨a,C,rfl,e,T,rfl⟩
 ·exact isinst_ok I rx ty hk λtk=>⟨.bl b,H,I.tok _,rfl,q⟩
 ·cases (show u=Value.ref a from rx)
  have p:ExcAt a C s.heap:=(I.hok a _ e).1
  exact kia_one (kitx_exc T) I.kIn p hk (λz=>nomatch z) λtk=>⟨.bl b,H,I.tok _,rfl,q⟩
theorem moved_inv {pins:List (Addr×Obj)}{σ:St}{H:Hp}{s s':Shared}{o₁:Obj}{wr:List Addr}(I:Inv X pins σ H s) (mv:Moved wr (λa b=>b=a) { s with heap:=s.heap.push o₁ } s') (hn:∀b o,s.heap.get? b=some o->b∈wr->False):Inv X pins σ H s':=by
 obtain⟨h',g',d',t',os'⟩:=s'
 obtain⟨m1,m2,m3,m4,m5⟩:=mv
 cases (show g'=s.gens from m2)
 cases (show d'=s.drawn from m3)
 cases (show os'=s.os from m4)
 exact I.kept (h':=h') (t':=t') λb o e=>m1 b o (λz=>hn b o e z) (Heap.get?_push_of_some _ e)
theorem call_allL (hc:X.calm=true):CallR X (.builtin "all") (λxs H Q=>∃(p:Addr) (bs:List Bool),xs=[.ref p]/\H p=some (.lst (bs.map V.bl))/\Q (.bl (bs.all id)) H):=by
 intro pins s σ H xs us Q I r h
 obtain⟨p,bs,rfl,hp,q⟩:=h
 obtain⟨u,rfl,rx⟩:=vals1 r
 cases rx
 obtain⟨z,its,n,rv,hl⟩:=I.hok p _ hp
 have isl:s.heap.IsList p its.toArray:=⟨_,hl,rfl,_,rfl⟩
 have hlen:its.length=bs.length:=by have:=rv.length;simpa using this.symm
 have np:p≠s.heap.objs.size:=Nat.ne_of_lt (Heap.lt_size hl)
 refine call_all_walk (wpAny_pyIter_list isl ?_)
 refine⟨s.heap.objs.size,_,_,_,_,_,λi=>bs.getD i true,rfl,Walks.list (A:=X.A.in1) (I.ok.hd hc) s.heap.objs.size p np its.toArray,⟨⟨_,Heap.get?_push_size _ rfl,rfl,rfl⟩,isl.at λo e=>Heap.get?_push_of_some _ e⟩,?_,?_⟩
 ·intro i v s' Q' E' hv hq
  have hv':its[i]?=some v:=by simpa using hv
  have hi:i<bs.length:=by rw[<- hlen];exact (List.getElem?_eq_some_iff.mp hv').1
  obtain⟨w',e1,e2⟩:=rv.get (x:=V.bl (bs[i])) (i:=i) (by simp[hi])
  rw[hv'] at e1;cases e1
  cases (show v=Value.bool bs[i] from e2)
  have eg:bs.getD i true=bs[i]:=by simp[List.getD,hi]
  dsimp only at hq
  rw[eg] at hq
  exact wpAny_truthy_bool hq
 ·intro h' tk k
  refine⟨.bl (bs.all id),H,I.kept (h':=h') (t':=tk) (λb o e=>k b o (λz=>?_) (Heap.get?_push_of_some _ e)),?_,q⟩
  ·have:b=s.heap.objs.size:=by simpa using z
   exact Nat.lt_irrefl _ (by rw[this] at e;exact Heap.lt_size e)
  ·have es:its.toArray.size=bs.length:=by simpa using hlen
   rw[es]
   show Value.bool _=Value.bool _
   congr 1
   rw[Bool.eq_iff_iff,List.all_eq_true,List.all_eq_true]
   constructor
   ·intro z b hb
    obtain⟨i,hi,e⟩:=List.mem_iff_getElem.mp hb
    have:=z i (List.mem_range.mpr hi)
    simpa [List.getD,hi,e] using this
   ·intro z i hi
    have hi':=List.mem_range.mp hi
    have:=z bs[i] (List.getElem_mem hi')
    simpa [List.getD,hi'] using this
end
end L2
namespace L2
open PySem PySem.Spec PyProof.Rows PySem.W
section
variable {X:Cx}
def best (ns:List Int):Nat->Int
 |0=>ns.getD 0 0
 |k+1=>if ns.getD (k+1) 0>best ns k then ns.getD (k+1) 0 else best ns k
theorem best_arg (ns:List Int):∀k,ns.getD (argBest (λi j=>decide (ns.getD i 0>ns.getD j 0)) k) 0=best ns k/\argBest (λi j=>decide (ns.getD i 0>ns.getD j 0)) k<=k
 |0=>⟨rfl,Nat.le_refl _⟩
 |k+1=>by
  obtain⟨h1,h2⟩:=best_arg ns k
  unfold argBest best
  rw[<- h1]
  by_cases hc:ns.getD (k+1) 0>ns.getD (argBest (λi j=>decide (ns.getD i 0>ns.getD j 0)) k) 0
  ·rw[if_pos (decide_eq_true hc),if_pos hc]
   exact⟨rfl,Nat.le_refl _⟩
  ·rw[if_neg (by simpa using hc),if_neg hc]
   exact⟨rfl,Nat.le_succ_of_le h2⟩
theorem call_maxL (hc:X.calm=true):CallR X (.builtin "max") (λxs H Q=>∃(p:Addr) (ns:List Int),xs=[.ref p]/\H p=some (.lst (ns.map V.int))/\ns≠[]/\Q (.int (best ns (ns.length-1))) H):=by
 intro pins s σ H xs us Q I r h
 obtain⟨p,ns,rfl,hp,hne,q⟩:=h
 obtain⟨u,rfl,rx⟩:=vals1 r
 cases rx
 obtain⟨z,its,n,rv,hl⟩:=I.hok p _ hp
 have isl:s.heap.IsList p its.toArray:=⟨_,hl,rfl,_,rfl⟩
 have hlen:its.length=ns.length:=by have:=rv.length;simpa using this.symm
 have np:p≠s.heap.objs.size:=Nat.ne_of_lt (Heap.lt_size hl)
 have es:its.toArray.size=ns.length:=by simpa using hlen
 have pos:0<ns.length:=List.length_pos_iff.mpr hne
 have item:∀(i:Nat) (v:Value),its.toArray[i]?=some v->∃t,v=.int (ns.getD i 0) t:=λi v hv=>by
  have hv':its[i]?=some v:=by simpa using hv
  have hi:i<ns.length:=by rw[<- hlen];exact (List.getElem?_eq_some_iff.mp hv').1
  obtain⟨w',e1,t,e2⟩:=rv.get (x:=V.int (ns[i])) (i:=i) (by simp[hi])
  rw[hv'] at e1;cases e1
  exact⟨t,by rw[e2];simp[List.getD,hi]⟩
 refine call_max_walkS (wpAny_pyIter_list isl ?_)
 refine⟨s.heap.objs.size,_,_,_,_,_,_,λi j=>decide (ns.getD i 0>ns.getD j 0),rfl,(Walks.list (A:=X.A.in1) (I.ok.hd hc) s.heap.objs.size p np its.toArray).toS,⟨⟨_,Heap.get?_push_size _ rfl,rfl,rfl⟩,isl.at λo e=>Heap.get?_push_of_some _ e⟩,?_,by rw[es];exact pos,?_,?_⟩
 ·intro b hb
  rw[Heap.size_push]
  rcases List.mem_cons.mp hb with rfl|hb
  ·exact Nat.lt_succ_self _
  ·have:b=p:=by simpa using hb
   subst this
   exact Nat.lt_succ_of_lt (Heap.lt_size hl)
 ·intro i j vi vj s' Q' E' hi hj hq
  obtain⟨t,rfl⟩:=item i vi hi
  obtain⟨t',rfl⟩:=item j vj hj
  exact gt_int hq
 ·intro v s' hv mv
  rw[es] at hv
  obtain⟨t,rfl⟩:=item _ v hv
  rw[(best_arg ns (ns.length-1)).1]
  refine⟨.int _,H,moved_inv I mv (λb o e hb=>?_),⟨t,rfl⟩,q⟩
  have:b=s.heap.objs.size:=by simpa using hb
  exact Nat.lt_irrefl _ (by rw[this] at e;exact Heap.lt_size e)
end
end L2
namespace L2
open PySem PySem.Spec PyProof.Rows PySem.W
section
variable {X:Cx}
theorem vals_of:∀{xs:List V}{us:List Value},xs.length=us.length->(∀(i:Nat) x v,xs[i]?=some x->us[i]?=some v->RelV x v)->Vals xs us
 |[],[],_,_=>.nil
 |[],_::_,h,_=>by simp at h
 |_::_,[],h,_=>by simp at h
 |x::xs,u::us,h,f=>.cons (f 0 x u rfl rfl) (vals_of (by simpa using h) λi y v hy hv=>f (i+1) y v (by simpa using hy) (by simpa using hv))
theorem call_range1V:CallR X (.type "range") (λxs H Q=>∃n:Int,xs=[.int n]/\∀r,H r=none->Q (.ref r) (upd H r (.rng 0 n))):=by
 intro pins s σ H xs us Q I r h
 obtain⟨n,rfl,q⟩:=h
 obtain⟨u,rfl,t,rfl⟩:=vals1 r
 exact call_range_1 ⟨.ref s.heap.objs.size,_,I.laid (a:=s.heap.objs.size) (o:=.rng 0 n) (λb o e=>Heap.get?_push_of_some _ e) (Nat.le_refl _) ⟨_,_,_,Heap.get?_push_size _ rfl⟩,rfl,q _ I.fresh⟩
theorem call_listR (hc:X.calm=true):CallR X (.type "list") (λxs H Q=>∃(r:Addr) (n:Nat),xs=[.ref r]/\H r=some (.rng 0 (n:Int))/\n<=1000000/\∀l,H l=none->Q (.ref l) (upd H l (.lst ((List.range n).map λ(i:Nat)=>V.int (i:Int))))):=by
 intro pins s σ H xs us Q I rv h
 obtain⟨r,n,rfl,hr,hn,q⟩:=h
 obtain⟨u,rfl,ru⟩:=vals1 rv
 cases ru
 obtain⟨t,u,v,ho⟩:=I.hok r _ hr
 refine call_list_range (a:=0) (b:=n) (c:=1) (n:=n) (I.ok.hd hc) ho (small_one (by lia) (by lia) (by lia) (by lia)) (by rw[rangeSize_one];split<;>lia) (by lia) λh' tk acc c kp ho' hacc=>?_
 refine⟨.ref s.heap.objs.size,_,I.laid (a:=s.heap.objs.size) (o:=.lst ((List.range n).map λ(i:Nat)=>V.int (i:Int))) (t':=tk) kp (Nat.le_refl _) ⟨?_,acc.toList,c,?_,by simpa using ho'⟩,rfl,q _ I.fresh⟩
 ·rw[List.length_map,List.length_range,sizeLine_eq]
  lia
 ·refine vals_of (by simp[hacc.1]) λi x v hx hv=>?_
  rw[List.getElem?_map] at hx
  obtain⟨j,hj,rfl⟩:=Option.map_eq_some_iff.mp hx
  have e:j=i:=by
   obtain⟨_,e⟩:=List.getElem?_eq_some_iff.mp hj
   simpa using e.symm
  subst e
  obtain⟨t',rfl⟩:=hacc.2 j v (by simpa using hv)
  exact⟨t',by simp⟩
end
namespace TupMul
theorem noFill:fillsNumberSlot (.type "tuple") "mul" = pure false:=
 PySem.fillsNumberSlot_seq (id:= "tuple.__mul__") (r:=some (.builtin "tuple.__rmul__")) F.slot_tuple_mul.lookup (by decide +kernel) F.slot_tuple_rmul.lookup (by decide +kernel)
theorem rep:seqRepeat? (.type "tuple")=pure (some (.builtin "tuple.__mul__")):=by
 unfold seqRepeat?
 rw[PySem.seqSlot_of (T:= "tuple") (name:= "__mul__") (id:= "tuple.__mul__") F.slot_tuple_mul.lookup (by decide +kernel),PySem.seqSlot_of (T:= "tuple") (name:= "__rmul__") (id:= "tuple.__rmul__") F.slot_tuple_rmul.lookup (by decide +kernel)]
 rfl
theorem declines (a:Int) (t:Tok) (l:Addr) (items:Array Value) (n:Nat) (dct:Option Addr) (sl:Array (Option Value)) :
  Meets (Builtin.«int.__rmul__» ⟨[.int a t,.ref l],[]⟩) (λ_ R s=>s.heap.get? l=some { cls:=.type "tuple",dict:=dct,data:=.seq items n,slots:=sl }/\R (.ok (.ret Value.notImplemented)) s):=
 .of_wp λprog w A R s h=>by
  obtain⟨hp,g,d,tk,os⟩:=s
  obtain⟨hl,h⟩:=h
  wp_walk
  exact⟨_,rfl,h⟩
theorem mul (k:Int) (t:Tok) (l:Addr) (items:Array Value) (n:Nat) (dct:Option Addr) (sl:Array (Option Value)) (h1:1<k) (h2:k<=1000) (hs:items.size=1) :
  Meets (Builtin.«tuple.__mul__» ⟨[.ref l,.int k t],[]⟩) (λ_ R s=>s.heap.get? l=some { cls:=.type "tuple",dict:=dct,data:=.seq items n,slots:=sl } /\
   R (.ok (.ret (.ref s.heap.objs.size))) { s with heap:=s.heap.push { cls:=.type "tuple",data:=.seq ((List.replicate k.toNat items).foldl (·++·) #[]) } }):=
 .of_wp λprog w A R s h=>by
  obtain⟨hp,g,d,tk,os⟩:=s
  obtain⟨hl,h⟩:=h
  have c1:(decide (k < -2^63)||decide (k>=2^63))=false:=by simp;lia
  have c0:items.isEmpty=false:=by
   cases he:items.isEmpty with
   |false=>rfl
   |true=>rw[Array.isEmpty_iff.mp he] at hs;cases hs
  have c2:(items.isEmpty||k==1)=false:=by rw[c0];simp;lia
  have c3:(decide (k<=0)||items.isEmpty)=false:=by rw[c0];simp;lia
  have c4:¬((items.size:Int)*k>(2^63-1)/8):=by rw[hs];lia
  have c5:Builtin.Tuple.tupleTooMany ((items.size:Int)*k)=false:=by
   rw[hs]
   show decide (((1:Nat):Int)*k>(sizeLine:Int))=false
   rw[sizeLine_eq]
   exact decide_eq_false (by lia)
  wp_walk
  refine wpAny_ite_split (λz=>by rw[c1] at z;cases z) λ_=>?_
  wp_walk
  refine wpAny_ite_split (λz=>by rw[c2] at z;cases z) λ_=>?_
  refine wpAny_ite_split (λz=>by rw[c3] at z;cases z) λ_=>?_
  refine wpAny_ite_split (λz=>absurd z c4) λ_=>?_
  refine wpAny_ite_split (λz=>by rw[c5] at z;cases z) λ_=>?_
  wp_walk
  refine wpAny_ite_split (λz=>absurd z ?_) λ_=>?_
  ·have f:∀(m:Nat) (acc:Array Value),(List.foldl (λx1 x2=>x1++x2) acc (List.replicate m items)).size=acc.size+m:=λm=>by
    induction m with
    |zero=>intro acc;rfl
    |succ m ih=>
     intro acc
     rw[List.replicate_succ,List.foldl_cons,ih,Array.size_append,hs]
     lia
   rw[f,sizeLine_eq]
   simp
   lia
  wp_walk
  exact⟨_,rfl,h⟩
end TupMul
section
variable {X:Cx}
theorem op_repT:OpR X (binaryOp .Mult) (λx y H Q=>∃(l:Addr) (k:Int) (v:V),x=.ref l/\y=.int k/\H l=some (.tup [v])/\1<k/\k<=1000/\∀p,H p=none->Q (.ref p) (upd H p (.tup (List.replicate k.toNat v)))):=by
 intro pins s σ H x y v u Q I rx ry h
 obtain⟨l,k,v1,rfl,rfl,hH,h1,h2,q⟩:=h
 cases rx
 obtain⟨t,rfl⟩:=ry
 obtain⟨_,its,r,o,ho,hc,⟨n,hdn⟩,hd⟩:=I.hok l _ hH
 obtain⟨oc,od,odt,osl⟩:=o
 replace hc:oc=.type "tuple":=hc
 replace hd:odt=.seq its.toArray n:=hd
 subst hc hd
 cases r with
 |cons r1 rr=>
  cases rr
  rename_i u1
  have hnew:List.foldl (λx1 x2=>x1++x2) #[] (List.replicate k.toNat #[u1])=(List.replicate k.toNat u1).toArray:=by
   have f:∀(m:Nat) (acc:List Value),List.foldl (λx1 x2=>x1++x2) acc.toArray (List.replicate m #[u1])=(acc++List.replicate m u1).toArray:=λm=>by
    induction m with
    |zero=>intro acc;simp
    |succ m ih=>
     intro acc
     rw[List.replicate_succ,List.foldl_cons,show acc.toArray++#[u1]=(acc++[u1]).toArray by simp,ih]
     simp[List.replicate_succ]
   have:=f k.toNat []
   simpa using this
  refine wpAny_binaryOp_repeat_ref (T:= "tuple") (U:= "int") (by decide) ⟨_,ho,rfl⟩ (λs'=>typeIs_int s' k t) TupMul.noFill F.fills_int_mul F.slot_int_rmul TupMul.rep F.slot_int_index.lookup
   (call_meets F.slot_int_rmul (typeIs_int s k t) F.entry_int_rmul (F.args_int_rmul_2 _ _) (TupMul.declines k t l _ n od osl)
    ⟨ho,rfl,⟨_,ho,rfl⟩,call_meets F.slot_tuple_mul ⟨_,ho,rfl⟩ F.entry_tuple_mul (F.args_tuple_mul_2 _ _) (TupMul.mul k t l _ n od osl h1 h2 rfl) ⟨ho,?_⟩⟩)
  rw[hnew]
  refine⟨.ref _,_,I.laid (a:=s.heap.objs.size) (o:=.tup (List.replicate k.toNat v1)) (t':=s.toks) (λb o e=>Heap.get?_push_of_some _ e) (Nat.le_refl _) ⟨?_,List.replicate k.toNat u1,?_,_,Heap.get?_push_size _ rfl,rfl,⟨_,rfl⟩,rfl⟩,rfl,q _ I.fresh⟩
  ·rw[List.length_replicate,sizeLine_eq];lia
  ·generalize k.toNat=m
   induction m with
   |zero=>exact .nil
   |succ m ih=>exact .cons r1 ih
end
end L2
namespace Qf
abbrev Row:=List Nat
def mx:List Nat->Nat
 |[]=>0
 |a::l=>max a (mx l)
theorem le_mx {x:Nat}:∀{l:List Nat},x∈l->x<=mx l
 |a::l,h=>by
  rcases List.mem_cons.mp h with rfl|h
  ·exact Nat.le_max_left _ _
  ·exact Nat.le_trans (le_mx h) (Nat.le_max_right _ _)
theorem mx_le {b:Nat}:∀{l:List Nat},(∀x∈l,x<=b)->mx l<=b
 |[],_=>Nat.zero_le _
 |a::l,h=>Nat.max_le.mpr ⟨h a List.mem_cons_self,mx_le λx hx=>h x (List.mem_cons_of_mem _ hx)⟩
theorem mx_congr {f g:Nat->Nat}{l:List Nat}(h:∀x∈l,f x=g x):mx (l.map f)=mx (l.map g):=by
 rw[List.map_congr_left h]
def RowOk (p:Nat) (r:Row):Prop:=r.length=4/\∀x∈r,x<p+2
def RowsOk (rows:List Row):Prop:=∀p r,rows[p]?=some r->RowOk p r
def depStep (ds:List Nat) (r:Row):List Nat:=ds++[1+mx (r.map (ds.getD · 0))]
def deps (rows:List Row):List Nat:=rows.foldl depStep [0,0]
def dp (rows:List Row) (x:Nat):Nat:=(deps rows).getD x 0
theorem deps_snoc (rows:List Row) (r:Row):deps (rows++[r])=deps rows++[1+mx (r.map (dp rows))]:=by
 unfold deps dp deps
 rw[List.foldl_append]
 rfl
theorem snoc_ind {P:List Row->Prop}(h0:P []) (h1:∀l a,P l->P (l++[a])) (l:List Row):P l:=by
 have:∀m:List Row,P m.reverse:=λm=>by
  induction m with
  |nil=>exact h0
  |cons a m ih=>rw[List.reverse_cons];exact h1 _ _ ih
 have h:=this l.reverse
 rwa [List.reverse_reverse] at h
theorem deps_len (rows:List Row):(deps rows).length=rows.length+2:=by
 induction rows using snoc_ind with
 |h0=>rfl
 |h1 l a ih=>rw[deps_snoc,List.length_append,ih,List.length_append];simp
theorem dp_snoc_lt {rows:List Row}{r:Row}{x:Nat}(h:x<rows.length+2):dp (rows++[r]) x=dp rows x:=by
 unfold dp
 rw[deps_snoc,List.getD_eq_getElem?_getD,List.getD_eq_getElem?_getD,List.getElem?_append_left (by rw[deps_len];exact h)]
theorem dp_snoc_at {rows:List Row}{r:Row}:dp (rows++[r]) (rows.length+2)=1+mx (r.map (dp rows)):=by
 unfold dp
 rw[deps_snoc,List.getD_eq_getElem?_getD,List.getElem?_append_right (by rw[deps_len];exact Nat.le_refl _),deps_len]
 simp only[Nat.sub_self,List.getElem?_cons_zero,Option.getD_some]
 rfl
theorem dp_append_lt {rows more:List Row}{x:Nat}(h:x<rows.length+2):dp (rows++more) x=dp rows x:=by
 induction more using snoc_ind with
 |h0=>simp
 |h1 l a ih=>
  rw[<- List.append_assoc,dp_snoc_lt (by simp;lia),ih]
theorem dp_low {rows:List Row}{x:Nat}(h:x<2):dp rows x=0:=by
 have:=dp_append_lt (rows:=[]) (more:=rows) (x:=x) (by simpa using h)
 rw[List.nil_append] at this
 rw[this]
 match x,h with
 |0,_=>rfl
 |1,_=>rfl
theorem take_next {rows:List Row}{p:Nat}{r:Row}(hp:rows[p]?=some r):rows=rows.take p++[r]++rows.drop (p+1):=by
 have hlt:=(List.getElem?_eq_some_iff.mp hp).1
 have he:=(List.getElem?_eq_some_iff.mp hp).2
 rw[<- he,List.take_append_getElem hlt,List.take_append_drop]
theorem dp_at {rows:List Row}(ok:RowsOk rows){p:Nat}{r:Row}(hp:rows[p]?=some r):dp rows (p+2)=1+mx (r.map (dp rows)):=by
 have hlt:=(List.getElem?_eq_some_iff.mp hp).1
 have hl:(rows.take p).length=p:=by simp;lia
 have e:=take_next hp
 have h1:dp rows (p+2)=dp (rows.take p++[r]) (p+2):=by
  have:=dp_append_lt (rows:=rows.take p++[r]) (more:=rows.drop (p+1)) (x:=p+2) (by simp;lia)
  rw[<- e] at this
  exact this
 have h2:=dp_snoc_at (rows:=rows.take p) (r:=r)
 rw[hl] at h2
 rw[h1,h2]
 congr 1
 refine mx_congr λx hx=>?_
 have hx2:=(ok p r hp).2 x hx
 have:=dp_append_lt (rows:=rows.take p) (more:=[r]++rows.drop (p+1)) (x:=x) (by rw[hl];exact hx2)
 rw[<- List.append_assoc,<- e] at this
 exact this.symm
theorem getD_at {rows:List Row}{p:Nat}(h:p<rows.length):rows[p]?=some (rows.getD p []):=by
 simp[List.getD,h]
def Plain (r:Row):Prop:=r=[0,0,0,0]\/r=[1,1,1,1]
instance (r:Row):Decidable (Plain r):=by unfold Plain;infer_instance
end Qf
namespace L2
open PySem PySem.Spec PyProof.Rows PySem.W
section
variable {X:Cx}
end
end L2
namespace L2
open PySem PySem.Spec PyProof.Rows PySem.W
section
variable {X:Cx}
theorem pe_compB {x:Str}{px pos:Pos}{elt iter:Expr}{scope:Scope}{wi:TI}{te:TE}(N:List Str) (sc:Scope) (hNe:X.N=N) (hsc:X.env.scope=sc) (hc:X.calm=true) (hN:X.N.Nodup) (hi:PI X (.Name x px) iter wi) (he:∀cl C fp s₀ H₀,PE (compCx X scope cl C x fp s₀ H₀) elt te)
  (hkind:scope.kind=.function:=by rfl) (hcell:scope.names.all (λy=>y.2 != .cell)=true:=by decide +kernel) (hnames:scope.names.all (λy=>y.2 != .local||scope.names.lookup y.1==some .local)=true:=by decide +kernel)
  (hx:scope.names.lookup x=some .local:=by rfl) (hloc:N.all (λy=>scope.names.lookup y != some .local)=true:=by decide +kernel)
  (hfr:scope.names.all (λp=>p.2 != .free||(sc.names.lookup p.1==some .cell||sc.names.lookup p.1==some .free))=true:=by decide +kernel)
  (hs:∀x,foldedSetIterable iter X.env x=pure x:=by intro _;rfl):PE X (.ListComp elt [⟨.Name x px,iter,[],0⟩] scope pos) (tComp wi te):=by
 refine pe_comp hc hN hi he hkind (λy hy=>?_) (λy hy hl=>?_) hx (λy hy=>?_) (λp hp hk=>?_) hs
 ·have:=List.all_eq_true.mp hcell y hy
  simpa using this
 ·have:=List.all_eq_true.mp hnames y hy
  simpa [hl] using this
 ·have:=List.all_eq_true.mp hloc y (by rw[<- hNe];exact hy)
  simpa using this
 ·have:=List.all_eq_true.mp hfr p hp
  rw[hk] at this
  have z:sc.names.lookup p.1=some .cell\/sc.names.lookup p.1=some .free:=by simpa using this
  rw[hsc]
  refine⟨.inr z,λq=>?_⟩
  rcases z with z|z<;>(rw[z] at q;cases q)
end
end L2
namespace L2
open PySem
theorem keepU {H:Hp}{a b:Addr}{o u:HO}(e:H a=some o) (hn:H b=none):upd H b u a=some o:=by rw[upd_ne (ne_of_none e hn)];exact e
theorem sameU {H:Hp}{a:Addr}{o:HO}(h:H a=none):Same H (upd H a o):=λb u e=>keepU e h
def Tups (H H':Hp):Prop:=∀b u,H b=some (.tup u)->H' b=some (.tup u)
theorem Same.tups {H H':Hp}(s:Same H H'):Tups H H':=λb u e=>s b _ e
structure Goes (J:It) (H:Hp) (n:Nat) (item:Nat->V->Hp->Prop):Prop where
 go:∀i H2,i<n->Same H H2->J.go i H2
 yl:∀i H2 y H3,i<n->Same H H2->J.yld i H2 y H3->Same H2 H3/\item i y H3
 st:∀H2,Same H H2->J.stop n H2
theorem goes_tup {K:PySem.W.Frag}{H:Hp}{a:Addr}{xs:List V}(ha:H a=some (.tup xs)):Goes (Itt K a) H xs.length (λi y _=>xs[i]?=some y) where
 go:=λi H2 hi s=>⟨xs,xs[i],SqT.of (s _ _ ha),by simp[hi]⟩
 yl:=λi H2 y H3 hi s h=>by
  obtain⟨e,h⟩:=h
  subst e
  exact⟨Same.refl _,h xs (SqT.of (s _ _ ha))⟩
 st:=λH2 s=>⟨xs,SqT.of (s _ _ ha),Nat.le_refl _⟩
theorem goes_lst {K:PySem.W.Frag}{H:Hp}{a:Addr}{xs:List V}(ha:H a=some (.lst xs)):Goes (Itl K a) H xs.length (λi y _=>xs[i]?=some y) where
 go:=λi H2 hi s=>⟨xs,xs[i],SqL.of (s _ _ ha),by simp[hi]⟩
 yl:=λi H2 y H3 hi s h=>by
  obtain⟨e,h⟩:=h
  subst e
  exact⟨Same.refl _,h xs (SqL.of (s _ _ ha))⟩
 st:=λH2 s=>⟨xs,SqL.of (s _ _ ha),Nat.le_refl _⟩
theorem goes_rng {H:Hp}{n:Nat}:Goes (Itr 0 n) H n (λi y _=>y=.int (i:Int)) where
 go:=λi H2 hi s=>hi
 yl:=λi H2 y H3 hi s h=>by
  obtain⟨e,h⟩:=h
  subst e
  exact⟨Same.refl _,by rw[h,Int.zero_add]⟩
 st:=λH2 s=>Nat.le_refl n
theorem goes_enum {K:PySem.W.Frag}{H:Hp}{a:Addr}{xs:List V}(ha:H a=some (.tup xs)):Goes (Ite K a) H xs.length (λi y H3=>∃p x,y=.ref p/\xs[i]?=some x/\H3 p=some (.tup [.int i,x])) where
 go:=λi H2 hi s=>⟨xs,xs[i],SqT.of (s _ _ ha),by simp[hi]⟩
 yl:=λi H2 y H3 hi s h=>by
  obtain⟨p,x,hp,hx,rfl,rfl⟩:=h
  exact⟨sameU hp,p,x,rfl,hx xs (SqT.of (s _ _ ha)),upd_same⟩
 st:=λH2 s=>⟨xs,SqT.of (s _ _ ha),Nat.le_refl _⟩
theorem comp_walk {J:It}{H:Hp}{n:Nat}{item:Nat->V->Hp->Prop}{te:TE}{σ:St}{Fin:Hp->Prop}{D:Addr}(hD:H D=none) (Rel:Nat->V->Hp->Prop) (G:Goes J H n item) (hsz:n<sizeLine)
  (mono:∀i y H1 H2,i<n->Tups H1 H2->Rel i y H1->Rel i y H2)
  (step:∀i x H2,i<n->item i x H2->Same H H2->∀Q':VK,(∀y H3,Same H2 H3->Rel i y H3->Q' y H3)->te (some x::σ) H2 Q')
  (fin:∀ys H2,Same H H2->H2 D=some (.lst ys)->ys.length=n->(∀i y,ys[i]?=some y->Rel i y H2)->Fin H2) :
  ∃W:Nat->Nat->List V->Hp->Prop,(∃m,W 0 m [] (upd H D (.lst []))) /\
   ∀i m xs H2,W i m xs H2->H2 D=some (.lst xs)/\xs.length<sizeLine/\((J.stop i H2/\Fin H2)\/(J.go i H2/\∀y H3,J.yld i H2 y H3 ->
    te (some y::σ) H3 λv H4=>H4 D=some (.lst xs)/\∃m',m'<m/\W (i+1) m' (xs++[v]) (upd H4 D (.lst (xs++[v]))))):=by
 refine⟨λi m ys H2=>i<=n/\m=n-i/\ys.length=i/\H2 D=some (.lst ys)/\Same H H2/\∀j y,ys[j]?=some y->Rel j y H2,⟨n,Nat.zero_le _,rfl,rfl,upd_same,sameU hD,λj y h=>by simp at h⟩,?_⟩
 rintro i m ys H2 ⟨hi,rfl,hl,hd,s2,rel⟩
 refine⟨hd,by lia,?_⟩
 by_cases he:i=n
 ·subst he
  exact .inl ⟨G.st H2 s2,fin ys H2 s2 hd hl rel⟩
 ·refine .inr ⟨G.go i H2 (by lia) s2,λy H3 hy=>?_⟩
  obtain⟨s3,it⟩:=G.yl i H2 y H3 (by lia) s2 hy
  refine step i y H3 (by lia) it (s2.trans s3) _ λv H4 s4 r4=>?_
  have hd4:=s4 _ _ (s3 _ _ hd)
  refine⟨hd4,n-(i+1),by lia,by lia,rfl,by rw[List.length_append,hl];rfl,upd_same,?_,?_⟩
  ·intro b o e
   rw[upd_ne (ne_of_none e hD)]
   exact s4 _ _ (s3 _ _ (s2 _ _ e))
  ·have tk:Tups H4 (upd H4 D (.lst (ys++[v]))):=λb u e=>by
    have:b≠D:=λz=>by subst z;rw[hd4] at e;cases e
    rw[upd_ne this];exact e
   intro j z hz
   by_cases hj:j<i
   ·rw[List.getElem?_append_left (by lia)] at hz
    exact mono j z H4 _ (by lia) tk (mono j z H2 H4 (by lia) (s3.trans s4).tups (rel j z hz))
   ·rw[List.getElem?_append_right (by lia)] at hz
    have:j-ys.length=0:=by
     have:=(List.getElem?_eq_some_iff.mp hz).1
     simp at this
     lia
    rw[this] at hz
    have:z=v:=by simpa using hz.symm
    subst this
    have:j=i:=by lia
    subst this
    exact mono _ _ H4 _ (by lia) tk r4
theorem compG_walk {J:It}{H:Hp}{n k:Nat}{item:Nat->V->Hp->Prop}{g:TG}{tt:TT}{te:TE}{σ:St}{Fin:Hp->Prop}{D:Addr}(hD:H D=none) (yes:Nat->Bool) (val:Nat->V) (G:Goes J H n item) (hsz:n<sizeLine)
  (step:∀i x H2,i<n->item i x H2->Same H H2->∀os:St,os.length=k->∀(Q1:Hp->Prop) (Q2:VK),(yes i=false->∀H3,Same H2 H3->Q1 H3)->(yes i=true->∀H3,Same H2 H3->Q2 (val i) H3) ->
   g x (os++σ) H2 λσ4 H4=>tt σ4 H4 λb H5=>if b=true then te σ4 H5 Q2 else Q1 H5)
  (fin:∀H2,Same H H2->H2 D=some (.lst (((List.range n).filter yes).map val))->Fin H2) :
  ∃W:Nat->Nat->List V->Hp->Prop,(∃m,W 0 m [] (upd H D (.lst []))) /\
   ∀i m xs H2,W i m xs H2->H2 D=some (.lst xs)/\xs.length<sizeLine/\((J.stop i H2/\Fin H2)\/(J.go i H2/\∀y H3,J.yld i H2 y H3->∀os:St,os.length=k ->
    g y (os++σ) H3 λσ4 H4=>tt σ4 H4 λb H5=>if b=true then te σ4 H5 λv H6=>H6 D=some (.lst xs)/\∃m',m'<m/\W (i+1) m' (xs++[v]) (upd H6 D (.lst (xs++[v]))) else ∃m',m'<m/\W (i+1) m' xs H5)):=by
 refine⟨λi m ys H2=>i<=n/\m=n-i/\ys=((List.range i).filter yes).map val/\H2 D=some (.lst ys)/\Same H H2,⟨n,Nat.zero_le _,rfl,rfl,upd_same,sameU hD⟩,?_⟩
 rintro i m ys H2 ⟨hi,rfl,hl,hd,s2⟩
 have hlen:ys.length<=i:=by
  rw[hl,List.length_map]
  exact Nat.le_trans (List.length_filter_le _ _) (by simp)
 refine⟨hd,by lia,?_⟩
 by_cases he:i=n
 ·subst he
  exact .inl ⟨G.st H2 s2,fin H2 s2 (hl▸hd)⟩
 ·refine .inr ⟨G.go i H2 (by lia) s2,λy H3 hy os ho=>?_⟩
  obtain⟨s3,it⟩:=G.yl i H2 y H3 (by lia) s2 hy
  refine step i y H3 (by lia) it (s2.trans s3) os ho _ _ (λhno H4 s4=>?_) (λhyes H4 s4=>?_)
  ·refine⟨n-(i+1),by lia,by lia,rfl,?_,s4 _ _ (s3 _ _ hd),(s2.trans s3).trans s4⟩
   rw[hl,List.range_succ,List.filter_append]
   simp[hno]
  ·have hd4:=s4 _ _ (s3 _ _ hd)
   refine⟨hd4,n-(i+1),by lia,by lia,rfl,?_,upd_same,λb o e=>?_⟩
   ·rw[hl,List.range_succ,List.filter_append]
    simp[hyes]
   ·rw[upd_ne (ne_of_none e hD)]
    exact s4 _ _ (s3 _ _ (s2 _ _ e))
theorem ixL {X:Cx}(K:PySem.W.Frag) (h:X.K=K):IxR X (rIxL K):=h▸ix_list
theorem ixT {X:Cx}(K:PySem.W.Frag) (h:X.K=K):IxR X (rIxT K):=h▸ix_tup
theorem lenS {X:Cx}(K:PySem.W.Frag) (h:X.K=K):CallR X (.builtin "len") (λxs H Q=>∃p ys,xs=[.ref p]/\(SqL K H p ys\/SqT K H p ys)/\Q (.int ys.length) H):=h▸call_len_seq
theorem tupO {X:Cx}(K:PySem.W.Frag) (h:X.K=K):CallR X (.type "tuple") (λxs H Q=>∃p ys,xs=[.ref p]/\((SqL K H p ys/\∀l,H l=none->Q (.ref l) (upd H l (.tup ys)))\/(SqT K H p ys/\Q (.ref p) H))):=h▸call_tuple_of
theorem piT {X:Cx}{tg l:Expr}{tl:TE}(K:PySem.W.Frag) (h:X.K=K) (hl:PE X l tl):PI X tg l (iTup K tl):=h▸pi_tup hl
end L2
namespace L2
open PySem PySem.Spec PyProof.Rows
section
variable {prog:Program}{w:World}{κ:Type}[DecidableEq κ]{hk:HeapKind prog w κ}{A:Around}{E:Value->Shared->Prop}{s:Shared}{d a:Addr}{k:κ}{xs:List (κ×Addr×Value)}
theorem setDefaultH {y:Value}{Q:Value->Shared->Prop}(room:hk.room A) (isK:hk.is s.heap k a) (dict:s.heap.DictOfH hk d xs) (small:xs.length<=sizeLine)
  (old:∀v,(atKey xs k).map (·.2)=some v->Q v { s with toks:=s.toks+hk.draws k })
  (new:(atKey xs k).map (·.2)=none->∀h',h'.DictOfH hk d (storedH xs k a y)->Heap.SameBut d s.heap h'->Q y { s with heap:=h',toks:=s.toks+hk.draws k }) :
  wpAny (model prog w) A (dictSetDefault d (.ref a) y) Q E s:=by
 obtain⟨ob,tab,epo,at_,exa,dat,ent,are,uni⟩:=dict
 show wpAny _ _ (holding [.ref a,y] _) _ _ _
 refine wpAny_holding (wpAny_bind (hk.pyHash room isK (wpAny_bind (wpAny_dictFind_heap (s:={ s with toks:=s.toks+hk.draws k }) room isK at_ dat ent are uni (λnone_=>?_) (λj q found=>?_)))))
 ·have abs:=atKey_none_of_get none_
  refine wpAny_bind (wpAny_rule (wpAny_bind (wpAny_updateDictKeys (hz:=by have:=size_of_entries ent;lia) (s:={ s with toks:=s.toks+hk.draws k }) at_ dat (wpAny_pure (new (by rw[abs];rfl) _ ⟨_,_,epo+1,
   Heap.get?_update_self _ at_ (Obj.isFreed_of_dict (Obj.data_mapDictKeys dat _)),exa.mapDictKeys _,Obj.data_mapDictKeys dat _,?_,?_,?_⟩ (Heap.SameBut.update ..))))))
  ·rw[storedH_new abs];simp[ent,entryOfKey]
  ·rw[storedH_new abs]
   intro z hz
   rcases List.mem_append.mp hz with hz|hz
   ·exact hk.keeps (are z hz) at_ dat (Heap.SameBut.update ..)
   ·have:z=(k,a,y):=by simpa using hz
    subst this
    exact hk.keeps isK at_ dat (Heap.SameBut.update ..)
  ·rw[storedH_new abs,List.map_append,List.nodup_append]
   exact⟨uni,by simp,λp hp q hq e=>not_mem_keys_of_get none_ (by
    have:q=k:=by simpa using hq
    rw[<- this,<- e];exact hp)⟩
 ·have pre:=atKey_of_get uni found
  refine wpAny_bind (wpAny_dictEntries (s:={ s with toks:=s.toks+hk.draws k }) at_ dat ?_)
  rw[entry_at ent j,found]
  exact wpAny_bind (wpAny_rule (wpAny_pure (old q.2 (by rw[pre];rfl))))
end
section
variable {X:Cx}
def rSetDef:V->List V->Hp->VK->Prop:=λx xs H Q=>∃(d b:Addr) (kvs:List (List Key×V)) (k:List Key) (y:V),x=.ref d/\xs=[.ref b,y]/\H d=some (.dT kvs)/\H b=some (.tup (k.map kV))/\kvs.length<sizeLine /\
 (∀v,valV kvs k=some v->Q v H)/\(valV kvs k=none->Q y (upd H d (.dT (putK kvs k y))))
theorem mt_setdefault (hu:X.A.units+1<cLine):MtR X "dict.setdefault" rSetDef:=by
 intro pins s σ H x xs v us Q I rx rs h
 obtain⟨d,b,kvs,k,y,rfl,rfl,hd,hb,hl,q1,q2⟩:=h
 cases (show v=Value.ref d from rx)
 obtain⟨u1,u2,rfl,r1,r2⟩:∃u1 u2,us=[u1,u2]/\RelV (.ref b) u1/\RelV y u2:=by
  cases rs with
  |cons a1 a2=>cases a2 with
   |cons a3 a4=>cases a4;exact⟨_,_,rfl,a1,a3⟩
 cases (show u1=Value.ref b from r1)
 obtain⟨z,lo,xs,rel,dd⟩:=dt_of I.hok hd
 have hz:xs.length<=sizeLine:=by rw[<- Paired.length rel];exact z
 have M:MeetsIn X.prog X.w (Builtin.«dict.setdefault» ⟨[.ref d,.ref b,u2],[]⟩) (λA R s=>(tupleKind (mixKind X.prog X.w)).room A.in1/\(tupleKind (mixKind X.prog X.w)).is s.heap k b/\s.heap.DictOfH (tupleKind (mixKind X.prog X.w)) d xs /\
   (∀v,(atKey xs k).map (·.2)=some v->R (.ok (.ret v)) { s with toks:=s.toks+(tupleKind (mixKind X.prog X.w)).draws k }) /\
   ((atKey xs k).map (·.2)=none->∀h',h'.DictOfH (tupleKind (mixKind X.prog X.w)) d (storedH xs k b u2)->Heap.SameBut d s.heap h'->R (.ok (.ret u2)) { s with heap:=h',toks:=s.toks+(tupleKind (mixKind X.prog X.w)).draws k })):=
  .of_wp λA R s ⟨g1,g2,g3,g4,g5⟩=>by
   unfold Builtin.«dict.setdefault» Builtin.Dict.keyAndDefault
   refine wpAny_bind (wpAny_bind (wpAny_notOrdered_dict g3.typeIs (wpAny_pure ?_)))
   show wpAny _ _ (if (d==sysModules)=true then _ else (dictSetDefault d (.ref b) u2 >>= _)) _ _ s
   rw[if_neg (by rw[lo];decide)]
   exact wpAny_bind (setDefaultH g1 g2 g3 hz (λv hv=>wpAny_pure ⟨v,rfl,g4 v hv⟩) λhn h' a1 a2=>wpAny_pure ⟨u2,rfl,g5 hn h' a1 a2⟩)
 have val:=rel.val k
 refine call_meetsIn PySem.F.slot_dict_setdefault dd.typeIs PySem.F.entry_dict_setdefault (PySem.F.args_dict_setdefault_3 _ _ _) M ⟨tupleKind_room_in1 hu,key_of I.hok hb,dd,λv hv=>?_,λhn h' d' sb=>?_⟩
 ·rw[hv] at val
  cases e:valV kvs k with
  |none=>rw[e] at val;exact val.elim
  |some y'=>rw[e] at val;exact⟨y',H,I.tok _,val,q1 y' e⟩
 ·rw[hn] at val
  cases e:valV kvs k with
  |some y'=>rw[e] at val;exact val.elim
  |none=>
   have hl2:(putK kvs k y).length<=sizeLine:=by have:=length_putK kvs k y;lia
   obtain⟨q,es,ep,hq,h2,h3,h4,_,h5⟩:=d'
   refine⟨y,_,?_,r2,q2 e⟩
   refine d_write I (by rw[hd];exact True.intro) sb ⟨q,hq⟩ ⟨hl2,lo,_,(rel.put k hb r2).keeps λc ys ec=>?_,q,es,ep,hq,h2,h3,h4,h5⟩
   rw[upd_ne (ne_of ec hd (λz=>nomatch z))]
   exact ec
end
end L2
namespace L2
open PySem PySem.Spec PyProof.Rows
section
variable {X:Cx}
end
end L2
namespace L2
open PySem PySem.Spec PyProof.Rows PySem.W
section
variable {prog:Program}{w:World}{A:Around}{E:Value->Shared->Prop}{s:Shared}{d it:Addr}{tab:Array DictEntry}{ep i:Nat}
end
section
variable {X:Cx}
end
end L2
namespace L2
open PySem PySem.Spec PyProof.Rows PySem.W
section
variable {prog:Program}{w:World}{A:Around}{E:Value->Shared->Prop}{s:Shared}{T:String}{r d:Addr}{n:Nat}{P:Nat->Value->Prop}{OK:Heap->Prop}
end
section
variable {X:Cx}
open Classical in
noncomputable def sameD (h:Heap) (d:PyData) (w:Value):Bool:=decide (∃(e:PyData) (bs:List Addr),Reads h w e bs/\e.canLay0=true/\PyData.eqv e d=true)
open Classical in
theorem sameD_is {h:Heap}{d d':PyData}{w:Value}{bs:List Addr}(rb:Reads h w d' bs) (c:d'.canLay0=true):sameD h d w=PyData.eqv d' d:=by
 unfold sameD
 cases hb:PyData.eqv d' d with
 |true=>exact decide_eq_true ⟨d',bs,rb,c,hb⟩
 |false=>
  refine decide_eq_false λ⟨e,bs',re,_,he⟩=>?_
  have:=SeqAt.Reads.unique d' e w bs bs' c rb re
  rw[<- this,hb] at he
  cases he
theorem inD_key {pins:List (Addr×Obj)}{s:Shared}{σ:St}{H:Hp}{v:Value}{d:PyData}{as:List Addr}(I:Inv X pins σ H s) (un:X.A.units+64<cLine) (ra:Reads s.heap v d as) (c1:d.canLay0=true) (dd:d.depth<=50) :
  ∀{xs:List V}{ds:List PyData}{us:List Value},DatasAt H xs ds->Vals xs us->PyData.canLayAll0 ds=true->(∀w∈us,SeqAt.EqAt X.A.in1 s w v (sameD s.heap d w))/\us.any (sameD s.heap d)=ds.any λe=>PyData.eqv e d
 |_,_,_,.nil,.nil,_=>⟨λw hw=>(nomatch hw),rfl⟩
 |_,d'::ds',u0::us0,.cons hx hxs,.cons r0 rs,h3=>by
  have h3':d'.canLay0=true/\PyData.canLayAll0 ds'=true:=by simpa [PyData.canLayAll0] using h3
  obtain⟨e1,e2⟩:=inD_key I un ra c1 dd hxs rs h3'.2
  obtain⟨bs,rb⟩:=hx.reads I.hok r0
  have eb:=sameD_is (d:=d) rb h3'.1
  refine⟨λw hw=>?_,?_⟩
  ·rcases List.mem_cons.mp hw with rfl|hw
   ·rw[eb]
    exact SeqAt.eqAt_reads d' d X.A.in1 s w v bs as rb ra h3'.1 c1 (by
     have:X.A.in1.units=X.A.units+1:=rfl
     lia)
   ·exact e1 w hw
  ·rw[List.any_cons,List.any_cons,eb,e2]
end
end L2
namespace L2
open PySem PySem.Spec PyProof.Rows
section
variable {prog:Program}{w:World}{A:Around}{E:Value->Shared->Prop}{s:Shared}
theorem next_pairL {e it t:Addr}{i:Nat}{items:Array Value}{x old:Value}{Q:Option Value->Shared->Prop}(he:IsEnum s.heap e it i old) (hne:e≠it) (st:s.heap.IsListIter it t i) (ht:s.heap.IsList t items) (hx:items[i]?=some x)
  (q:∀h1 h',Heap.SameBut it s.heap h1->IsEnumOut h' e it ((i:Int)+1) x s.heap.objs.size->h'.IsListIter it t (i+1)->h'.get? s.heap.objs.size=some { cls:=.type "tuple",data:=.seq #[.int i s.toks,x] } ->
   (∀b o,b≠e->h1.get? b=some o->h'.get? b=some o)->Q (some (.ref s.heap.objs.size)) { s with heap:=h',toks:=s.toks+1 }):wpAny (model prog w) A (pyNext (.ref e)) Q E s:=by
 have hT:s.TypeIs (.ref e) "enumerate":=⟨_,he,rfl⟩
 unfold pyNext
 refine wpAny_bind (wpAny_attempt (wpAny_callSpecial?_slot (name:=Str.ofString "__next__") hT F.slot_enumerate_next (wpAny_call_entry F.slot_enumerate_next hT F.entry_enumerate_next
  (EnumT.pair_next (St:=λh=>h.IsListIter it t (i+1)) he hne (λQ' q'=>wpAny_nextOf_list_item st ht hx λh' st' sb=>q' h' sb st') λh1 h' sb st1 ho hT' kp=>wpAny_pure (q h1 h' sb ho ?_ hT' kp)) (F.args_enumerate_next_1 _))))
 obtain⟨o,x1,x2⟩:=st1
 exact⟨o,kp it o (Ne.symm hne) x1,x2⟩
end
def ItEl (K:PySem.W.Frag) (a:Addr):It:=
 ⟨λi H=>∃xs x,SqL K H a xs/\xs[i]?=some x,λi H y H'=>∃p x,H p=none/\(∀xs,SqL K H a xs->xs[i]?=some x)/\H'=upd H p (.tup [.int i,x])/\y=.ref p,λi H=>∃xs,SqL K H a xs/\xs.length<=i⟩
theorem turn_enumL {P:Program}{w:World}{K:PySem.W.Frag}{elts:List Expr}{x1:Nat}{tpos:Pos}(a e it:Addr) (hne:e≠it) :
  Turn P w K (.Tuple elts x1 tpos) (ItEl K a) [e,it] e (λi h=>(∃old,IsEnum h e it i old)/\h.IsListIter it a i) where
 mem:=by simp
 obj:=λi h st b hb=>by
  rcases List.mem_cons.mp hb with rfl|hb
  ·obtain⟨⟨old,z⟩,_⟩:=st
   exact⟨_,z,λv q=>by
    have q':Data.fields _=Data.cell v:=q
    cases q'⟩
  ·have:b=it:=by simpa using hb
   subst this
   obtain⟨_,o,z,_,d⟩:=st
   exact⟨o,z,λv q=>by rw[d] at q;cases q⟩
 keep:=λi h h' st k=>by
  obtain⟨⟨old,z⟩,st2⟩:=st
  exact⟨⟨old,k e (by simp) _ z⟩,st2.at λo q=>k it (by simp) o q⟩
 item:=by
  intro X hP hw hK hc i pins s σ H E I hf st hg
  subst hP hw hK
  obtain⟨⟨old,he⟩,st2⟩:=st
  obtain⟨xs,x,hq,hx⟩:=hg
  obtain⟨its,rv,p,hz⟩:=I.list hq
  obtain⟨u,hu,ru⟩:=rv.get hx
  obtain⟨e0,e1,e2,e3,e4,e5⟩:=hf e (by simp)
  obtain⟨f0,f1,f2,f3,f4,f5⟩:=hf it (by simp)
  refine next_pairL he hne st2 (show s.heap.IsList a its.toArray from p.isList) (x:=u) (by simpa using hu) λh1 h' sb ho st3 ht kp=>?_
  refine⟨_,rfl,wpAny_letOwnedTupleGo_enum ho λh2 he2 sb2=>?_⟩
  have elt:e<s.heap.objs.size:=Heap.lt_size he
  have ilt:it<s.heap.objs.size:=by obtain⟨o,z,_⟩:=st2;exact Heap.lt_size z
  have fresh:H s.heap.objs.size=none:=I.hok.fresh (Nat.le_refl _)
  have z1:h1.objs.size=s.heap.objs.size:=sb.1
  have J0:Inv X pins σ (upd H s.heap.objs.size (.tup [.int i,x])) { s with heap:=s.heap.push { cls:=.type "tuple",data:=.seq #[.int i s.toks,u] },toks:=s.toks+1 }:=
   I.laid (λb o q=>Heap.get?_push_of_some _ q) (Nat.le_refl _) ⟨by show 2<=sizeLine;decide,[.int i s.toks,u],.cons ⟨_,rfl⟩ (.cons ru .nil),_,Heap.get?_push_size _ rfl,rfl,⟨_,rfl⟩,rfl⟩
  have ne1:(upd H s.heap.objs.size (.tup [.int i,x])) it=none:=by rw[upd_ne (Nat.ne_of_lt ilt)];exact f0
  have ne2:(upd H s.heap.objs.size (.tup [.int i,x])) e=none:=by rw[upd_ne (Nat.ne_of_lt elt)];exact e0
  have J1:=J0.turned (it:=it) (h':=h1.push { cls:=.type "tuple",data:=.seq #[.int i s.toks,u] }) (t':=s.toks+1) (λb o hb q=>by
    have q:(s.heap.push { cls:=.type "tuple",data:=.seq #[.int i s.toks,u] }).get? b=some o:=q
    by_cases hlt:b<s.heap.objs.size
    ·have q':s.heap.get? b=some o:=push_lt q hlt
     exact Heap.get?_push_of_some _ ((sb.2 b hb).trans q')
    ·have hb2:b<s.heap.objs.size+1:=by have:=Heap.lt_size q;rw[Heap.size_push] at this;exact this
     have eb:b=s.heap.objs.size:=Nat.le_antisymm (Nat.le_of_lt_succ hb2) (Nat.le_of_not_lt hlt)
     subst eb
     rw[Heap.get?_push_size _ rfl] at q
     cases q
     have:=Heap.get?_push_size h1 (o:={ cls:=.type "tuple",data:=.seq #[.int i s.toks,u] }) rfl
     rw[z1] at this
     exact this) ne1 f1 f3 f4 f5
  have J2:=J1.turned (it:=e) (h':=h') (t':=s.toks+1) (λb o hb q=>by
    have q:(h1.push { cls:=.type "tuple",data:=.seq #[.int i s.toks,u] }).get? b=some o:=q
    by_cases hlt:b<s.heap.objs.size
    ·have q':h1.get? b=some o:=push_lt q (by rw[z1];exact hlt)
     exact kp b o hb q'
    ·have hb2:b<s.heap.objs.size+1:=by have:=Heap.lt_size q;rw[Heap.size_push,z1] at this;exact this
     have eb:b=s.heap.objs.size:=Nat.le_antisymm (Nat.le_of_lt_succ hb2) (Nat.le_of_not_lt hlt)
     subst eb
     have:=Heap.get?_push_size h1 (o:={ cls:=.type "tuple",data:=.seq #[.int i s.toks,u] }) rfl
     rw[z1] at this
     rw[this] at q
     cases q
     exact ht) ne2 e1 e3 e4 e5
  have J3:=J2.turned (it:=e) (h':=h2) (t':=s.toks+1) (λb o hb q=>(sb2.2 b hb).trans q) ne2 e1 e3 e4 e5
  refine⟨.ref s.heap.objs.size,_,J3,rfl,⟨_,x,fresh,λys hy=>by rw[I.list_inj hy hq];exact hx,rfl,rfl⟩,⟨⟨u,by
   have:(((i+1:Nat)):Int)=(i:Int)+1:=by lia
   rw[this];exact he2⟩,st3.at λo q=>(sb2.2 it (Ne.symm hne)).trans q⟩,λb hb=>?_⟩
  rcases List.mem_cons.mp hb with rfl|hb
  ·exact ne2
  ·have:b=it:=by simpa using hb
   subst this
   exact ne1
 done:=by
  intro X hP hw hK hc i pins s σ H E I hf st hg
  subst hP hw hK
  obtain⟨⟨old,he⟩,st2⟩:=st
  obtain⟨xs,hq,hx⟩:=hg
  obtain⟨its,rv,p,hz⟩:=I.list hq
  obtain⟨f0,f1,f2,f3,f4,f5⟩:=hf it (by simp)
  have hl:=rv.length
  exact wpAny_pyNext_enum_end (I.ok.hd hc) he st2 (show s.heap.IsList a its.toArray from p.isList) (by simp;lia) λh' eb=>⟨rfl,I.turned (t':=s.toks) (λb o hb e=>eb b o hb e) f0 f1 f3 f4 f5⟩
 self:=λ_ _ _ _ _ st h=>by
  obtain⟨⟨old,he⟩,_⟩:=st
  exact wpAny_pyIter_enum he h
section
variable {X:Cx}{elts:List Expr}{x1:Nat}{tpos:Pos}
def iEnumL (K:PySem.W.Frag) (ta:TA):TI:=λσ H R=>ta σ H λvs H1=>∃a,vs=[.ref a]/\(∃xs,SqL K H1 a xs)/\R (ItEl K a) H1
theorem pi_enumL {e:Expr}{ta:TA}{p pos:Pos}(hg:Gl X "enumerate") (hm:X.mg "enumerate" = none) (ha:PA X [e] ta) (hs:starEach [e] X.env=[(false,eval e X.env)]:=by rfl):PI X (.Tuple elts x1 tpos) (.Call (.Name "enumerate" p) [e] [] pos) (iEnumL X.K ta):=by
 intro pins s σ H R I h
 refine Call_ (ld_blt I hg hm PyProof.Rows.boot_enumerate (PyProof.Rows.callWith_type1 (thn (ha pos pins s σ H _ I h) λus s1 ⟨vs,H1,I1,r1,q1⟩=>?_) hs rfl))
 obtain⟨a,rfl,⟨xs,hq⟩,q⟩:=q1
 obtain⟨u,rfl,ru⟩:=vals1 r1
 cases ru
 obtain⟨its,rv,pt,hz⟩:=I1.list hq
 refine call_enumerate_list (show s1.heap.IsList a its.toArray from pt.isList) λh' he st _ kp=>?_
 refine wpAny_pyIter_enum he ?_
 have J:Inv X pins σ H1 { s1 with heap:=h' }:=I1.kept (t':=s1.toks) kp
 refine⟨s1.heap.objs.size+1,[s1.heap.objs.size+1,s1.heap.objs.size],_,_,H1,rfl,J,turn_enumL a _ _ (Nat.succ_ne_self _),⟨⟨.none,he⟩,st⟩,λb hb=>?_,q⟩
 rcases List.mem_cons.mp hb with rfl|hb
 ·exact I1.fpOk (Nat.le_succ _) (I1.hok.fresh (Nat.le_succ _))
 ·have:b=s1.heap.objs.size:=by simpa using hb
  subst this
  exact I1.fpOk (Nat.le_refl _) (I1.hok.fresh (Nat.le_refl _))
end
theorem goes_enumL {K:PySem.W.Frag}{H:Hp}{a:Addr}{xs:List V}(ha:H a=some (.lst xs)):Goes (ItEl K a) H xs.length (λi y H3=>∃p x,y=.ref p/\xs[i]?=some x/\H3 p=some (.tup [.int i,x])) where
 go:=λi H2 hi s=>⟨xs,xs[i],SqL.of (s _ _ ha),by simp[hi]⟩
 yl:=λi H2 y H3 hi s h=>by
  obtain⟨p,x,hp,hx,rfl,rfl⟩:=h
  exact⟨sameU hp,p,x,rfl,hx xs (SqL.of (s _ _ ha)),upd_same⟩
 st:=λH2 s=>⟨xs,SqL.of (s _ _ ha),Nat.le_refl _⟩
theorem for_enumT {K:PySem.W.Frag}{a:Addr}{xs:List V}{g:TG}{tb:TS}{D:Ends}{σ:St}{H:Hp}(Pv:Nat->St->Hp->Prop) (hk:∀i σ H2,Pv i σ H2->H2 a=some (.tup xs)) (h0:Pv 0 σ H)
  (hs:∀i x σ H p,xs[i]?=some x->Pv i σ H->H p=none->g (.ref p) σ (upd H p (.tup [.int i,x])) λσ2 H2=>tb { D with nx:=Pv (i+1),ct:=Pv (i+1),bk:=D.nx } σ2 H2) (hd:∀σ H,Pv xs.length σ H->D.nx σ H) :
  ∃W:Nat->Nat->St->Hp->Prop,(∃m,W 0 m σ H)/\∀i m σ H,W i m σ H ->
   ((Ite K a).stop i H/\D.nx σ H)\/((Ite K a).go i H/\∃N:St->Hp->Prop,(∀σ' H',N σ' H'->∃m',m'<m/\W (i+1) m' σ' H')/\∀x H',(Ite K a).yld i H x H'->g x σ H' λσ2 H2=>tb { D with nx:=N,ct:=N,bk:=D.nx } σ2 H2):=by
 refine⟨λi m σ H=>m=xs.length-i/\i<=xs.length/\Pv i σ H,⟨xs.length,by simp,Nat.zero_le _,h0⟩,?_⟩
 rintro i m σ H ⟨rfl,hi,p⟩
 have hq:SqT K H a xs:=SqT.of (hk i σ H p)
 by_cases hlt:i<xs.length
 ·refine .inr ⟨⟨xs,xs[i],hq,by simp[hlt]⟩,Pv (i+1),λσ' H' p'=>⟨xs.length-(i+1),by lia,rfl,hlt,p'⟩,λx H' y=>?_⟩
  obtain⟨b,c,e0,e1,e2,e3⟩:=y
  subst e2 e3
  exact hs i c σ _ b (e1 xs hq) p e0
 ·have e:i=xs.length:=by lia
  subst e
  exact .inl ⟨⟨xs,hq,Nat.le_refl _⟩,hd σ H p⟩
theorem ext_tup (l b:Addr) (xs ys:Array Value) (n m:Nat) (dct:Option Addr) (sl:Array (Option Value)) (c0:¬(!xs.isEmpty&&Builtin.List.listTooLong (xs.size+ys.size))=true) (c1:xs.size<=sizeLine) (c2:xs.size+ys.size<=sizeLine+1) :
  Meets (Builtin.«list.extend» ⟨[.ref l,.ref b],[]⟩) (λ_ R s=>s.heap.get? l=some { cls:=.type "list",dict:=none,data:=.seq xs n,slots:=#[] }/\s.heap.get? b=some { cls:=.type "tuple",dict:=dct,data:=.seq ys m,slots:=sl } /\
   R (.ok (.ret Value.none)) { s with heap:=s.heap.update l (Obj.mapSeq λx=>x++ys),toks:=s.toks }):=
 .of_wp λprog w A R s h=>by
  obtain⟨hp,g,d,tk,os⟩:=s
  obtain⟨hl,hb,h⟩:=h
  have f1:=AutoSeq1.sub_tuple_tuple
  have f2:=AutoSeq1.sub_list_list
  have f3:=AutoSeq1.sub_tuple_list
  have f4:=AutoSeq1.sub_list_tuple
  have z:(xs++ys).size<=sizeLine+1:=by rw[Array.size_append];exact c2
  wp_walk using (wpAny_updateSeq hl rfl (hz:=c1) (_hz':=z)),AutoSeq1.wpAny_loadPart' hl,AutoSeq1.wpAny_loadPart' hb
  exact⟨_,rfl,h⟩
section
variable {X:Cx}
theorem mt_extendT:MtM X "list.extend" (λx vs H Q=>∃l b xs zs,x=.ref l/\vs=[.ref b]/\H l=some (.lst xs)/\H b=some (.tup zs)/\xs.length+zs.length<=sizeLine/\Q .non (upd H l (.lst (xs++zs)))):=by
 intro pins s σ H x vs v us Q I rx rv h
 obtain⟨l,b,xs,zs,rfl,rfl,hH,hB,hz,q⟩:=h
 cases rx
 obtain⟨u,rfl,ru⟩:=rv.one
 cases ru
 obtain⟨z,its,n,r,hl,e⟩:=I.lstM hH
 obtain⟨z2,its2,r2,⟨c,dct,dt,sl⟩,e2,e3,⟨n2,hdn⟩,e4⟩:=I.hok b _ hB
 replace e3:c=.type "tuple":=e3
 replace e4:dt=.seq its2.toArray n2:=e4
 clear hdn
 subst e3 e4
 have hl2:=r2.length
 have hsz:its.toArray.size+its2.toArray.size<=sizeLine:=by rw[List.size_toArray,List.size_toArray];lia
 have hlong:¬(!its.toArray.isEmpty&&Builtin.List.listTooLong (its.toArray.size+its2.toArray.size))=true:=by
  rw[notLongL hsz,Bool.and_false]
  exact Bool.false_ne_true
 refine call_meets F.slot_list_extend ⟨_,e,rfl⟩ F.entry_list_extend (F.args_list_extend_2 _ _) (ext_tup l b its.toArray its2.toArray n n2 dct sl hlong (by rw[List.size_toArray];lia) (by lia)) ⟨e,e2,?_⟩
 refine⟨.non,_,I.lset (its':=its++its2) hH e (by simp) (r.append r2) ?_,rfl,q⟩
 rw[List.length_append]
 lia
theorem call_range2V:CallR X (.type "range") (λxs H Q=>∃a b:Int,xs=[.int a,.int b]/\∀r,H r=none->Q (.ref r) (upd H r (.rng a b))):=by
 intro pins s σ H xs us Q I r h
 obtain⟨a,b,rfl,q⟩:=h
 obtain⟨u,v,rfl,⟨t,rfl⟩,t2,rfl⟩:=vals2 r
 exact call_range_2 ⟨.ref s.heap.objs.size,_,I.laid (a:=s.heap.objs.size) (o:=.rng a b) (t':=s.toks+1) (λb o e=>Heap.get?_push_of_some _ e) (Nat.le_refl _) ⟨_,_,_,Heap.get?_push_size _ rfl⟩,rfl,q _ I.fresh⟩
theorem call_listR2 (hc:X.calm=true):CallR X (.type "list") (λxs H Q=>∃(r:Addr) (a n:Nat),xs=[.ref r]/\H r=some (.rng (a:Int) ((a+n:Nat):Int))/\a+n<=1000000/\∀l,H l=none->Q (.ref l) (upd H l (.lst ((List.range n).map λ(i:Nat)=>V.int ((a+i:Nat):Int))))):=by
 intro pins s σ H xs us Q I rv h
 obtain⟨r,a,n,rfl,hr,hn,q⟩:=h
 obtain⟨u,rfl,ru⟩:=vals1 rv
 cases ru
 obtain⟨t,u,v,ho⟩:=I.hok r _ hr
 refine call_list_range (a:=a) (b:=((a+n:Nat):Int)) (c:=1) (n:=n) (I.ok.hd hc) ho (small_one (by lia) (by lia) (by lia) (by lia)) (by rw[rangeSize_one];split<;>lia) (by lia) λh' tk acc c kp ho' hacc=>?_
 refine⟨.ref s.heap.objs.size,_,I.laid (a:=s.heap.objs.size) (o:=.lst ((List.range n).map λ(i:Nat)=>V.int ((a+i:Nat):Int))) (t':=tk) kp (Nat.le_refl _) ⟨?_,acc.toList,c,?_,by simpa using ho'⟩,rfl,q _ I.fresh⟩
 ·rw[List.length_map,List.length_range,sizeLine_eq]
  lia
 ·refine vals_of (by simp[hacc.1]) λi x v hx hv=>?_
  rw[List.getElem?_map] at hx
  obtain⟨j,hj,rfl⟩:=Option.map_eq_some_iff.mp hx
  have e:j=i:=by
   obtain⟨_,e⟩:=List.getElem?_eq_some_iff.mp hj
   simpa using e.symm
  subst e
  obtain⟨t',rfl⟩:=hacc.2 j v (by simpa using hv)
  exact⟨t',by simp⟩
theorem op_inDL {k:Nat}(hr:Room k X.A):OpR X (compareOp .In) (λx y H Q=>∃(p:Addr) (xs:List V) (ds:List PyData) (d:PyData),y=.ref p/\H p=some (.lst xs)/\DatasAt H xs ds/\DataAt H x d/\d.canLay0=true/\PyData.canLayAll0 ds=true/\d.depth<=50 /\
  Q (.bl (ds.any λe=>PyData.eqv e d)) H):=by
 intro pins s σ H x y v u Q I rx ry h
 obtain⟨p,xs,ds,d,rfl,hp,hds,hd,c1,c2,dd,q⟩:=h
 cases ry
 obtain⟨as,ra⟩:=hd.reads I.hok rx
 obtain⟨its,rv,pl,hz⟩:=I.list (SqL.of hp)
 have un:=hr.units
 obtain⟨k1,k2⟩:=inD_key (X:=X) I un ra c1 dd hds rv c2
 refine SeqAt.in_listAt (sameD s.heap d) pl.isList (λw hw=>k1 w (by simpa using hw)) ⟨.bl _,H,I,rfl,?_⟩
 rw[show its.toArray.any (sameD s.heap d)=its.any (sameD s.heap d) by simp,k2]
 exact q
end
end L2
namespace Pr
open PySem L2
abbrev sWhole:Stmt:=top 6
abbrev sPlain:Stmt:=top 7
abbrev sDeps:Stmt:=top 8
abbrev sRenum:Stmt:=top 9
abbrev sSize:Stmt:=top 12
abbrev sNumber:Stmt:=top 14
abbrev sRow:Stmt:=top 15
abbrev sRows:Stmt:=top 16
abbrev sTelling:Stmt:=top 17
abbrev sWantTl:Stmt:=top 18
abbrev sSame:Stmt:=top 20
abbrev sPlainS:Stmt:=top 21
abbrev sGone:Stmt:=top 22
abbrev sStepsOf:Stmt:=top 23
abbrev sIsStep:Stmt:=top 24
abbrev sNumB:Stmt:=top 25
abbrev sStepped:Stmt:=top 26
abbrev lPot:Stmt:=top 28
abbrev lDigit:Stmt:=top 29
abbrev lRowDr:Stmt:=top 30
abbrev lDeps:Stmt:=top 31
abbrev lTelling:Stmt:=top 32
abbrev lSteps:Stmt:=top 33
abbrev lBehind:Stmt:=top 34
abbrev lLaw:Stmt:=top 35
end Pr
namespace Pr
open PySem L2 Qf
structure Blt (mg:Str->Option Value):Prop where
 isi:mg "isinstance" = none
 int:mg "int" = none
 bool:mg "bool" = none
 tuple:mg "tuple" = none
 list:mg "list" = none
 set:mg "set" = none
 len:mg "len" = none
 all:mg "all" = none
 any:mg "any" = none
 enum:mg "enumerate" = none
 range:mg "range" = none
 max:mg "max" = none
 min:mg "min" = none
structure Cst (mg:Str->Option Value):Prop where
 first:∃t,mg "FIRST" = some (.int 2 t)
 great:∃t,mg "GREATEST_SIZE" = some (.int 12 t)
def vN (r:List Nat):List V:=r.map λn:Nat=>V.int (n:Int)
theorem vN_len (r:List Nat):(vN r).length=r.length:=List.length_map ..
theorem vN_get {r:List Nat}{i:Nat}{x:V}(h:(vN r)[i]?=some x):∃n:Nat,r[i]?=some n/\x=.int (n:Int):=by
 unfold vN at h
 rw[List.getElem?_map] at h
 obtain⟨n,h1,h2⟩:=Option.map_eq_some_iff.mp h
 exact⟨n,h1,h2.symm⟩
theorem vN_at {r:List Nat}{i n:Nat}(h:r[i]?=some n):(vN r)[i]?=some (.int (n:Int)):=by
 unfold vN
 rw[List.getElem?_map,h];rfl
theorem vN_atI {r:List Nat}{i n:Nat}(h:r[i]?=some n):atI (vN r) (i:Int)=some (.int (n:Int)):=atI_nat (vN_at h)
theorem vN_int (r:List Nat):vN r=(r.map λn:Nat=>(n:Int)).map V.int:=by unfold vN;rw[List.map_map];rfl
def RowsAt (H:Hp) (p:Addr) (rows:List Row):Prop:=∃bs:List Addr,H p=some (.tup (bs.map V.ref))/\bs.length=rows.length/\∀(i:Nat) b r,bs[i]?=some b->rows[i]?=some r->H b=some (.tup (vN r))
theorem RowsAt.mono {H H':Hp}{p:Addr}{rows:List Row}(h:RowsAt H p rows) (t:Tups H H'):RowsAt H' p rows:=by
 obtain⟨bs,h1,h2,h3⟩:=h
 exact⟨bs,t _ _ h1,h2,λi b r e1 e2=>t _ _ (h3 i b r e1 e2)⟩
theorem RowsAt.same {H H':Hp}{p:Addr}{rows:List Row}(h:RowsAt H p rows) (t:Same H H'):RowsAt H' p rows:=h.mono t.tups
def RowsS (H:Hp) (p:Addr) (rows:List Row):Prop:=∃bs:List Addr,(H p=some (.tup (bs.map V.ref))\/H p=some (.lst (bs.map V.ref)))/\bs.length=rows.length/\∀(i:Nat) b r,bs[i]?=some b->rows[i]?=some r->H b=some (.tup (vN r))
section
variable {P:Program}{w:World}{K:PySem.W.Frag}{mg:Str->Option Value}{base:Heap}
theorem scWhole:FnScope ["thing"] ["thing"] (defScope sWhole):=⟨rfl,rfl,rfl,by decide +kernel,rfl,by decide +kernel,by decide +kernel⟩
def spWhole:Sp:=λvs H Q _=>∃i:Int,vs=[.int i]/\Q (.bl true) H
theorem ok_whole {f:Addr}{fd:FuncData}(F:Fun K "is_whole" "is_whole" sWhole f fd) (B:Blt mg):FnOk P w K mg base CX0 1 f fd ["thing"] spWhole:=by
 refine F.ok scWhole (λvs H Q E h=>?_) (λcdv A outer s H vs Q E hr h=>?_)
 ·obtain⟨i,rfl,_⟩:=h
  rfl
 ·obtain⟨i,rfl,q⟩:=h
  refine⟨_,pss_one (ps_ret (pe_and (pe_callB call_isi (by rfl) B.isi PyProof.Rows.boot_isinstance (pa_cons (pv 0) (pa_cons (pe_bltn (v:=.ty "int") (by rfl) B.int PyProof.Rows.boot_int rfl) pa_nil)))
   (pe_one (pe_not (pe_callB call_isi (by rfl) B.isi PyProof.Rows.boot_isinstance (pa_cons (pv 0) (pa_cons (pe_bltn (v:=.ty "bool") (by rfl) B.bool PyProof.Rows.boot_bool rfl) pa_nil))))))),?_⟩
  exact⟨_,rfl,_,_,_,_,true,rfl,rfl,.inl (.int i),rfl,_,rfl,iteT ⟨_,rfl,_,_,_,_,false,rfl,rfl,.inl (.int i),rfl,_,rfl,q⟩⟩
theorem scSize:FnScope ["thing"] ["thing"] (defScope sSize):=⟨rfl,rfl,rfl,by decide +kernel,rfl,by decide +kernel,by decide +kernel⟩
def spSize:Sp:=λvs H Q _=>∃n:Nat,vs=[.int n]/\n<=12/\Q (.bl true) H
theorem ok_size {f fW:Addr}{fd fdW:FuncData}(F:Fun K "is_size" "is_size" sSize f fd) (B:Blt mg) (T:Cst mg) (hW:mg "is_whole" = some (.ref fW)) (FW:Fun K "is_whole" "is_whole" sWhole fW fdW) (bW:Binds K fdW ["thing"] []):FnOk P w K mg base CX0 2 f fd ["thing"] spSize:=by
 have GW:FnOk P w K mg base CX0 1 fW fdW ["thing"] spWhole:=ok_whole FW B
 obtain⟨tg,hgr⟩:=T.great
 refine F.ok scSize (λvs H Q E h=>?_) (λcdv A outer s H vs Q E hr h=>?_)
 ·obtain⟨x,rfl,_⟩:=h
  rfl
 ·obtain⟨n,rfl,hn,q⟩:=h
  refine⟨_,pss_one (ps_ret (pe_and (pe_call GW hr (by rfl) hW FW.kp bW .nil pass0 (pa_cons (pv 0) pa_nil)) (pe_one (pe_chain op_le op_le pe_int (pv 0) (pe_glob (v:=.int 12) (by rfl) hgr ⟨_,rfl⟩))))),?_⟩
  refine⟨_,rfl,n,rfl,_,rfl,iteT ⟨_,rfl,_,_,rfl,rfl,_,rfl,?_⟩⟩
  have e:decide ((n:Int)<=12)=true:=decide_eq_true (by lia)
  refine ite2 (λ_=>⟨_,_,rfl,rfl,?_⟩) (λh1=>absurd (decide_eq_true (Int.natCast_nonneg n)) h1)
  show Q (V.bl (decide ((n:Int)<=12))) H
  rw[e];exact q
theorem scNumber:FnScope ["thing", "many"] ["thing", "many"] (defScope sNumber):=⟨rfl,rfl,rfl,by decide +kernel,rfl,by decide +kernel,by decide +kernel⟩
def spNumber:Sp:=λvs H Q _=>∃n m:Nat,vs=[.int n,.int m]/\n<m+2/\Q (.bl true) H
theorem ok_number {f fW:Addr}{fd fdW:FuncData}(F:Fun K "is_number" "is_number" sNumber f fd) (B:Blt mg) (T:Cst mg) (hW:mg "is_whole" = some (.ref fW)) (FW:Fun K "is_whole" "is_whole" sWhole fW fdW) (bW:Binds K fdW ["thing"] []):FnOk P w K mg base CX0 2 f fd ["thing", "many"] spNumber:=by
 have GW:FnOk P w K mg base CX0 1 fW fdW ["thing"] spWhole:=ok_whole FW B
 obtain⟨tf,hf⟩:=T.first
 refine F.ok scNumber (λvs H Q E h=>?_) (λcdv A outer s H vs Q E hr h=>?_)
 ·obtain⟨n,m,rfl,_⟩:=h
  rfl
 ·obtain⟨n,m,rfl,hn,q⟩:=h
  refine⟨_,pss_one (ps_ret (pe_and (pe_call GW hr (by rfl) hW FW.kp bW .nil pass0 (pa_cons (pv 0) pa_nil)) (pe_one (pe_chain op_le op_lt pe_int (pv 0) (pe_op op_add (pv 1) (pe_glob (v:=.int 2) (by rfl) hf ⟨_,rfl⟩)))))),?_⟩
  refine⟨_,rfl,n,rfl,_,rfl,iteT ⟨_,rfl,_,_,rfl,rfl,_,rfl,?_⟩⟩
  have e:decide ((n:Int)<(m:Int)+2)=true:=decide_eq_true (by lia)
  refine ite2 (λ_=>⟨_,rfl,_,_,rfl,rfl,_,_,rfl,rfl,?_⟩) (λh1=>absurd (decide_eq_true (Int.natCast_nonneg n)) h1)
  show Q (V.bl (decide ((n:Int)<(m:Int)+2))) H
  rw[e];exact q
theorem scPlain:FnScope ["row"] ["row"] (defScope sPlain):=⟨rfl,rfl,rfl,by decide +kernel,rfl,by decide +kernel,by decide +kernel⟩
def spPlain:Sp:=λvs H Q _=>∃(b:Addr) (r:Row),vs=[.ref b]/\H b=some (.tup (vN r))/\r.length=4/\∀H',Same H H'->Q (.bl (decide (Plain r))) H'
theorem int_inj {l m:List Nat}(h:(l.map λn:Nat=>(n:Int))=m.map λn:Nat=>(n:Int)):l=m:=by
 induction l generalizing m with
 |nil=>cases m with
  |nil=>rfl
  |cons b m=>simp at h
 |cons a l ih=>cases m with
  |nil=>simp at h
  |cons b m=>
   rw[List.map_cons,List.map_cons] at h
   injection h with h1 h2
   rw[ih h2,Int.ofNat.inj h1]
theorem ok_plain {f:Addr}{fd:FuncData}(F:Fun K "is_plain" "is_plain" sPlain f fd) (T:Cst mg):FnOk P w K mg base CX0 2 f fd ["row"] spPlain:=by
 obtain⟨tf,hf⟩:=T.first
 refine F.ok scPlain (λvs H Q E h=>?_) (λcdv A outer s H vs Q E hr h=>?_)
 ·obtain⟨b,r,rfl,_⟩:=h
  rfl
 ·obtain⟨b,r,rfl,hb,hl,q⟩:=h
  refine⟨_,pss_one (ps_ret (pe_and (pe_cmpR op_lt (pe_ix ix_tup (pv 0) pe_int (λ_ _=>rfl)) (pe_glob (v:=.int 2) (by rfl) hf ⟨_,rfl⟩) (nomark _))
   (pe_one (pe_cmpR (op_eqD hr) (pv 0) (pe_op op_repT (pe_tup (pa_cons (pe_ix ix_tup (pv 0) pe_int (λ_ _=>rfl)) pa_nil)) pe_int) (nomark _))))),?_⟩
  match r,hl with
  |[x0,x1,x2,x3],_=>
   refine⟨_,rfl,b,_,0,.int x0,rfl,rfl,SqT.of hb,rfl,_,_,rfl,rfl,_,rfl,?_⟩
   refine ite2 (λhc=>?_) (λhc=>?_)
   ·have h2:x0<2:=by have:=of_decide_eq_true hc;lia
    refine⟨_,rfl,_,rfl,b,_,0,.int x0,rfl,rfl,SqT.of hb,rfl,(by show 1<=sizeLine;decide),λp hp=>⟨p,4,.int x0,rfl,rfl,upd_same,by decide,by decide,λp2 hp2=>?_⟩⟩
    have hb2:=keepU (u:=.tup (List.replicate 4 (V.int x0))) (keepU (u:=.tup [V.int x0]) hb hp) hp2
    refine⟨dT [(x0:Int),(x1:Int),(x2:Int),(x3:Int)],dT [(x0:Int),(x0:Int),(x0:Int),(x0:Int)],.tup hb2 (DatasAt.ints [(x0:Int),(x1:Int),(x2:Int),(x3:Int)]),.tup upd_same (DatasAt.ints [(x0:Int),(x0:Int),(x0:Int),(x0:Int)]),dT_lay _,dT_lay _,(by show 1<=60;decide),?_⟩
    rw[dT_eqv]
    have e:decide (([(x0:Int),(x1:Int),(x2:Int),(x3:Int)]:List Int)=([(x0:Int),(x0:Int),(x0:Int),(x0:Int)]:List Int))=decide (Plain [x0,x1,x2,x3]):=by
     congr 1
     apply propext
     unfold Plain
     constructor
     ·intro z
      have:[x0,x1,x2,x3]=[x0,x0,x0,x0]:=int_inj (l:=[x0,x1,x2,x3]) (m:=[x0,x0,x0,x0]) z
      have:x0=0\/x0=1:=by lia
      rcases this with rfl|rfl
      ·exact .inl ‹_›
      ·exact .inr ‹_›
     ·rintro (z|z)<;>(cases z;rfl)
    rw[e]
    exact q _ ((sameU hp).trans (sameU hp2))
   ·have h2:¬x0<2:=λz=>hc (decide_eq_true (by lia))
    have e:decide (Plain [x0,x1,x2,x3])=false:=decide_eq_false (by
     rintro (z|z)<;>(cases z;lia))
    have:=q H (Same.refl H)
    rw[e] at this
    exact this
end
end Pr
namespace Qf
theorem mx_snoc (l:List Nat) (a:Nat):mx (l++[a])=max (mx l) a:=by
 induction l with
 |nil=>show max a 0=max 0 a;lia
 |cons b l ih=>show max b (mx (l++[a]))=max (max b (mx l)) a;rw[ih];lia
theorem best_mx (l:List Nat):∀k,k<l.length->L2.best (l.map λn:Nat=>(n:Int)) k=(mx (l.take (k+1)):Nat)
 |0,h=>by
  cases l with
  |nil=>simp at h
  |cons a l=>show ((a:Nat):Int)=((max a 0:Nat):Int);simp
 |k+1,h=>by
  have ih:=best_mx l k (by lia)
  have e:(l.map λn:Nat=>(n:Int)).getD (k+1) 0=((l[k+1]:Nat):Int):=by simp[List.getD,h]
  have t:l.take (k+1+1)=l.take (k+1)++[l[k+1]]:=by rw[List.take_append_getElem h]
  unfold L2.best
  rw[e,ih,t,mx_snoc]
  split<;>lia
theorem best_all {l:List Nat}(h:l≠[]):L2.best (l.map λn:Nat=>(n:Int)) ((l.map λn:Nat=>(n:Int)).length-1)=(mx l:Nat):=by
 have hl:0<l.length:=List.length_pos_iff.mpr h
 rw[List.length_map,best_mx l (l.length-1) (by lia),show l.length-1+1=l.length by lia,List.take_length]
theorem deps_take {rows:List Row}{i:Nat}{r:Row}(h:rows[i]?=some r):deps (rows.take (i+1))=deps (rows.take i)++[1+mx (r.map (dp (rows.take i)))]:=by
 have hl:=(List.getElem?_eq_some_iff.mp h).1
 have he:=(List.getElem?_eq_some_iff.mp h).2
 rw[<- deps_snoc,<- he,List.take_append_getElem hl]
theorem dp_get {rows:List Row}{x:Nat}(h:x<rows.length+2):(deps rows)[x]?=some (dp rows x):=by
 unfold dp
 rw[List.getD_eq_getElem?_getD]
 have:x<(deps rows).length:=by rw[deps_len];exact h
 rw[List.getElem?_eq_getElem this];rfl
end Qf
namespace Pr
open PySem L2 Qf
theorem list_ext {xs ys:List V}(hl:xs.length=ys.length) (h:∀(i:Nat) x,xs[i]?=some x->ys[i]?=some x):xs=ys:=by
 refine List.ext_getElem? λi=>?_
 cases e:xs[i]? with
 |some x=>exact (h i x e).symm
 |none=>
  have:xs.length<=i:=List.getElem?_eq_none_iff.mp e
  exact (List.getElem?_eq_none (by lia)).symm
section
variable {P:Program}{w:World}{K:PySem.W.Frag}{mg:Str->Option Value}{base:Heap}
theorem scDeps:FnScope ["rows", "depths", "row"] ["rows"] (defScope sDeps):=⟨rfl,rfl,rfl,by decide +kernel,rfl,by decide +kernel,by decide +kernel⟩
def spDeps:Sp:=λvs H Q _=>∃(p:Addr) (rows:List Row),vs=[.ref p]/\RowsAt H p rows/\RowsOk rows/\rows.length<=900/\∀H' D,Same H H'->H' D=some (.lst (vN (deps rows)))->Q (.ref D) H'
theorem ok_deps {f:Addr}{fd:FuncData}(F:Fun K "depths_of" "depths_of" sDeps f fd) (B:Blt mg):FnOk P w K mg base CX0 1 f fd ["rows"] spDeps:=by
 refine F.ok scDeps (λvs H Q E h=>?_) (λcdv A outer s H vs Q E hr h=>?_)
 ·obtain⟨p,rows,rfl,_⟩:=h
  rfl
 ·obtain⟨p,rows,rfl,hR,ok,hn,q⟩:=h
  refine⟨_,pss_cons (ps_set (i:=1) scDeps.nd rfl (by first|exact Or.inl rfl|exact Or.inr rfl) (pe_lst (pa_cons pe_int (pa_cons pe_int pa_nil))))
   (pss_cons (ps_for PassesOwn.never rfl (pi_tup (pv 0)) (pg_name (i:=2) scDeps.nd rfl (by first|exact Or.inl rfl|exact Or.inr rfl))
    (pss_one (ps_expr (pe_bm PySem.F.plainAttrs_list PySem.F.slot_list_append PySem.F.type_list_append mt_append (pv 1) (pa_cons (pe_op op_add pe_int (pe_callB (call_maxL rfl) (by rfl) B.max PyProof.Rows.boot_max
     (pa_cons (pe_compB ["rows", "depths", "row"] (defScope sDeps) rfl rfl rfl scDeps.nd (pi_tup (pv 2)) (λcl C fp s₀ H₀=>pe_ix (ixL K rfl) (pv 2) (pv 0) (λ_ _=>rfl))) pa_nil))) pa_nil)))))
   (pss_one (ps_ret (pv 1)))),?_⟩
  refine⟨(by show 2<=sizeLine;decide),λD hD=>?_⟩
  obtain⟨bs,hp,hlen,hrow⟩:=id hR
  have hp1:=keepU (u:=.lst [.int 0,.int 0]) hp hD
  have hlb:(bs.map V.ref).length=rows.length:=by rw[List.length_map];exact hlen
  refine⟨_,rfl,p,rfl,⟨_,SqT.of hp1⟩,for_tup (K:=K) (a:=p) (xs:=bs.map V.ref) (λi σ H2=>Same H H2/\H2 D=some (.lst (vN (deps (rows.take i))))/\∃v2,σ=[some (.ref p),some (.ref D),v2])
   ⟨sameU hD,upd_same,none,rfl⟩ (λi σ H2 _ ⟨s2,_⟩=>SqT.of (s2 _ _ hp)) ?_ ?_⟩
  ·rintro i y σ H2 hy ⟨s2,hd2,v2,rfl⟩
   have hi:i<rows.length:=by rw[<- hlb];exact (List.getElem?_eq_some_iff.mp hy).1
   rw[List.getElem?_map] at hy
   obtain⟨b,hb,rfl⟩:=Option.map_eq_some_iff.mp hy
   have hr1:rows[i]?=some rows[i]:=by simp[hi]
   have hbt:=s2 _ _ (hrow i b rows[i] hb hr1)
   have rk:=ok i _ hr1
   have tl:(rows.take i).length=i:=by rw[List.length_take];lia
   have hds:∀x,x<i+2->(deps (rows.take i))[x]?=some (dp (rows.take i) x):=λx hx=>dp_get (by rw[tl];exact hx)
   generalize rows[i]=r at hr1 hbt rk
   refine⟨_,rfl,.inl ⟨rfl,_,SqL.of hd2⟩,_,rfl,b,rfl,⟨_,SqT.of hbt⟩,λD2 hD2=>comp_walk hD2 (λj z _=>∃x,r[j]?=some x/\z=.int (dp (rows.take i) x:Nat)) (goes_tup (K:=K) hbt) (by rw[vN_len,rk.1];decide) (λ_ _ _ _ _ _ h=>h) ?_ ?_⟩
   ·intro j x H3 hj hx s3 Q' hq
    obtain⟨m,hm,rfl⟩:=vN_get hx
    have hlt:=rk.2 m (List.mem_of_getElem? hm)
    exact⟨_,rfl,_,rfl,D,_,(m:Int),.int (dp (rows.take i) m:Nat),rfl,rfl,SqL.of (s3 _ _ hd2),vN_atI (hds m hlt),hq _ _ (Same.refl _) ⟨m,hm,rfl⟩⟩
   ·intro ys H3 s3 hd3 hly hys
    have ey:ys=(r.map (dp (rows.take i))).map (λn:Nat=>V.int (n:Int)):=by
     refine list_ext (by rw[hly,vN_len,List.length_map,List.length_map]) λj x hx=>?_
     obtain⟨m,hm,rfl⟩:=hys j x hx
     rw[List.getElem?_map,List.getElem?_map,hm];rfl
    have e2:ys=((r.map (dp (rows.take i))).map (λn:Nat=>(n:Int))).map V.int:=ey.trans (vN_int _)
    have hne:r.map (dp (rows.take i))≠[]:=λz=>by
     have:=congrArg List.length z
     rw[List.length_map,rk.1] at this
     cases this
    refine⟨D2,(r.map (dp (rows.take i))).map (λn:Nat=>(n:Int)),rfl,e2▸hd3,λz=>hne (List.map_eq_nil_iff.mp z),_,_,rfl,rfl,?_⟩
    rw[best_all hne]
    have hd4:=s3 _ _ hd2
    refine⟨D,_,_,rfl,rfl,hd4,?_,?_⟩
    ·rw[vN_len,deps_len,tl];exact small1000 (by lia)
    ·have nD:∀b o,H b=some o->b≠D:=λb o e=>ne_of_none e hD
     refine⟨λb o e=>by rw[upd_ne (nD b o e)];exact s3 _ _ (s2 _ _ e),?_,_,rfl⟩
     rw[upd_same,deps_take hr1]
     unfold vN
     rw[List.map_append]
     rfl
  ·rintro σ H2 ⟨s2,hd2,v2,rfl⟩
   refine⟨_,rfl,q H2 D s2 ?_⟩
   rw[hlb,List.take_length] at hd2
   exact hd2
end
end Pr
namespace Qf
end Qf
namespace Pr
open PySem L2 Qf
theorem smallM {n:Nat}(h:n<=1191000):n<sizeLine:=Nat.lt_of_le_of_lt h (by decide)
def But (e:Addr) (H H':Hp):Prop:=∀b o,H b=some o->b≠e->H' b=some o
theorem But.trans {e:Addr}{H H1 H2:Hp}(a:But e H H1) (b:But e H1 H2):But e H H2:=λc o h n=>b c o (a c o h n) n
theorem But.upd {e:Addr}{H:Hp}{o:HO}:But e H (upd H e o):=λb u h n=>by rw[upd_ne n];exact h
theorem But.of {e:Addr}{H H':Hp}(h:Same H H'):But e H H':=λb o q _=>h b o q
theorem But.tups {e:Addr}{H H':Hp}(h:But e H H'){o:HO}(he:H e=some o) (no:∀u,o≠.tup u):Tups H H':=λb u q=>h b _ q λz=>by
 subst z
 rw[q] at he
 exact no u (Option.some.inj he).symm
end Pr
namespace Pr
open PySem L2 Qf
def TellAt (H:Hp) (t:Addr) (n top:Nat) (rows:List Row):Prop:=∃p:Addr,H t=some (.tup [.int (n:Nat),.int (top:Nat),.ref p])/\RowsAt H p rows
theorem TellAt.mono {H H':Hp}{t:Addr}{n top:Nat}{rows:List Row}(h:TellAt H t n top rows) (s:Tups H H'):TellAt H' t n top rows:=by
 obtain⟨p,h1,h2⟩:=h
 exact⟨p,s _ _ h1,h2.mono s⟩
theorem all_yes {ys:List V}(h:∀(i:Nat) y,ys[i]?=some y->y=.bl true):ys=(List.replicate ys.length true).map V.bl:=by
 refine list_ext (by simp) λi x hx=>?_
 have hi:=(List.getElem?_eq_some_iff.mp hx).1
 rw[h i x hx]
 simp[hi]
theorem rep_all (k:Nat):(List.replicate k true).all id=true:=by
 rw[List.all_eq_true]
 intro x hx
 exact (List.mem_replicate.mp hx).2
section
variable {P:Program}{w:World}{K:PySem.W.Frag}{mg:Str->Option Value}{base:Heap}
theorem scRow:FnScope ["thing", "before"] ["thing", "before"] (defScope sRow):=⟨rfl,rfl,rfl,by decide +kernel,rfl,by decide +kernel,by decide +kernel⟩
def spRow:Sp:=λvs H Q _=>∃(b:Addr) (i:Nat) (r:Row),vs=[.ref b,.int (i:Nat)]/\H b=some (.tup (vN r))/\RowOk i r/\∀H',Same H H'->Q (.bl true) H'
theorem ok_row {f fN:Addr}{fd fdN:FuncData}(F:Fun K "is_row" "is_row" sRow f fd) (B:Blt mg) (hN:mg "is_number" = some (.ref fN)) (FN:Fun K "is_number" "is_number" sNumber fN fdN) (bN:Binds K fdN ["thing", "many"] []) (GN:FnOk P w K mg base CX0 2 fN fdN ["thing", "many"] spNumber):FnOk P w K mg base CX0 3 f fd ["thing", "before"] spRow:=by
 refine F.ok scRow (λvs H Q E h=>?_) (λcdv A outer s H vs Q E hr h=>?_)
 ·obtain⟨b,i,r,rfl,_⟩:=h
  rfl
 ·obtain⟨b,i,r,rfl,hb,rk,q⟩:=h
  refine⟨_,pss_cons (ps_if (pw_or (pt_not (pt_val (pe_callB call_isi (by rfl) B.isi PyProof.Rows.boot_isinstance (pa_cons (pv 0) (pa_cons (pe_bltn (v:=.ty "tuple") (by rfl) B.tuple PyProof.Rows.boot_tuple rfl) pa_nil)))))
    (pw_or1 (pt_cmpR op_ne (pe_callB call_len_seq (by rfl) B.len PySem.boot_len (pa_cons (pv 0) pa_nil)) pe_int (nomark _)))).pt (pss_one (ps_ret pe_bl)) pss_nil)
   (pss_one (ps_ret (pe_callB (call_allL rfl) (by rfl) B.all PyProof.Rows.boot_all (pa_cons (pe_compB ["thing", "before"] (defScope sRow) rfl rfl rfl scRow.nd (piT K rfl (pv 0)) (λcl C fp s₀ H₀=>pe_call GN hr (by rfl) hN FN.kp bN .nil pass0 (pa_cons (pv 0) (pa_cons (pv 2) pa_nil)))) pa_nil)))),?_⟩
  refine⟨_,rfl,_,_,_,_,true,rfl,rfl,.inl (.tup hb),rfl,_,rfl,iteF ⟨_,rfl,b,_,rfl,.inr (SqT.of hb),rfl,_,rfl,iteNS (by rw[vN_len,rk.1];rfl) ?_⟩⟩
  refine⟨_,rfl,b,rfl,⟨_,SqT.of hb⟩,λD hD=>comp_walk hD (λ_ z _=>z=.bl true) (goes_tup (K:=K) hb) (by rw[vN_len,rk.1];decide) (λ_ _ _ _ _ _ h=>h) ?_ ?_⟩
  ·intro j x H3 hj hx s3 Q' hq
   obtain⟨m,hm,rfl⟩:=vN_get hx
   exact⟨_,rfl,_,rfl,m,i,rfl,rk.2 m (List.mem_of_getElem? hm),hq _ _ (Same.refl _) rfl⟩
  ·intro ys H3 s3 hd3 hly hys
   have e:=all_yes hys
   refine⟨D,List.replicate ys.length true,rfl,by rw[<- e];exact hd3,?_⟩
   rw[rep_all]
   exact q H3 s3
theorem scRows:FnScope ["thing"] ["thing"] (defScope sRows):=⟨rfl,rfl,rfl,by decide +kernel,rfl,by decide +kernel,by decide +kernel⟩
def spRows:Sp:=λvs H Q _=>∃(p:Addr) (rows:List Row),vs=[.ref p]/\RowsAt H p rows/\RowsOk rows/\rows.length<=900/\∀H',Same H H'->Q (.bl true) H'
theorem ok_rows {f fR:Addr}{fd fdR:FuncData}(F:Fun K "are_rows" "are_rows" sRows f fd) (B:Blt mg) (hR:mg "is_row" = some (.ref fR)) (FR:Fun K "is_row" "is_row" sRow fR fdR) (bR:Binds K fdR ["thing", "before"] []) (GR:FnOk P w K mg base CX0 3 fR fdR ["thing", "before"] spRow):FnOk P w K mg base CX0 4 f fd ["thing"] spRows:=by
 refine F.ok scRows (λvs H Q E h=>?_) (λcdv A outer s H vs Q E hr h=>?_)
 ·obtain⟨p,rows,rfl,_⟩:=h
  rfl
 ·obtain⟨p,rows,rfl,hRows,ok,hn,q⟩:=h
  obtain⟨bs,hp,hlen,hrow⟩:=id hRows
  refine⟨_,pss_one (ps_ret (pe_and (pe_callB call_isi (by rfl) B.isi PyProof.Rows.boot_isinstance (pa_cons (pv 0) (pa_cons (pe_bltn (v:=.ty "tuple") (by rfl) B.tuple PyProof.Rows.boot_tuple rfl) pa_nil)))
   (pe_one (pe_callB (call_allL rfl) (by rfl) B.all PyProof.Rows.boot_all (pa_cons (pe_comp2 ["thing"] (defScope sRows) rfl rfl rfl scRows.nd (pi_enumT (by rfl) B.enum (pa_cons (pv 0) pa_nil)) (λcl C fp s₀ H₀=>pe_call GR hr (by rfl) hR FR.kp bR .nil pass0 (pa_cons (pv 1) (pa_cons (pv 0) pa_nil)))) pa_nil))))),?_⟩
  refine⟨_,rfl,_,_,_,_,true,rfl,rfl,.inl (.tup hp),rfl,_,rfl,iteT ?_⟩
  have hlb:(bs.map V.ref).length=rows.length:=by rw[List.length_map];exact hlen
  refine⟨_,rfl,p,rfl,⟨_,SqT.of hp⟩,λD hD=>compG_walk hD (λ_=>true) (λ_=>.bl true) (goes_enum (K:=K) hp) (by rw[hlb];exact small1000 (by lia)) ?_ ?_⟩
  ·rintro i x H2 hi ⟨t,y,rfl,hy,ht⟩ s2 os ho Q1 Q2 q1 q2
   match os,ho with
   |[o1,o2],_=>
    have hi2:i<rows.length:=by rw[<- hlb];exact hi
    rw[List.getElem?_map] at hy
    obtain⟨b,hb,rfl⟩:=Option.map_eq_some_iff.mp hy
    have hr1:rows[i]?=some rows[i]:=by simp[hi2]
    refine⟨t,_,rfl,SqT.of ht,rfl,_,_,rfl,_,_,rfl,rfl,?_⟩
    refine iteT (B:=Q1 H2) ?_
    exact⟨_,rfl,_,rfl,b,i,rows[i],rfl,s2 _ _ (hrow i b _ hb hr1),ok i _ hr1,λH3 s3=>q2 rfl H3 s3⟩
  ·intro H2 s2 hd2
   refine⟨D,List.replicate (bs.map V.ref).length true,rfl,?_,?_⟩
   ·rw[hd2]
    congr 2
    rw[List.map_replicate,List.filter_eq_self.mpr (λ_ _=>rfl)]
    refine list_ext (by simp) λi x hx=>?_
    have hi:=(List.getElem?_eq_some_iff.mp hx).1
    rw[List.getElem?_map] at hx
    obtain⟨_,_,rfl⟩:=Option.map_eq_some_iff.mp hx
    simp at hi
    rw[List.length_map,List.getElem?_replicate,if_pos hi]
   ·rw[rep_all]
    exact q H2 s2
theorem scTelling:FnScope ["thing", "n", "top", "rows"] ["thing"] (defScope sTelling):=⟨rfl,rfl,rfl,by decide +kernel,rfl,by decide +kernel,by decide +kernel⟩
def spTelling:Sp:=λvs H Q _=>∃(t:Addr) (n tp:Nat) (rows:List Row),vs=[.ref t]/\TellAt H t n tp rows/\n<=12/\RowsOk rows/\rows.length<=900/\tp<rows.length+2/\dp rows tp<=n/\∀H',Same H H'->Q (.bl true) H'
theorem ok_telling {f fS fR fN fD:Addr}{fd fdS fdR fdN fdD:FuncData}(F:Fun K "is_telling" "is_telling" sTelling f fd) (B:Blt mg)
  (hS:mg "is_size" = some (.ref fS)) (FS:Fun K "is_size" "is_size" sSize fS fdS) (bS:Binds K fdS ["thing"] []) (GS:FnOk P w K mg base CX0 2 fS fdS ["thing"] spSize)
  (hR:mg "are_rows" = some (.ref fR)) (FR:Fun K "are_rows" "are_rows" sRows fR fdR) (bR:Binds K fdR ["thing"] []) (GR:FnOk P w K mg base CX0 4 fR fdR ["thing"] spRows)
  (hN:mg "is_number" = some (.ref fN)) (FN:Fun K "is_number" "is_number" sNumber fN fdN) (bN:Binds K fdN ["thing", "many"] []) (GN:FnOk P w K mg base CX0 2 fN fdN ["thing", "many"] spNumber)
  (hD:mg "depths_of" = some (.ref fD)) (FD:Fun K "depths_of" "depths_of" sDeps fD fdD) (bD:Binds K fdD ["rows"] []):FnOk P w K mg base CX0 5 f fd ["thing"] spTelling:=by
 have GD:FnOk P w K mg base CX0 1 fD fdD ["rows"] spDeps:=ok_deps FD B
 refine F.ok scTelling (λvs H Q E h=>?_) (λcdv A outer s H vs Q E hr h=>?_)
 ·obtain⟨t,n,tp,rows,rfl,_⟩:=h
  rfl
 ·obtain⟨t,n,tp,rows,rfl,⟨p,ht,hRows⟩,hn,ok,hl,htp,hd,q⟩:=h
  have hr1:Room 1 _:=hr.mono (by decide)
  have hr2:Room 2 _:=hr.mono (by decide)
  refine⟨_,pss_cons (ps_if (pw_or (pt_not (pt_val (pe_callB call_isi (by rfl) B.isi PyProof.Rows.boot_isinstance (pa_cons (pv 0) (pa_cons (pe_bltn (v:=.ty "tuple") (by rfl) B.tuple PyProof.Rows.boot_tuple rfl) pa_nil)))))
    (pw_or1 (pt_cmpR op_ne (pe_callB call_len_seq (by rfl) B.len PySem.boot_len (pa_cons (pv 0) pa_nil)) pe_int (nomark _)))).pt (pss_one (ps_ret pe_bl)) pss_nil)
   (pss_cons (ps_asg (pv 0) (pg_tup rfl (pgs_cons (pg_name (i:=1) scTelling.nd rfl (Or.inl rfl)) (pgs_cons (pg_name (i:=2) scTelling.nd rfl (Or.inl rfl)) (pgs_cons (pg_name (i:=3) scTelling.nd rfl (Or.inl rfl)) pgs_nil)))))
   (pss_cons (ps_if (pw_or (pt_not (pt_val (pe_call GS hr2 (by rfl) hS FS.kp bS .nil pass0 (pa_cons (pv 1) pa_nil))))
    (pw_or (pt_not (pt_val (pe_call GR hr (by rfl) hR FR.kp bR .nil pass0 (pa_cons (pv 3) pa_nil))))
    (pw_or1 (pt_not (pt_val (pe_call GN hr2 (by rfl) hN FN.kp bN .nil pass0 (pa_cons (pv 2) (pa_cons (pe_callB call_len_seq (by rfl) B.len PySem.boot_len (pa_cons (pv 3) pa_nil)) pa_nil)))))))).pt (pss_one (ps_ret pe_bl)) pss_nil)
   (pss_one (ps_ret (pe_cmpR op_le (pe_ix ix_list (pe_call GD hr1 (by rfl) hD FD.kp bD .nil pass0 (pa_cons (pv 3) pa_nil)) (pv 2) (λ_ _=>rfl)) (pv 1) (nomark _)))))),?_⟩
  refine⟨_,rfl,_,_,_,_,true,rfl,rfl,.inl (.tup ht),rfl,_,rfl,iteF ⟨_,rfl,t,_,rfl,.inr (SqT.of ht),rfl,_,rfl,iteF ?_⟩⟩
  refine⟨_,rfl,t,_,rfl,SqT.of ht,rfl,_,_,rfl,_,_,rfl,_,_,rfl,rfl,?_⟩
  refine⟨_,rfl,n,rfl,hn,_,rfl,iteF ⟨_,rfl,p,rows,rfl,hRows,ok,hl,λH2 s2=>⟨_,rfl,iteF ?_⟩⟩⟩
  obtain⟨bs,hp,hlen,hrow⟩:=id hRows
  refine⟨_,rfl,_,rfl,p,_,rfl,.inr (SqT.of (s2 _ _ hp)),tp,rows.length,by rw[List.length_map,hlen];rfl,htp,_,rfl,iteF ?_⟩
  refine⟨_,rfl,p,rows,rfl,hRows.same s2,ok,hl,λH3 D s3 hd3=>?_⟩
  refine⟨_,rfl,D,_,(tp:Int),.int (dp rows tp:Nat),rfl,rfl,SqL.of hd3,vN_atI (dp_get htp),_,rfl,_,_,rfl,rfl,?_⟩
  show Q (V.bl (decide ((dp rows tp:Int)<=(n:Int)))) H3
  rw[decide_eq_true (by lia)]
  exact q H3 (s2.trans s3)
end
end Pr
namespace Pr
open PySem L2 Qf
def keyN (r:List Nat):List Key:=r.map λn:Nat=>Sum.inl (n:Int)
theorem keyN_V (r:List Nat):(keyN r).map kV=vN r:=by unfold keyN vN;rw[List.map_map];rfl
theorem keyN_inj {l m:List Nat}(h:keyN l=keyN m):l=m:=by
 have:vN l=vN m:=by rw[<- keyN_V,<- keyN_V,h]
 rw[vN_int,vN_int] at this
 exact int_inj ((List.map_inj_right (λ_ _ z=>V.int.inj z)).mp this)
theorem depth_ints (ns:List Int):PyData.depthAll (ns.map PyData.int)<=1:=by
 induction ns with
 |nil=>simp[PyData.depthAll]
 |cons a ns ih=>
  rw[List.map_cons]
  simp only[PyData.depthAll,PyData.depth]
  lia
theorem dT_depth (ns:List Int):(dT ns).depth<=2:=by
 have:=depth_ints ns
 unfold dT
 simp only[PyData.depth]
 lia
end Pr
namespace L2
open PySem PySem.Spec PyProof.Rows
section
variable {X:Cx}
theorem ps_compG {i0:Nat}{x0:Str}{px0 spos:Pos}{nn:List Str}{tg:Expr}{ifs:List Expr}{pos:Pos}{elt iter:Expr}{scope:Scope}{wi:TI}{g:TG}{tt:TT}{te:TE}(T:Env->Sem Bool) (hc:X.calm=true) (hi:PI X tg iter wi)
  (hturn:∀it acc env,compTurn (.ListComp elt [⟨tg,iter,ifs,0⟩] scope pos) 0 it acc env=(standAt iter.pos >>= λ_=>pyNext it >>= λr=>match r with
   |none=>pure (.done .next)
   |some v=>letOwnedTupleGo tg it v >>= λ_=>assign tg env v >>= λ_=>T env >>= λok=>(if ok=true then (eval elt env >>= λx=>call (.builtin "list.append") [acc,x] >>= λ_=>pure ()) else pure ()) >>= λ_=>
     again (.compLoop (.ListComp elt [⟨tg,iter,ifs,0⟩] scope pos) 0 it acc env)))
  (hgt:∀cl C fp s₀ H₀,PG (compCxG X scope cl C nn fp s₀ H₀) tg g)
  (hloc2:∀y (os σ:St) H R,os.length=nn.length->g y (os++σ) H R->g y (os++σ) H λσ' H'=>(∃os':St,os'.length=nn.length/\σ'=os'++σ)/\R σ' H')
  (htt:∀cl C fp s₀ H₀ (pins:List (Addr×Obj)) (s:Shared) (σ:St) (H:Hp) (Q:Bool->Hp->Prop),Inv (compCxG X scope cl C nn fp s₀ H₀) pins σ H s->tt σ H Q->wpAny (model X.prog X.w) X.A (T (compEnvC scope cl C X.env)) (TP (compCxG X scope cl C nn fp s₀ H₀) pins σ Q) (λ_ _=>False) s)
  (he:∀cl C fp s₀ H₀,PE (compCxG X scope cl C nn fp s₀ H₀) elt te)
  (hkind:scope.kind=.function) (hcell:∀y∈scope.names,y.2≠.cell) (hnames:∀y∈scope.names,y.2=.local->scope.names.lookup y.1=some .local)
  (hloc:∀y∈X.N,scope.names.lookup y≠some .local) (hfr:∀p∈scope.names,p.2=.free->Vis X.env.scope p.1/\X.env.scope.names.lookup p.1≠some .local)
  (hs:∀x,foldedSetIterable iter X.env x=pure x) (hN0:X.N.Nodup) (hi0:X.N[i0]?=some x0) (hx0:X.env.scope.names.lookup x0=some .local) (hsw:swapsWith (.ListComp elt [⟨tg,iter,ifs,0⟩] scope pos) (some (.Name x0 px0)) spos.line X.env=pure true) :
  PS X (.Assign [.Name x0 px0] (.ListComp elt [⟨tg,iter,ifs,0⟩] scope pos) spos) (tAsg (tCompG nn.length wi g tt te) (gName i0)):=by
 intro pins s σ H EE I h
 rw[exec_Assign_Name_used _ _ _ _ hsw]
 refine wpAny_bind (wpAny_standAt (wpAny_bind ?_))
 show wpAny _ X.A (do let _ <- comprehension (.ListComp elt [⟨tg,iter,ifs,0⟩] scope pos) scope X.env _ (newList []) false (eval iter X.env) (some (assign (.Name x0 px0) X.env))) _ _ s
 obtain⟨cl,hclos,hcl1,hcl2⟩:=closureFor_some (scope:=scope) (env:=X.env) (λp hp hk=>by
  obtain⟨hv,hn⟩:=hfr p hp hk
  refine I.ok.has p.1 ?_
  rcases hv with z|z
  ·exact absurd z hn
  ·exact z)
 refine wpAny_bind (wpAny_mono (wpAny_comprehension_free (use:=some (assign (.Name x0 px0) X.env)) (Q:=λ_ s'=>SP X pins EE .next s') rfl hs hclos hkind hnames (thn (hi pins s σ H _ I h) λv s1 h1=>thn h1 λitv s2 h2=>?_)) (λ_ s' hq=>wpAny_pure (wpAny_pure hq)) λ_ _ e=>e)
 obtain⟨it,fp,tn,J,H2,rfl,I2,T',st2,f2,q⟩:=h2
 have hD:H2 s2.heap.objs.size=none:=I2.hok.fresh (Nat.le_refl _)
 obtain⟨W,⟨m0,w0⟩,turn⟩:=q _ hD
 refine wpAny_newObj_type (wpAny_newFunctionEnv hcell (by intro y hy;simp at hy) (λh₁ hns₁ hsb₁=>?_) hkind)
 dsimp only at hns₁ hsb₁ ⊢
 have I3:Inv X pins σ (upd H2 s2.heap.objs.size (.lst [])) { s2 with heap:=s2.heap.push { cls:=.type "list",dict:=none,data:=.seq ([]:List Value).toArray } }:=
  I2.laid (t':=s2.toks) (λb u e=>Heap.get?_push_of_some _ e) (Nat.le_refl _) ⟨Nat.zero_le _,[],0,.nil,Heap.get?_push_size _ rfl⟩
 have fpn:∀b∈fp,b≠s2.heap.objs.size:=λb hb=>by
  obtain⟨o,e,_⟩:=T'.obj 0 s2.heap st2 b hb
  exact Nat.ne_of_lt (Heap.lt_size e)
 have fplt:∀b∈fp,b<(s2.heap.push { cls:=.type "list",dict:=none,data:=.seq ([]:List Value).toArray }).objs.size:=λb hb=>by
  obtain⟨o,e,_⟩:=T'.obj 0 s2.heap st2 b hb
  rw[Heap.size_push];exact Nat.lt_succ_of_lt (Heap.lt_size e)
 have f3:∀b∈fp,FpOk X pins (upd H2 s2.heap.objs.size (.lst [])) b:=λb hb=>⟨by rw[upd_ne (fpn b hb)];exact (f2 b hb).1,(f2 b hb).2⟩
 generalize hg2:s2.heap.push { cls:=.type "list",dict:=none,data:=.seq ([]:List Value).toArray }=g2 at hns₁ hsb₁ I3 fplt ⊢
 have keep:∀b o,g2.get? b=some o->h₁.get? b=some o:=λb o e=>(hsb₁.2 b (Nat.ne_of_lt (Heap.lt_size e))).trans (Heap.get?_push_of_some _ e)
 have J0:=compG_start (nn:=nn) (tk:=s2.toks+([]:List (Str×Value)).length) I3 (C:=g2.objs.size) rfl keep hns₁ f3 fplt hkind hcell hloc hcl1 hcl2 hfr
 generalize hY:compCxG X scope cl g2.objs.size nn fp { s2 with heap:=g2 } (upd H2 s2.heap.objs.size (.lst []))=Y at J0
 have eY:PE Y elt te:=by rw[<- hY];exact he _ _ _ _ _
 have eG:PG Y tg g:=by rw[<- hY];exact hgt _ _ _ _ _
 have eT:∀(pins:List (Addr×Obj)) (s:Shared) (σ:St) (H:Hp) (Q:Bool->Hp->Prop),Inv Y pins σ H s->tt σ H Q->wpAny (model Y.prog Y.w) Y.A (T Y.env) (TP Y pins σ Q) Y.xe s:=by rw[<- hY];exact htt _ _ _ _ _
 have eP:Y.prog=X.prog:=by rw[<- hY];rfl
 have eW:Y.w=X.w:=by rw[<- hY];rfl
 have eK:Y.K=X.K:=by rw[<- hY];rfl
 have eA:Y.A=X.A:=by rw[<- hY];rfl
 have eC:Y.calm=true:=by rw[<- hY];exact hc
 have eE:Y.env=compEnvC scope cl g2.objs.size X.env:=by rw[<- hY];rfl
 have eX:Y.xe=λ_ _=>False:=by rw[<- hY];rfl
 have eN:Y.N=nn++X.N:=by rw[<- hY];rfl
 have eEx:Y.ex=fp:=by rw[<- hY];rfl
 have eFs:Y.fs=frs X.stack:=by rw[<- hY];rfl
 have ePn:Y.pn=[]:=by rw[<- hY];rfl
 have fpY:∀{H':Hp},(∀b∈fp,H' b=none)->∀b∈fp,FpOk Y [] H' b:=λhn b hb=>by
  have g:=f3 b hb
  refine⟨hn b hb,?_,?_,.inl (by rw[eEx];exact hb),?_,λp hp=>absurd hp (by rw[ePn];simp)⟩
  ·rw[eE];exact Nat.ne_of_lt (fplt b hb)
  ·rw[eFs]
   intro z
   rcases List.mem_cons.mp (I3.stkSub b z) with z|z
   ·exact g.2.1 z
   ·exact g.2.2.1 z
  ·rw[eE]
   exact λy c e=>g.2.2.2.2.1 y c (hcl1 y c e)
 have loop:∀s₃:Shared,s₃={ s2 with heap:=h₁,toks:=s2.toks+([]:List (Str×Value)).length } ->
   codeAny (model X.prog X.w) X.A (.compLoop (.ListComp elt [⟨tg,iter,ifs,0⟩] scope pos) 0 (.ref it) (.ref s2.heap.objs.size) (compEnvC scope cl g2.objs.size X.env))
    (compPost (model X.prog X.w) X.A X.xe (some (assign (.Name x0 px0) X.env)) (λ_ s'=>SP X pins EE .next s') (.ref s2.heap.objs.size) g2.objs.size) s₃:=by
  rintro s₃ rfl
  refine compLoopG (T (compEnvC scope cl g2.objs.size X.env)) (hturn _ _ _) (λn s'=>∃i xs H' os,os.length=nn.length/\Inv Y [] (os++σ) H' s'/\tn i s'.heap/\(∀b∈fp,H' b=none)/\W i n xs H') ?_ m0
   ⟨0,[],_,nn.map λ_=>none,by simp,J0,T'.keep 0 _ _ st2 (λb hb o e=>keep b o (by rw[<- hg2];exact Heap.get?_push_of_some _ e)),λb hb=>(f3 b hb).1,w0⟩
  rintro n s3 ⟨i,xs,H3,os,hos,I4,st3,fr3,w3⟩
  obtain⟨hDx,hlx,alt⟩:=turn i n xs H3 w3
  rcases alt with ⟨stop,qn⟩|⟨go,step⟩
  ·have D1:=T'.done Y eP eW eK eC i [] s3 _ H3 (λ_ _=>False) I4 (fpY fr3) st3 stop
   rw[eA] at D1
   refine thn D1 λr s4 ⟨hr,I5⟩=>?_
   subst hr
   obtain⟨m4,hns4,_⟩:=id I5.loc
   rw[eE] at hns4
   have hC0:H3 g2.objs.size=none:=by
    have:=I5.free
    rw[eE] at this
    exact this
   have fC:FpOk X pins H3 g2.objs.size:=I3.fpOk (Nat.le_refl _) hC0
   rw[<- hY] at I5
   have IX:Inv X pins σ H3 s4:=compG_end I3 rfl f3 I5 (Heap.SameBut.refl _ _)
   have hns4:s4.heap.Ns g2.objs.size m4:=hns4
   obtain⟨oC,esC,epC,hoC,rC⟩:=id hns4
   have IP:=IX.pinned (fp:=[g2.objs.size]) (λb hb=>by
    have:b=g2.objs.size:=by simpa using hb
    subst this
    exact fC) (λb hb=>by
    have:b=g2.objs.size:=by simpa using hb
    subst this
    exact⟨oC,hoC,λv z=>by rw[rC.1] at z;cases z⟩)
   show wpAny _ X.A (assign (.Name x0 px0) X.env (.ref s2.heap.objs.size)) _ _ s4
   refine wpAny_assign_Name (store_ok (v:=.ref s2.heap.objs.size) IP hN0 hi0 (.inl hx0) rfl (λs5 I6=>?_) (.inr hx0))
   have pC:=I6.pin (g2.objs.size,oC) (List.mem_append_right _ (List.mem_append_right _ (mem_pinsAt (by simp) hoC)))
   refine⟨m4,hns4.at' (λo e=>by rw[hoC] at e;cases e;exact pC.1),λh' sb=>⟨_,H3,?_,qn⟩⟩
   exact I6.unpinned.turned (t':=s5.toks) (λb o hb e=>(sb.2 b hb).trans e) fC.1 fC.2.1 fC.2.2.2.1 fC.2.2.2.2.1 fC.2.2.2.2.2
  ·have G1:=T'.item Y eP eW eK eC i [] s3 _ H3 (λ_ _=>False) I4 (fpY fr3) st3 go
   rw[eA] at G1
   refine thn G1 λr s4 ⟨u,hr,h4⟩=>?_
   subst hr
   refine thn h4 λ_ s5 ⟨y,H5,I5,r5,y5,st5,fr5⟩=>?_
   have I5':=I5.pinned (fpY fr5) (T'.obj _ _ st5)
   have S1:=eG _ s5 _ H5 y u _ I5' r5 (hloc2 y os σ H5 _ hos (step y _ y5 os hos))
   rw[eP,eW,eA,eE,eX] at S1
   refine thn S1 λ_ s6 ⟨σ6,H6,I6,⟨os6,hos6,e6⟩,q6⟩=>?_
   subst e6
   have S2:=eT _ s6 _ _ _ I6 q6
   rw[eP,eW,eA,eE,eX] at S2
   refine thn S2 λok s7 ⟨H7,I7,q7⟩=>?_
   have back:∀{s9:Shared}{H9:Hp}{m':Nat}{zs:List V},Inv Y ([]++pinsAt fp s5.heap) (os6++σ) H9 s9->m'<n->W (i+1) m' zs H9->∃m,m<n/\∃i xs H' os,os.length=nn.length/\Inv Y [] (os++σ) H' s9/\tn i s9.heap/\(∀b∈fp,H' b=none)/\W i m xs H':=λ{s9 H9 m' zs} I9 hm' w9=>by
    have pin:∀b∈fp,∀ob,s5.heap.get? b=some ob->s9.heap.get? b=some ob/\H9 b=none:=λb hb ob e=>by
     have z:=I9.pin (b,ob) (List.mem_append_right _ (List.mem_append_right _ (mem_pinsAt hb e)))
     exact⟨z.1,z.2.1⟩
    refine⟨m',hm',i+1,zs,H9,os6,hos6,I9.unpinned,T'.keep _ _ _ st5 (λb hb ob e=>(pin b hb ob e).1),λb hb=>?_,w9⟩
    obtain⟨ob,e,_⟩:=T'.obj _ _ st5 b hb
    exact (pin b hb ob e).2
   cases ok with
   |true=>
    rw[if_pos rfl] at q7
    rw[if_pos rfl]
    have S3:=eY _ s7 _ _ _ I7 q7
    rw[eP,eW,eA,eE,eX] at S3
    refine thn S3 λxv s8 ⟨v8,H8,I8,r8,hD8,m',hm',w8⟩=>?_
    have S4:=mt_append (X:=Y) _ s8 _ H8 (.ref s2.heap.objs.size) [v8] (.ref s2.heap.objs.size) [xv] (λ_ H9=>H9=upd H8 s2.heap.objs.size (.lst (xs++[v8]))) I8 rfl (.cons r8 .nil) ⟨_,xs,v8,rfl,rfl,hD8,hlx,rfl⟩
    rw[eP,eW,eA,eX] at S4
    refine thn S4 λ_ s9 ⟨v9,H9,I9,_,e9⟩=>?_
    subst e9
    exact back I9 hm' w8
   |false=>
    rw[if_neg Bool.false_ne_true] at q7
    rw[if_neg Bool.false_ne_true]
    obtain⟨m',hm',w8⟩:=q7
    exact back I7 hm' w8
 exact codeAny_compStart_list (loop _ rfl) (T'.self _ 0 _ _ _ (T'.keep 0 _ _ st2 (λb hb o e=>keep b o (by rw[<- hg2];exact Heap.get?_push_of_some _ e))) (loop _ rfl))
end
end L2
namespace L2
open PySem
inductive Ars (X:Cx):List Expr->TA->Prop
 |nil:Ars X [] tNil
 |cons {e:Expr}{es:List Expr}{te:TE}{t:TA}(h:PE X e te) (r:Ars X es t) (hs:starEach (e::es) X.env=(false,eval e X.env)::starEach es X.env):Ars X (e::es) (tCons te t)
theorem Ars.go {X:Cx}:∀{es:List Expr}{t:TA},Ars X es t->PA X es t
 |_,_,.nil=>pa_nil
 |_,_,.cons h r hs=>pa_cons h r.go hs
structure PEb (X:Cx) (e:Expr) (t:TE):Prop where
 go:PE X e t
structure PSb (X:Cx) (st:Stmt) (t:TS):Prop where
 go:PS X st t
inductive StB (X:Cx):List Stmt->TS->Prop
 |one {st:Stmt}{t:TS}(h:PSb X st t):StB X [st] t
 |cons {st:Stmt}{rest:List Stmt}{t u:TS}(h:PSb X st t) (r:StB X rest u):StB X (st::rest) (tSeq t u)
theorem StB.go {X:Cx}:∀{l:List Stmt}{t:TS},StB X l t->PSs X l t
 |_,_,.one h=>pss_one h.go
 |_,_,.cons h r=>pss_cons h.go r.go
theorem seqE {X:Cx}{st:Stmt}{rest:List Stmt}{R:TS->Prop}(h:∃t,PSb X st t/\∃u,PSs X rest u/\R (tSeq t u)):∃t,PSs X (st::rest) t/\R t:=by
 obtain⟨t,h1,u,h2,h3⟩:=h
 exact⟨_,pss_cons h1.go h2,h3⟩
theorem lastE {X:Cx}{st:Stmt}{R:TS->Prop}(h:∃t,PSb X st t/\R t):∃t,PSs X [st] t/\R t:=by
 obtain⟨t,h1,h3⟩:=h
 exact⟨_,pss_one h1.go,h3⟩
inductive Ars2 (X:Cx):List Expr->TA->Prop
 |nil:Ars2 X [] tNil
 |cons {e:Expr}{es:List Expr}{te:TE}{t:TA}(h:PEb X e te) (r:Ars2 X es t) (hs:starEach (e::es) X.env=(false,eval e X.env)::starEach es X.env):Ars2 X (e::es) (tCons te t)
theorem Ars2.go {X:Cx}:∀{es:List Expr}{t:TA},Ars2 X es t->PA X es t
 |_,_,.nil=>pa_nil
 |_,_,.cons h r hs=>pa_cons h.go r.go hs
theorem pe_bmb {X:Cx}{T id:String}{name:Str}{r:V->List V->Hp->VK->Prop}{o e:Expr}{es:List Expr}{to:TE}{t:TA}{apos cpos:Pos}(pa:PlainAttrs T) (slot:Slot T name id) (hty:typeOf (.builtin id)=pure (.type "method_descriptor")) (hm:MtR X id r) (ho:PEb X o to) (ha:Ars2 X (e::es) t)
  (hbase:attributeBase o name X.env (eval o X.env)=eval o X.env:=by rfl)
  (hfew:((backTo cpos (starEach (e::es) X.env)).all (λx=>!x.1)&&(backToKw cpos (keywordEach [] X.env)).all (λx=>x.1.isSome)
   && decide ((e::es).length+([]:List Keyword).length+(if ([]:List Keyword).isEmpty then 0 else 1)<30))=true:=by rfl)
  (hline:(apos.endLine==cpos.line)=true:=by rfl) (hs:starEach (e::es) X.env=(false,eval e X.env)::starEach es X.env:=by rfl) (hplain:(backTo cpos (starEach es X.env)).any (·.1)=false:=by rfl) :
  PEb X (.Call (.Attribute o name apos) (e::es) [] cpos) (tBM X.K T r to t):=⟨pe_bm pa slot hty hm ho.go ha.go hbase hfew hline hs hplain⟩
inductive Prs (X:Cx) (pos:Pos):List (Option Expr)->List Expr->List (TE×TE)->Prop
 |nil:Prs X pos [] [] []
 |cons {k v:Expr}{ks:List (Option Expr)}{vs:List Expr}{tk tv:TE}{trs:List (TE×TE)}(hk:PEb X k tk) (hv:PEb X v tv) (r:Prs X pos ks vs trs):Prs X pos (some k::ks) (v::vs) ((tk,tv)::trs)
theorem Prs.go {X:Cx}{pos:Pos}:∀{ks:List (Option Expr)}{vs:List Expr}{trs:List (TE×TE)},Prs X pos ks vs trs->PPs X pos ks vs trs
 |_,_,_,.nil=>pps_nil
 |_,_,_,.cons hk hv r=>pps_cons hk.go hv.go r.go
theorem pe_disps {X:Cx}{pos:Pos}{keys:List (Option Expr)}{values:List Expr}{trs:List (TE×TE)}(h:Prs X pos keys values trs) (hall:keys.all (·.isSome)=true) (hl:keys.length=values.length) (h0:keys≠[])
  (h15:keys.length<=15):PEb X (.Dict keys values pos) (tDisp trs):=⟨pe_disp h.go hall hl h0 h15⟩
theorem ps_setb {X:Cx}{i:Nat}{x:Str}{e:Expr}{te:TE}{pos pos':Pos}(hN:X.N.Nodup) (hi:X.N[i]?=some x) (hx:Loc X.env.scope x) (he:PEb X e te) (hs:swapsWith e (some (.Name x pos')) pos.line X.env=pure false) (hf:X.fn x=true) :
  PSb X (.Assign [.Name x pos'] e pos) (tAsg te (gName i)):=⟨ps_set hN hi hx he.go hs (.inl hf)⟩
theorem four_ints {X:Cx}{a b c d:Int}{ja jb jc jd:Nat}{pa pb pc pd pos:Pos}{x1:Nat}:PEb X (.Tuple [.Constant (.int a) ja pa,.Constant (.int b) jb pb,.Constant (.int c) jc pc,.Constant (.int d) jd pd] x1 pos) (tTup (tCons (tC (.int a)) (tCons (tC (.int b)) (tCons (tC (.int c)) (tCons (tC (.int d)) tNil))))):=
 ⟨pe_tup (Ars.go (.cons pe_int (.cons pe_int (.cons pe_int (.cons pe_int .nil rfl) rfl) rfl) rfl))⟩
end L2
namespace Pr
open PySem L2 Qf
def PurseAt (H:Hp) (p:Addr):Prop:=∃a b:Int,H p=some (.lst [.int a,.int b])/\0<=a/\0<=b/\b<2^40
theorem PurseAt.same {H H':Hp}{p:Addr}(h:PurseAt H p) (s:Same H H'):PurseAt H' p:=by
 obtain⟨a,b,e,r⟩:=h
 exact⟨a,b,s _ _ e,r⟩
def RowsL (H:Hp) (p:Addr) (rows:List Row):Prop:=∃bs:List Addr,H p=some (.lst (bs.map V.ref))/\bs.length=rows.length/\∀(i:Nat) b r,bs[i]?=some b->rows[i]?=some r->H b=some (.tup (vN r))
theorem RowsL.same {H H':Hp}{p:Addr}{rows:List Row}(h:RowsL H p rows) (s:Same H H'):RowsL H' p rows:=by
 obtain⟨bs,h1,h2,h3⟩:=h
 exact⟨bs,s _ _ h1,h2,λi b r e1 e2=>s _ _ (h3 i b r e1 e2)⟩
theorem nats_of {C:Nat->Prop}:∀{ys:List V},(∀(i:Nat) y,ys[i]?=some y->∃x:Nat,y=.int (x:Nat)/\C x)->∃r:List Nat,ys=vN r/\∀x∈r,C x
 |[],_=>⟨[],rfl,λx hx=>nomatch hx⟩
 |y::ys,h=>by
  obtain⟨x,rfl,hx⟩:=h 0 y rfl
  obtain⟨r,rfl,hr⟩:=nats_of (C:=C) (ys:=ys) λi z hz=>h (i+1) z (by simpa using hz)
  refine⟨x::r,rfl,λz hz=>?_⟩
  rcases List.mem_cons.mp hz with rfl|hz
  ·exact hx
  ·exact hr z hz
theorem comp_rngB {H:Hp}{n:Nat}{te:TE}{σ:St}{Fin:Hp->Prop}{D p:Addr}(hD:H D=none) (hpD:p≠D) (I:Hp->Prop) (Rel:Nat->V->Prop) (hsz:n<sizeLine) (i0:∀H2 o,I H2->I (upd H2 D o)) (hI:I H)
  (step:∀i H2,i<n->But p H H2->I H2->∀Q':VK,(∀y H3,But p H2 H3->I H3->Rel i y->Q' y H3)->te (some (.int (0+(i:Int)))::σ) H2 Q')
  (fin:∀ys H2,But p H H2->I H2->H2 D=some (.lst ys)->ys.length=n->(∀i y,ys[i]?=some y->Rel i y)->Fin H2) :
  ∃W:Nat->Nat->List V->Hp->Prop,(∃m,W 0 m [] (upd H D (.lst []))) /\
   ∀i m xs H2,W i m xs H2->H2 D=some (.lst xs)/\xs.length<sizeLine/\(((Itr 0 n).stop i H2/\Fin H2)\/((Itr 0 n).go i H2/\∀y H3,(Itr 0 n).yld i H2 y H3 ->
    te (some y::σ) H3 λv H4=>H4 D=some (.lst xs)/\∃m',m'<m/\W (i+1) m' (xs++[v]) (upd H4 D (.lst (xs++[v]))))):=by
 refine⟨λi m ys H2=>i<=n/\m=n-i/\ys.length=i/\H2 D=some (.lst ys)/\But p H H2/\I H2/\∀j y,ys[j]?=some y->Rel j y,⟨n,Nat.zero_le _,rfl,rfl,upd_same,But.of (sameU hD),i0 _ _ hI,λj y h=>by simp at h⟩,?_⟩
 rintro i m ys H2 ⟨hi,rfl,hl,hd,b2,i2,rel⟩
 refine⟨hd,by lia,?_⟩
 by_cases he:i=n
 ·subst he
  exact .inl ⟨Nat.le_refl i,fin ys H2 b2 i2 hd hl rel⟩
 ·refine .inr ⟨show i<n by lia,λy H3 hy=>?_⟩
  obtain⟨e1,e2⟩:=hy
  rw[e1,e2]
  refine step i H2 (by lia) b2 i2 _ λv H4 b4 i4 r4=>?_
  refine⟨b4 _ _ hd (Ne.symm hpD),n-(i+1),by lia,by lia,rfl,by rw[List.length_append,hl];rfl,upd_same,?_,i0 _ _ i4,λj z hz=>?_⟩
  ·intro b o e nb
   rw[upd_ne (ne_of_none e hD)]
   exact b4 _ _ (b2 _ _ e nb) nb
  ·by_cases hj:j<i
   ·rw[List.getElem?_append_left (by lia)] at hz
    exact rel j z hz
   ·rw[List.getElem?_append_right (by lia)] at hz
    have:j-ys.length=0:=by
     have:=(List.getElem?_eq_some_iff.mp hz).1
     simp at this
     lia
    rw[this] at hz
    have:z=v:=by simpa using hz.symm
    subst this
    have:j=i:=by lia
    subst this
    exact r4
section
variable {α κ:Type}[DecidableEq α] [DecidableEq κ]{key:α->κ}
end
theorem RowsL.but {H H':Hp}{p e:Addr}{rows:List Row}{o:HO}(h:RowsL H p rows) (b:But e H H') (hpe:p≠e) (he:H e=some o) (no:∀u,o≠.tup u):RowsL H' p rows:=by
 obtain⟨bs,h1,h2,h3⟩:=h
 exact⟨bs,b _ _ h1 hpe,h2,λi c r e1 e2=>b.tups he no _ _ (h3 i c r e1 e2)⟩
def dTell (n top:Nat) (rows:List Row):PyData:=.tuple [.int (n:Nat),.int (top:Nat),.tuple (rows.map λr=>dT (r.map λx:Nat=>(x:Int)))]
theorem datas_rows {H:Hp}:∀{bs:List Addr}{rows:List Row},bs.length=rows.length->(∀(i:Nat) b r,bs[i]?=some b->rows[i]?=some r->H b=some (.tup (vN r))) ->
  DatasAt H (bs.map V.ref) (rows.map λr=>dT (r.map λx:Nat=>(x:Int)))
 |[],[],_,_=>.nil
 |b::bs,r::rows,hl,h=>by
  refine .cons ?_ (datas_rows (by simpa using hl) λi c q e1 e2=>h (i+1) c q (by simpa using e1) (by simpa using e2))
  have h0:=h 0 b r rfl rfl
  rw[vN_int] at h0
  exact .tup h0 (DatasAt.ints _)
theorem tell_data {H:Hp}{t:Addr}{n top:Nat}{rows:List Row}(h:TellAt H t n top rows):DataAt H (.ref t) (dTell n top rows):=by
 obtain⟨p,ht,bs,hp,hl,hr⟩:=h
 exact .tup ht (.cons (.int _) (.cons (.int _) (.cons (.tup hp (datas_rows hl hr)) .nil)))
theorem rows_lay:∀rows:List Row,PyData.canLayAll0 (rows.map λr=>dT (r.map λx:Nat=>(x:Int)))=true
 |[]=>rfl
 |r::rows=>by
  rw[List.map_cons,PyData.canLayAll0,dT_lay,rows_lay rows];rfl
theorem tell_lay (n top:Nat) (rows:List Row):(dTell n top rows).canLay0=true:=by
 unfold dTell
 simp only[PyData.canLay0,PyData.canLayAll0,rows_lay rows,Bool.and_self]
theorem ints_depth:∀ns:List Int,PyData.depthAll (ns.map PyData.int)=0
 |[]=>rfl
 |n::ns=>by rw[List.map_cons,PyData.depthAll,ints_depth ns];rfl
theorem rows_depth:∀rows:List Row,PyData.depthAll (rows.map λr=>dT (r.map λx:Nat=>(x:Int)))<=1
 |[]=>by decide
 |r::rows=>by
  have:=rows_depth rows
  have e:(dT (r.map λx:Nat=>(x:Int))).depth=1:=by
   show PyData.depthAll _+1=1
   rw[ints_depth]
  rw[List.map_cons,PyData.depthAll,e]
  lia
theorem tell_depth (n top:Nat) (rows:List Row):(dTell n top rows).depth<=60:=by
 have:=rows_depth rows
 show max _ (max _ (max (PyData.depthAll _+1) _))+1<=60
 have e1:(PyData.int (n:Int)).depth=0:=rfl
 have e2:(PyData.int (top:Int)).depth=0:=rfl
 have e3:PyData.depthAll []=0:=rfl
 rw[e1,e2,e3]
 lia
theorem tell_eqv (n top:Nat) (rows:List Row):PyData.eqv (dTell n top rows) (dTell n top rows)=true:=PySem.SeqAt.eqv_refl _ (tell_lay n top rows)
def dRows (rows:List Row):List PyData:=rows.map λr=>dT (r.map λx:Nat=>(x:Int))
end Pr
namespace L2
open PySem PySem.Spec PyProof.Rows PySem.W
section
variable {X:Cx}{st:Stmt}{rest:List Stmt}{t u:TS}
def tSeqI (t u:TS):TS:=λD σ H=>∃I:St->Hp->Prop,t { D with nx:=I } σ H/\∀σ' H',I σ' H'->u D σ' H'
theorem pss_consI (h1:PS X st t) (h2:PSs X rest u):PSs X (st::rest) (tSeqI t u):=by
 intro pins s σ H D I ⟨J,h,hJ⟩
 refine wpAny_execs_cons (thn (h1 pins s σ H { D with nx:=J } I h) λf s1 q=>?_)
 cases f with
 |next=>
  obtain⟨σ',H',I',q⟩:=q
  exact h2 pins s1 σ' H' D I' (hJ σ' H' q)
 |ret v=>exact q
 |brk=>exact q
 |cont=>exact q
theorem Inv.forget {pins:List (Addr×Obj)}{s:Shared}{σ:St}{H:Hp}(k:Nat) (I:Inv X pins σ H s):Inv X pins (σ.set k none) H s:=by
 refine⟨I.ok,I.os,I.bare,I.base,?_,I.cell,I.free,I.freeC,I.pin,I.hok,by rw[<- I.len];exact List.length_set ..⟩
 obtain⟨m,h1,h2⟩:=I.loc
 refine⟨m,h1,λi x v e1 e2 e3=>?_⟩
 rw[List.getElem?_set] at e2
 by_cases z:k=i
 ·rw[if_pos z] at e2
  split at e2<;>cases e2
 ·rw[if_neg z] at e2
  exact h2 i x v e1 e2 e3
theorem ps_forget (k:Nat) (h:PS X st t):PS X st (λD σ H=>t D (σ.set k none) H):=λpins s σ H D I q=>h pins s _ H D (I.forget k) q
end
section
variable {X:Cx}{e:Expr}{te:TE}
def Cx.hide (X:Cx) (k:Nat) (d:Str):Cx:={ X with N:=X.N.set k d }
theorem hide_ok {k:Nat}{d:Str}(ok:X.Ok):(X.hide k d).Ok:=by
 obtain⟨⟩:=ok
 constructor<;>assumption
theorem unhide_ok {k:Nat}{d:Str}(ok:(X.hide k d).Ok):X.Ok:=by
 obtain⟨⟩:=ok
 constructor<;>assumption
end
end L2
namespace Pr
open PySem L2 Qf
theorem seqEI {X:Cx}{st:Stmt}{rest:List Stmt}{R:TS->Prop}(h:∃t,PSb X st t/\∃u,PSs X rest u/\R (tSeqI t u)):∃t,PSs X (st::rest) t/\R t:=by
 obtain⟨t,h1,u,h2,h3⟩:=h
 exact⟨_,pss_consI h1.go h2,h3⟩
inductive StI (X:Cx):List Stmt->TS->Prop
 |one {st:Stmt}{t:TS}(h:PSb X st t):StI X [st] t
 |cons {st:Stmt}{rest:List Stmt}{t u:TS}(h:PSb X st t) (r:StI X rest u):StI X (st::rest) (tSeq t u)
 |consI {st:Stmt}{rest:List Stmt}{t u:TS}(h:PSb X st t) (r:StI X rest u):StI X (st::rest) (tSeqI t u)
theorem StI.go {X:Cx}:∀{l:List Stmt}{t:TS},StI X l t->PSs X l t
 |_,_,.one h=>pss_one h.go
 |_,_,.cons h r=>pss_cons h.go r.go
 |_,_,.consI h r=>pss_consI h.go r.go
end Pr
namespace Qf
namespace Tr
end Tr
open Tr
end Qf
namespace L2
open PySem
end L2
namespace Pr
open PySem L2 Qf
structure Blt2 (mg:Str->Option Value):Prop where
 abs:mg "abs" = none
 repr:mg "repr" = none
 str:mg "str" = none
section
variable {P:Program}{w:World}{K:PySem.W.Frag}{mg:Str->Option Value}{base:Heap}
theorem scDigit:FnScope ["_law_pot_here", "_law_many", "_law_digit_here"] ["_law_pot_here", "_law_many"] (defScope lDigit):=⟨rfl,rfl,rfl,by decide +kernel,rfl,by decide +kernel,by decide +kernel⟩
def spDigit:Sp:=λvs H Q _=>∃(p:Addr) (n:Nat),vs=[.ref p,.int (n:Nat)]/\PurseAt H p/\0<n/\n<1000000/\∀(d:Nat) (H':Hp),d<n->But p H H'->PurseAt H' p->Q (.int (d:Nat)) H'
theorem ok_digit {f:Addr}{fd:FuncData}(F:Fun K "_law_digit" "_law_digit" lDigit f fd):FnOk P w K mg base CX0 1 f fd ["_law_pot_here", "_law_many"] spDigit:=by
 refine F.ok scDigit (λvs H Q E h=>?_) (λcdv A outer s H vs Q E hr h=>?_)
 ·obtain⟨p,n,rfl,_⟩:=h
  rfl
 ·obtain⟨p,n,rfl,⟨a,b,hp,ha,hb,hb2⟩,hn,hn2,q⟩:=h
  refine⟨_,pss_cons (ps_if (pt_cmpR op_gt (pe_ix ix_list (pv 0) pe_int (λ_ _=>rfl)) pe_int (nomark _))
    (pss_cons (ps_set (i:=2) scDigit.nd rfl (Or.inl rfl) (pe_op op_mod (pe_ix ix_list (pv 0) pe_int (λ_ _=>rfl)) (pv 1)))
    (pss_cons (ps_asg (pe_op op_fdiv (pe_ix ix_list (pv 0) pe_int (λ_ _=>rfl)) (pv 1)) (pg_sub (pv 0) pe_int set_list))
    (pss_one (ps_ret (pv 2))))) pss_nil)
   (pss_cons (ps_asg (pe_op op_mod (pe_op op_add (pe_op op_mul (pe_ix ix_list (pv 0) pe_int (λ_ _=>rfl)) pe_int) pe_int) pe_int) (pg_sub (pv 0) pe_int set_list))
   (pss_one (ps_ret (pe_op op_mod (pe_op op_fdiv (pe_ix ix_list (pv 0) pe_int (λ_ _=>rfl)) pe_int) (pv 1))))),?_⟩
  have sq:∀{H':Hp}{xs:List V},H' p=some (.lst xs)->SqL K H' p xs:=λh=>SqL.of h
  have fin:∀(d x y:Int),0<=d->d<(n:Int)->0<=x->0<=y->y<2^40->Q (.int d) (upd H p (.lst [.int x,.int y])):=λd x y d0 d1 x0 y0 y1=>by
   have:=q d.toNat (upd H p (.lst [.int x,.int y])) (by lia) But.upd ⟨x,y,upd_same,x0,y0,y1⟩
   rwa [show ((d.toNat:Nat):Int)=d by lia] at this
  have hn0:(0:Int)<n:=by lia
  refine⟨_,rfl,p,_,0,_,rfl,rfl,sq hp,rfl,_,_,rfl,rfl,_,rfl,?_⟩
  refine ite2 (λhc=>?_) (λhc=>?_)
  ·refine⟨_,rfl,p,_,0,_,rfl,rfl,sq hp,rfl,_,rfl,_,_,rfl,rfl,hn0,?_⟩
   refine⟨_,rfl,p,_,0,_,rfl,rfl,sq hp,rfl,_,rfl,_,_,rfl,rfl,⟨hn0,by lia⟩,_,rfl,p,_,0,0,rfl,rfl,hp,rfl,?_⟩
   refine⟨_,rfl,?_⟩
   exact fin _ _ _ (Int.emod_nonneg _ (by lia)) (Int.emod_lt_of_pos _ hn0) (Int.ediv_nonneg ha (by lia)) hb hb2
  ·refine⟨_,rfl,p,_,1,_,rfl,rfl,sq hp,rfl,_,_,rfl,rfl,.inl ⟨by lia,by lia⟩,_,_,rfl,rfl,_,_,rfl,rfl,(by show (0:Int)<2147483629;decide),_,rfl,p,_,1,1,rfl,rfl,hp,rfl,?_⟩
   have m1:0<=(b*48271+8191)%2147483629/\(b*48271+8191)%2147483629<2147483629:=⟨Int.emod_nonneg _ (by decide),Int.emod_lt_of_pos _ (by decide)⟩
   refine⟨_,rfl,p,_,1,_,rfl,rfl,sq upd_same,rfl,_,_,rfl,rfl,⟨by decide,by decide⟩,_,rfl,_,_,rfl,rfl,hn0,?_⟩
   exact fin _ _ _ (Int.emod_nonneg _ (by lia)) (Int.emod_lt_of_pos _ hn0) ha m1.1 (by lia)
theorem scPot:FnScope ["_law_script", "_law_k", "_law_cell"] ["_law_script", "_law_k"] (defScope lPot):=⟨rfl,rfl,rfl,by decide +kernel,rfl,by decide +kernel,by decide +kernel⟩
def spPot (K:PySem.W.Frag):Sp:=λvs H Q _=>∃(a:Addr) (k:Int) (ns:List Int),vs=[.ref a,.int k]/\SqL K H a (ns.map V.int)/\ns.length<=63/\0<=k/\k<=1000/\∀(H':Hp) (p:Addr),Same H H'->H p=none->PurseAt H' p->Q (.ref p) H'
theorem ok_pot {f:Addr}{fd:FuncData}(F:Fun K "_law_pot" "_law_pot" lPot f fd) (B:Blt mg) (C:Blt2 mg):FnOk P w K mg base CX0 1 f fd ["_law_script", "_law_k"] (spPot K):=by
 refine F.ok scPot (λvs H Q E h=>?_) (λcdv A outer s H vs Q E hr h=>?_)
 ·obtain⟨a,k,ns,rfl,_⟩:=h
  rfl
 ·obtain⟨a,k,ns,rfl,hS,hl,h0,h1,q⟩:=h
  refine seqE ⟨_,⟨ps_set (i:=2) scPot.nd rfl (Or.inl rfl) pe_int⟩,?_⟩
  refine seqE ⟨_,⟨ps_if (pt_cmpR op_lt (pv 1) (pe_callB call_len_seq (by rfl) B.len PySem.boot_len (pa_cons (pv 0) pa_nil)) (nomark _)) (pss_one (ps_set (i:=2) scPot.nd rfl (Or.inl rfl) (pe_ix ix_list (pv 0) (pv 1) (λ_ _=>rfl)))) pss_nil⟩,?_⟩
  refine lastE ⟨_,⟨ps_ret (pe_lst (Ars2.go (.cons ⟨pe_callB (call_max2 rfl) (by rfl) B.max PyProof.Rows.boot_max (pa_cons pe_int (pa_cons (pe_op op_sub (pe_callB call_abs (by rfl) C.abs PyProof.Rows.boot_abs (pa_cons (pv 2) pa_nil)) (pe_op op_pow pe_int pe_int)) pa_nil))⟩
    (.cons ⟨pe_op op_add (pe_op op_add (pe_op op_mod (pe_callB call_abs (by rfl) C.abs PyProof.Rows.boot_abs (pa_cons (pv 2) pa_nil)) pe_int) (pe_op op_mul pe_int (pv 1))) pe_int⟩ .nil rfl) rfl)))⟩,?_⟩
  have fin:∀(z:Int) (p:Addr),H p=none->Q (.ref p) (upd H p (.lst [.int (if (if z<0 then -z else z)-10^18>0 then (if z<0 then -z else z)-10^18 else 0),.int ((if z<0 then -z else z)%2147483629+97*k+1)])):=λz p hp=>by
   have m1:0<=(if z<0 then -z else z)%2147483629/\(if z<0 then -z else z)%2147483629<2147483629:=⟨Int.emod_nonneg _ (by decide),Int.emod_lt_of_pos _ (by decide)⟩
   refine q _ p (sameU hp) hp ⟨_,_,upd_same,?_,?_,?_⟩
   ·split<;>lia
   ·lia
   ·lia
  refine⟨_,rfl,_,rfl,a,_,rfl,.inl hS,_,_,rfl,rfl,_,rfl,?_⟩
  refine ite2 (λhc=>?_) (λhc=>?_)
  ·have hk:k<(ns.length:Int):=by
    have:=of_decide_eq_true hc
    simpa using this
   have hkn:k.toNat<ns.length:=by lia
   refine⟨_,rfl,_,rfl,a,_,k,.int (ns[k.toNat]),rfl,rfl,hS,?_,?_⟩
   ·have:=atI_nat (xs:=ns.map V.int) (j:=k.toNat) (v:=.int (ns[k.toNat])) (by simp[hkn])
    rw[show ((k.toNat:Nat):Int)=k by lia] at this
    exact this
   ·refine⟨_,rfl,_,rfl,_,_,rfl,rfl,⟨by decide,by decide,by decide⟩,_,_,rfl,rfl,_,_,rfl,?_⟩
    exact⟨_,rfl,_,rfl,_,_,rfl,rfl,(by show (0:Int)<2147483629;decide),_,rfl,_,_,rfl,rfl,.inl ⟨by decide,by decide⟩,_,_,rfl,rfl,_,_,rfl,rfl,(by show 2<=sizeLine;decide),λp hp=>fin _ p hp⟩
  ·refine⟨_,rfl,_,rfl,_,_,rfl,rfl,⟨by decide,by decide,by decide⟩,_,_,rfl,rfl,_,_,rfl,?_⟩
   exact⟨_,rfl,_,rfl,_,_,rfl,rfl,(by show (0:Int)<2147483629;decide),_,rfl,_,_,rfl,rfl,.inl ⟨by decide,by decide⟩,_,_,rfl,rfl,_,_,rfl,rfl,(by show 2<=sizeLine;decide),λp hp=>fin _ p hp⟩
end
end Pr
namespace L2
open PySem
def iSeq (K:PySem.W.Frag) (tl:TE):TI:=λσ H R=>tl σ H λx H1=>∃a,x=.ref a/\(((∃xs,SqL K H1 a xs)/\R (Itl K a) H1)\/((∃xs,SqT K H1 a xs)/\R (Itt K a) H1))
theorem pi_seq {X:Cx}{tg l:Expr}{tl:TE}(hl:PE X l tl):PI X tg l (iSeq X.K tl):=by
 intro pins s σ H R I h
 refine thn (hl pins s σ H _ I h) λv s1 ⟨x,H1,I1,r1,a,ex,alt⟩=>?_
 subst ex
 cases r1
 have fresh:∀b∈[s1.heap.objs.size],FpOk X pins H1 b:=λb hb=>by
  have e:b=s1.heap.objs.size:=by simpa using hb
  subst e
  exact I1.fpOk (Nat.le_refl _) (I1.hok.fresh (Nat.le_refl _))
 rcases alt with ⟨⟨xs,hq⟩,q⟩|⟨⟨xs,hq⟩,q⟩
 ·obtain⟨its,rv,p,hz⟩:=I1.list hq
  exact wpAny_pyIter_list p.isList ⟨s1.heap.objs.size,[s1.heap.objs.size],_,_,H1,rfl,I1.kept (t':=s1.toks) λb o e=>Heap.get?_push_of_some _ e,turn_list a _,⟨_,Heap.get?_push_size _ rfl,rfl,rfl⟩,fresh,q⟩
 ·obtain⟨its,rv,p,hz⟩:=I1.tuple hq
  exact wpAny_pyIter_tuple (show s1.heap.IsTuple a its.toArray from p) ⟨s1.heap.objs.size,[s1.heap.objs.size],_,_,H1,rfl,I1.kept (t':=s1.toks) λb o e=>Heap.get?_push_of_some _ e,turn_tuple a _,⟨_,Heap.get?_push_size _ rfl,rfl,rfl⟩,fresh,q⟩
theorem for_seq2 {K:PySem.W.Frag}{a:Addr}{xs:List V}{g:TG}{tb:TS}{D:Ends}{σ:St}{H:Hp}(Pv:Nat->St->Hp->Prop) (hk:(∀i σ H2,Pv i σ H2->SqL K H2 a xs)\/(∀i σ H2,Pv i σ H2->SqT K H2 a xs)) (h0:Pv 0 σ H)
  (hs:∀i x σ H,xs[i]?=some x->Pv i σ H->g x σ H λσ2 H2=>tb { D with nx:=Pv (i+1),ct:=Pv (i+1),bk:=D.nx } σ2 H2) (hd:∀σ H,Pv xs.length σ H->D.nx σ H) :
  ((∃xs,SqL K H a xs)/\∃W:Nat->Nat->St->Hp->Prop,(∃m,W 0 m σ H)/\∀i m σ H,W i m σ H ->
   ((Itl K a).stop i H/\D.nx σ H)\/((Itl K a).go i H/\∃N:St->Hp->Prop,(∀σ' H',N σ' H'->∃m',m'<m/\W (i+1) m' σ' H')/\∀x H',(Itl K a).yld i H x H'->g x σ H' λσ2 H2=>tb { D with nx:=N,ct:=N,bk:=D.nx } σ2 H2)) \/
  ((∃xs,SqT K H a xs)/\∃W:Nat->Nat->St->Hp->Prop,(∃m,W 0 m σ H)/\∀i m σ H,W i m σ H ->
   ((Itt K a).stop i H/\D.nx σ H)\/((Itt K a).go i H/\∃N:St->Hp->Prop,(∀σ' H',N σ' H'->∃m',m'<m/\W (i+1) m' σ' H')/\∀x H',(Itt K a).yld i H x H'->g x σ H' λσ2 H2=>tb { D with nx:=N,ct:=N,bk:=D.nx } σ2 H2)):=by
 rcases hk with h|h
 ·exact .inl ⟨⟨xs,h 0 σ H h0⟩,for_list Pv h0 (λi σ H2 hi hp=>h i σ H2 hp) hs hd⟩
 ·exact .inr ⟨⟨xs,h 0 σ H h0⟩,for_tup Pv h0 (λi σ H2 hi hp=>h i σ H2 hp) hs hd⟩
end L2
namespace Qf
open PySem
inductive Stp where
 |gone (k:Nat)|plain (k:Nat)|same (k j:Nat) deriving DecidableEq
def sPat:Nat->Bool:=λi=>decide (i=0)
def cod (x:Str):List Int:=x.cps.toList.map Int.ofNat
def Stp.key:Stp->List (List Int)
 |.gone k=>[cod "gone",[(k:Int)]]
 |.plain k=>[cod "plain",[(k:Int)]]
 |.same k j=>[cod "same",[(k:Int)],[(j:Int)]]
theorem key_inj {s t:Stp}(h:s.key=t.key):s=t:=by
 have e1:cod "gone" ≠ cod "plain":=by decide
 have e2:cod "gone" ≠ cod "same":=by decide
 have e3:cod "plain" ≠ cod "same":=by decide
 cases s<;>cases t<;>simp only[Stp.key,List.cons.injEq,and_true] at h
 ·rw[Int.ofNat.inj h.2]
 ·exact absurd h.1 e1
 ·exact absurd h.1 e2
 ·exact absurd h.1.symm e1
 ·rw[Int.ofNat.inj h.2]
 ·exact absurd h.1 e3
 ·exact absurd h.1.symm e2
 ·exact absurd h.1.symm e3
 ·rw[Int.ofNat.inj h.2.1,Int.ofNat.inj h.2.2]
def sLe (a b:Stp):Bool:=!decide (b.key<a.key)
theorem sLe_trans (a b c:Stp) (h1:sLe a b=true) (h2:sLe b c=true):sLe a c=true:=by
 unfold sLe at *
 simp only[Bool.not_eq_true',decide_eq_false_iff_not] at *
 exact List.not_lt.mpr (List.le_trans (List.not_lt.mp h1) (List.not_lt.mp h2))
theorem sLe_total (a b:Stp):(sLe a b||sLe b a)=true:=by
 unfold sLe
 by_cases h:b.key<a.key
 ·have:¬a.key<b.key:=λz=>List.lt_irrefl _ (List.lt_trans h z)
  simp[this]
 ·simp[h]
theorem sLe_anti {a b:Stp}(h1:sLe a b=true) (h2:sLe b a=true):a=b:=by
 unfold sLe at *
 simp only[Bool.not_eq_true',decide_eq_false_iff_not] at *
 exact key_inj (List.le_antisymm (List.not_lt.mp h1) (List.not_lt.mp h2))
def srt (l:List Stp):List Stp:=l.mergeSort sLe
theorem srt_perm (l:List Stp):(srt l).Perm l:=List.mergeSort_perm l sLe
theorem srt_sorted (l:List Stp):(srt l).Pairwise λa b=>sLe a b=true:=List.pairwise_mergeSort sLe_trans sLe_total l
theorem sorted_uniq:∀{l m:List Stp},l.Perm m->(l.Pairwise λa b=>sLe a b=true)->(m.Pairwise λa b=>sLe a b=true)->l=m
 |[],m,p,_,_=>(List.nil_perm.mp p).symm
 |a::l,[],p,_,_=>by have:=p.length_eq;simp at this
 |a::l,b::m,p,h1,h2=>by
  obtain⟨a1,a2⟩:=List.pairwise_cons.mp h1
  obtain⟨b1,b2⟩:=List.pairwise_cons.mp h2
  have e:a=b:=by
   rcases List.mem_cons.mp (p.mem_iff.mp (List.mem_cons_self (a:=a) (l:=l))) with e|ha
   ·exact e
   ·rcases List.mem_cons.mp (p.mem_iff.mpr (List.mem_cons_self (a:=b) (l:=m))) with e|hb
    ·exact e.symm
    ·exact sLe_anti (a1 b hb) (b1 a ha)
  subst e
  rw[sorted_uniq (List.perm_cons a |>.mp p) a2 b2]
theorem srt_eq {l m:List Stp}(p:l.Perm m):srt l=srt m:=sorted_uniq ((srt_perm l).trans (p.trans (srt_perm m).symm)) (srt_sorted l) (srt_sorted m)
end Qf
namespace Pr
open PySem L2 Qf
def sVals:Stp->List V
 |.gone k=>[.str "gone",.int (k:Nat)]
 |.plain k=>[.str "plain",.int (k:Nat)]
 |.same k j=>[.str "same",.int (k:Nat),.int (j:Nat)]
theorem sVals_key (s:Stp):AtsV sPat 0 (sVals s) s.key:=by
 cases s with
 |gone k=>exact .cons (.str _) (.cons (.int _) .nil)
 |plain k=>exact .cons (.str _) (.cons (.int _) .nil)
 |same k j=>exact .cons (.str _) (.cons (.int _) (.cons (.int _) .nil))
theorem atv_uniq {k:Bool}{v:V}{l m:List Int}(h:AtV k v l) (g:AtV k v m):l=m:=by cases h<;>cases g<;>rfl
theorem atsv_uniq {pat:Nat->Bool}:∀{i:Nat}{vs:List V}{l m:List (List Int)},AtsV pat i vs l->AtsV pat i vs m->l=m
 |_,_,_,_,.nil,.nil=>rfl
 |_,_,_,_,.cons h r,.cons h' r'=>by rw[atv_uniq h h',atsv_uniq r r']
theorem sVals_inj {s t:Stp}(h:sVals s=sVals t):s=t:=key_inj (atsv_uniq (sVals_key s) (h▸sVals_key t))
def StepsL (H:Hp) (p:Addr) (ss:List Stp):Prop:=∃bs:List Addr,H p=some (.lst (bs.map V.ref))/\bs.length=ss.length/\∀(i:Nat) b s,bs[i]?=some b->ss[i]?=some s->H b=some (.tup (sVals s))
theorem StepsL.same {H H':Hp}{p:Addr}{ss:List Stp}(h:StepsL H p ss) (s:Same H H'):StepsL H' p ss:=by
 obtain⟨bs,a,b,c⟩:=h
 exact⟨bs,s _ _ a,b,λi b t h1 h2=>s _ _ (c i b t h1 h2)⟩
open Classical in
noncomputable def stAt (H:Hp) (b:Addr):Stp:=if h:∃s,H b=some (.tup (sVals s)) then h.choose else .gone 0
theorem stAt_eq {H:Hp}{b:Addr}{s:Stp}(h:H b=some (.tup (sVals s))):stAt H b=s:=by
 have e:∃s,H b=some (.tup (sVals s)):=⟨s,h⟩
 unfold stAt
 rw[dif_pos e]
 have:=h.symm.trans e.choose_spec
 exact (sVals_inj (HO.tup.inj (Option.some.inj this))).symm
theorem perm_refs {bs:List Addr}{us:List V}(h:us.Perm (bs.map V.ref)):∃cs:List Addr,us=cs.map V.ref/\cs.Perm bs:=by
 refine⟨us.map λv=>match v with|.ref a=>a|_=>0,?_,?_⟩
 ·rw[List.map_map]
  refine (List.map_id us).symm.trans (List.map_congr_left λv hv=>?_)
  obtain⟨b,_,rfl⟩:=List.mem_map.mp (h.mem_iff.mp hv)
  rfl
 ·have:=h.map (λv:V=>match v with|.ref a=>a|_=>(0:Addr))
  rw[List.map_map] at this
  exact this.trans (List.Perm.of_eq (List.map_id bs))
section
variable {X:Cx}
theorem call_sortedS:CallR X (.builtin "sorted") (λxs H Q=>∃(p:Addr) (ss:List Stp),xs=[.ref p]/\StepsL H p ss/\∀q H',Same H H'->H q=none->StepsL H' q (srt ss)->Q (.ref q) H'):=by
 intro pins s σ H xs us Q I r h
 obtain⟨p,ss,rfl,hS,q⟩:=h
 obtain⟨bs,hp,hl,hb⟩:=id hS
 have at':∀b∈bs,∃t,H b=some (.tup (sVals t)):=λb hb'=>by
  obtain⟨i,hi,e⟩:=List.getElem_of_mem hb'
  exact⟨ss[i]'(by lia),hb i b _ (by rw[<- e];simp[hi]) (by simp)⟩
 have sse:ss=bs.map (stAt H):=by
  refine List.ext_getElem? λi=>?_
  rw[List.getElem?_map]
  by_cases hi:i<bs.length
  ·rw[List.getElem?_eq_getElem (by lia),List.getElem?_eq_getElem hi]
   show some _=some _
   rw[stAt_eq (hb i bs[i] (ss[i]'(by lia)) (by simp[hi]) (by simp))]
  ·rw[List.getElem?_eq_none (by lia),List.getElem?_eq_none (by lia)];rfl
 refine call_sortedT pins s σ H [.ref p] us Q I r ⟨p,_,sPat,rfl,hp,λv hv=>?_,λa vs ha pm as=>?_⟩
 ·obtain⟨b,hb',rfl⟩:=List.mem_map.mp hv
  obtain⟨t,ht⟩:=at' b hb'
  exact⟨t.key,⟨b,_,rfl,ht,sVals_key t⟩,by cases t<;>simp[Stp.key]⟩
 ·obtain⟨cs,rfl,pc⟩:=perm_refs pm
  refine q a _ (sameU ha) ha ?_
  have e:cs.map (stAt H)=srt ss:=by
   refine sorted_uniq ?_ ?_ (srt_sorted ss)
   ·refine (pc.map (stAt H)).trans ?_
    rw[<- sse];exact (srt_perm ss).symm
   ·rw[List.pairwise_map]
    have as':=List.pairwise_map.mp as
    refine List.Pairwise.imp_of_mem (λ{x y} hx hy z=>?_) as'
    obtain⟨t,ht⟩:=at' x (pc.mem_iff.mp hx)
    obtain⟨u,hu⟩:=at' y (pc.mem_iff.mp hy)
    rw[stAt_eq ht,stAt_eq hu]
    have:=z t.key u.key ⟨x,_,rfl,ht,sVals_key t⟩ ⟨y,_,rfl,hu,sVals_key u⟩
    unfold sLe
    simp[this]
  rw[<- e]
  refine⟨cs,upd_same,by simp,λi b t h1 h2=>?_⟩
  have hm:=List.mem_of_getElem? h1
  obtain⟨u,hu⟩:=at' b (pc.mem_iff.mp hm)
  rw[List.getElem?_map,h1] at h2
  have:stAt H b=t:=Option.some.inj h2
  rw[stAt_eq hu] at this
  subst this
  exact keepU hu ha
end
end Pr
namespace Qf
def ixs (l:List Row) (r:Row):List Nat:=(List.range l.length).filter λj=>decide (l[j]?=some r)
theorem ixs_snoc (l:List Row) (x r:Row):ixs (l++[x]) r=ixs l r++if x=r then [l.length] else []:=by
 unfold ixs
 rw[List.length_append,List.length_singleton,List.range_succ,List.filter_append]
 congr 1
 ·refine List.filter_congr λj hj=>?_
  have:=List.mem_range.mp hj
  rw[List.getElem?_append_left this]
 ·by_cases h:x=r
  ·rw[if_pos h,List.filter_cons,if_pos (by simp[h])];rfl
  ·rw[if_neg h,List.filter_cons,if_neg (by simp[h])];rfl
theorem ixs_none {l:List Row}{r:Row}(h:r∉l):ixs l r=[]:=by
 unfold ixs
 refine List.filter_eq_nil_iff.mpr λj _ e=>h ?_
 exact List.mem_of_getElem? (of_decide_eq_true e)
theorem ixs_len (l:List Row) (r:Row):(ixs l r).length<=l.length:=by
 unfold ixs
 exact Nat.le_trans (List.length_filter_le _ _) (by simp)
def sameAt (rows:List Row) (k:Nat):List Stp:=(ixs (rows.take k) (rows.getD k [])).map (Stp.same k)
def sameSteps (rows:List Row):List Stp:=(List.range rows.length).flatMap (sameAt rows)
theorem sameAt_len (rows:List Row) (k:Nat):(sameAt rows k).length<=rows.length:=by
 unfold sameAt
 rw[List.length_map]
 exact Nat.le_trans (ixs_len _ _) (by simp;lia)
theorem flat_succ {α:Type}(f:Nat->List α) (i:Nat):(List.range (i+1)).flatMap f=(List.range i).flatMap f++f i:=by
 rw[List.range_succ,List.flatMap_append];simp
theorem flat_len {α:Type}{f:Nat->List α}{c:Nat}(h:∀k,(f k).length<=c):∀i,((List.range i).flatMap f).length<=i*c
 |0=>by simp
 |i+1=>by
  rw[flat_succ,List.length_append,Nat.succ_mul]
  have:=flat_len h i
  have:=h i
  lia
end Qf
namespace Pr
open PySem L2 Qf
structure Plc (H0 H:Hp) (Pd S:Addr) (seen l:List Row) (kvs:List (List Key×V)) (f:Row->Addr):Prop where
 d:H Pd=some (.dT kvs)
 no:∀r,r∉seen->valV kvs (keyN r)=none
 yes:∀r∈seen,valV kvs (keyN r)=some (.ref (f r))
 lst:∀r∈seen,H (f r)=some (.lst (vN (ixs l r)))
 frs:∀r∈seen,H0 (f r)=none/\f r≠Pd/\f r≠S
 inj:∀r r',r∈seen->r'∈seen->f r=f r'->r=r'
theorem Plc.same {H0 H H':Hp}{Pd S:Addr}{seen l:List Row}{kvs:List (List Key×V)}{f:Row->Addr}(p:Plc H0 H Pd S seen l kvs f) (s:Same H H'):Plc H0 H' Pd S seen l kvs f:=
 ⟨s _ _ p.d,p.no,p.yes,λr hr=>s _ _ (p.lst r hr),p.frs,p.inj⟩
theorem StepsL.ne {H:Hp}{p a:Addr}{ss:List Stp}{xs:List V}(h:StepsL H p ss) (ha:H a=some (.lst xs)) (hn:p≠a){ys:List V}:StepsL (upd H a (.lst ys)) p ss:=by
 obtain⟨bs,h1,h2,h3⟩:=h
 refine⟨bs,by rw[upd_ne hn];exact h1,h2,λi b s e1 e2=>?_⟩
 have:=h3 i b s e1 e2
 rw[upd_ne (ne_of this ha (λz=>nomatch z))]
 exact this
theorem StepsL.app {H:Hp}{p:Addr}{ss ts:List Stp}{xs ys:List V}(h:StepsL H p ss) (hp:H p=some (.lst xs)) (hl:ys.length=ts.length) (hy:∀(i:Nat) y t,ys[i]?=some y->ts[i]?=some t->∃b,y=.ref b/\H b=some (.tup (sVals t))):StepsL (upd H p (.lst (xs++ys))) p (ss++ts):=by
 obtain⟨bs,h1,h2,h3⟩:=h
 rw[hp] at h1
 have e:=HO.lst.inj (Option.some.inj h1)
 have ey:∃cs:List Addr,ys=cs.map V.ref:=by
  refine⟨ys.map λv=>match v with|.ref a=>a|_=>0,?_⟩
  rw[List.map_map]
  refine (List.map_id ys).symm.trans (List.map_congr_left λv hv=>?_)
  obtain⟨i,hi,e⟩:=List.getElem_of_mem hv
  obtain⟨b,rfl,_⟩:=hy i v (ts[i]'(by lia)) (by rw[<- e];simp[hi]) (by simp)
  rfl
 obtain⟨cs,rfl⟩:=ey
 have hl':cs.length=ts.length:=by simpa using hl
 refine⟨bs++cs,by rw[upd_same,e,List.map_append],by simp[h2,hl'],λi b t e1 e2=>?_⟩
 have tup:H b=some (.tup (sVals t)):=by
  by_cases hi:i<bs.length
  ·rw[List.getElem?_append_left hi] at e1
   rw[List.getElem?_append_left (by lia)] at e2
   exact h3 i b t e1 e2
  ·rw[List.getElem?_append_right (by lia)] at e1
   rw[List.getElem?_append_right (by lia),<- h2] at e2
   obtain⟨b',e3,e4⟩:=hy (i-bs.length) (.ref b) t (by rw[List.getElem?_map,e1];rfl) e2
   cases e3
   exact e4
 rw[upd_ne (ne_of tup hp (λz=>nomatch z))]
 exact tup
theorem Plc.iff {H0 H:Hp}{Pd S:Addr}{seen seen' l:List Row}{kvs:List (List Key×V)}{f:Row->Addr}(p:Plc H0 H Pd S seen l kvs f) (e:∀r,r∈seen'<->r∈seen):Plc H0 H Pd S seen' l kvs f:=
 ⟨p.d,λr hr=>p.no r λz=>hr ((e r).mpr z),λr hr=>p.yes r ((e r).mp hr),λr hr=>p.lst r ((e r).mp hr),λr hr=>p.frs r ((e r).mp hr),λr r' h h'=>p.inj r r' ((e r).mp h) ((e r').mp h')⟩
theorem Plc.new {H0 H:Hp}{Pd S D:Addr}{l:List Row}{kvs:List (List Key×V)}{f:Row->Addr}{r:Row}(p:Plc H0 H Pd S l l kvs f) (hr:r∉l) (hD:H D=some (.lst [])) (h0:H0 D=none) (n1:D≠S) (nf:∀x∈l,f x≠D) :
  Plc H0 (upd H Pd (.dT (putK kvs (keyN r) (.ref D)))) Pd S (r::l) l (putK kvs (keyN r) (.ref D)) (λx=>if x=r then D else f x) where
 d:=upd_same
 no:=λx hx=>by
  rw[valV_put,if_neg λz=>hx (by rw[keyN_inj z];simp)]
  exact p.no x λz=>hx (by simp[z])
 yes:=λx hx=>by
  rw[valV_put]
  by_cases e:x=r
  ·rw[if_pos (by rw[e]),if_pos e]
  ·rw[if_neg λz=>e (keyN_inj z),if_neg e]
   exact p.yes x (by simpa [e] using hx)
 lst:=λx hx=>by
  by_cases e:x=r
  ·rw[if_pos e,upd_ne (ne_of hD p.d (λz=>nomatch z)),e,ixs_none hr]
   exact hD
  ·have hx':x∈l:=by simpa [e] using hx
   rw[if_neg e,upd_ne (p.frs x hx').2.1]
   exact p.lst x hx'
 frs:=λx hx=>by
  by_cases e:x=r
  ·rw[if_pos e]
   exact⟨h0,ne_of hD p.d (λz=>nomatch z),n1⟩
  ·rw[if_neg e]
   exact p.frs x (by simpa [e] using hx)
 inj:=λx y hx hy e=>by
  by_cases e1:x=r
  ·by_cases e2:y=r
   ·rw[e1,e2]
   ·rw[if_pos e1,if_neg e2] at e
    exact absurd e.symm (nf y (by simpa [e2] using hy))
  ·by_cases e2:y=r
   ·rw[if_neg e1,if_pos e2] at e
    exact absurd e (nf x (by simpa [e1] using hx))
   ·rw[if_neg e1,if_neg e2] at e
    exact p.inj x y (by simpa [e1] using hx) (by simpa [e2] using hy) e
theorem Plc.put {H0 H:Hp}{Pd S:Addr}{l:List Row}{kvs:List (List Key×V)}{f:Row->Addr}{r:Row}{i:Nat}(p:Plc H0 H Pd S (r::l) l kvs f) (hi:l.length=i) :
  Plc H0 (upd H (f r) (.lst (vN (ixs l r)++[.int (i:Nat)]))) Pd S (l++[r]) (l++[r]) kvs f where
 d:=by rw[upd_ne (p.frs r (by simp)).2.1.symm];exact p.d
 no:=λx hx=>p.no x λz=>hx (by simpa [or_comm] using z)
 yes:=λx hx=>p.yes x (by simpa [or_comm] using hx)
 lst:=λx hx=>by
  have hx':x∈r::l:=by simpa [or_comm] using hx
  rw[ixs_snoc]
  by_cases e:x=r
  ·subst e
   rw[upd_same,if_pos rfl,hi]
   unfold vN
   rw[List.map_append];rfl
  ·rw[upd_ne λz=>e (p.inj x r hx' (by simp) z),if_neg λz=>e z.symm,List.append_nil]
   exact p.lst x hx'
 frs:=λx hx=>p.frs x (by simpa [or_comm] using hx)
 inj:=λx y hx hy=>p.inj x y (by simpa [or_comm] using hx) (by simpa [or_comm] using hy)
section
variable {P:Program}{w:World}{K:PySem.W.Frag}{mg:Str->Option Value}{base:Heap}
theorem scWantTl:FnScope ["telling"] ["telling"] (defScope sWantTl):=⟨rfl,rfl,rfl,by decide +kernel,rfl,by decide +kernel,by decide +kernel⟩
def TellOk (n tp:Nat) (rows:List Row):Prop:=n<=12/\RowsOk rows/\rows.length<=900/\tp<rows.length+2/\dp rows tp<=n
def spWantTl:Sp:=λvs H Q _=>∃(t:Addr) (n tp:Nat) (rows:List Row),vs=[.ref t]/\TellAt H t n tp rows/\TellOk n tp rows/\∀H',Same H H'->Q .non H'
theorem ok_wantTl {f fS:Addr}{fd fdS:FuncData}(F:Fun K "want_telling" "want_telling" sWantTl f fd)
  (hS:mg "is_telling" = some (.ref fS)) (FS:Fun K "is_telling" "is_telling" sTelling fS fdS) (bS:Binds K fdS ["thing"] []) (GS:FnOk P w K mg base CX0 5 fS fdS ["thing"] spTelling):FnOk P w K mg base CX0 6 f fd ["telling"] spWantTl:=by
 refine F.ok scWantTl (λvs H Q E h=>?_) (λcdv A outer s H vs Q E hr h=>?_)
 ·obtain⟨t,n,tp,rows,rfl,_⟩:=h
  rfl
 ·obtain⟨t,n,tp,rows,rfl,hT,⟨c1,c2,c3,c4,c5⟩,q⟩:=h
  refine⟨_,pss_one (ps_if (pt_not (pt_val (pe_call GS hr (by rfl) hS FS.kp bS .nil pass0 (pa_cons (pv 0) pa_nil)))) pss_never pss_nil),?_⟩
  exact⟨_,rfl,t,n,tp,rows,rfl,hT,c1,c2,c3,c4,c5,λH1 s1=>⟨_,rfl,iteF (q H1 s1)⟩⟩
abbrev nSame:List Str:=["rows", "places", "steps", "k", "row", "alike"]
theorem scSame:FnScope nSame ["rows"] (defScope sSame):=⟨rfl,rfl,rfl,by decide +kernel,rfl,by decide +kernel,by decide +kernel⟩
def spSame:Sp:=λvs H Q _=>∃(p:Addr) (rows:List Row),vs=[.ref p]/\RowsAt H p rows/\rows.length<=900/\∀H' q,Same H H'->H q=none->StepsL H' q (sameSteps rows)->Q (.ref q) H'
theorem ok_same {f:Addr}{fd:FuncData}(F:Fun K "same_steps" "same_steps" sSame f fd) (B:Blt mg):FnOk P w K mg base CX0 1 f fd ["rows"] spSame:=by
 refine F.ok scSame (λvs H Q E h=>?_) (λcdv A outer s H vs Q E hr h=>?_)
 ·obtain⟨p,rows,rfl,_⟩:=h
  rfl
 ·obtain⟨p,rows,rfl,hR,hn,q⟩:=h
  have hu:A.units+3+1<cLine:=by
   have h2:A.units+3+16*0+200<cLine:=hr.un
   lia
  refine seqE ⟨_,⟨ps_set (i:=1) scSame.nd rfl (by first|exact Or.inl rfl|exact Or.inr rfl) pe_dnewT⟩,?_⟩
  refine seqE ⟨_,⟨ps_set (i:=2) scSame.nd rfl (by first|exact Or.inl rfl|exact Or.inr rfl) (pe_lst pa_nil)⟩,?_⟩
  refine seqE ⟨_,⟨ps_for PassesOwn.never rfl (pi_enumT (by rfl) B.enum (pa_cons (pv 0) pa_nil)) (pg_tup rfl (pgs_cons (pg_name (i:=3) scSame.nd rfl (by first|exact Or.inl rfl|exact Or.inr rfl)) (pgs_cons (pg_name (i:=4) scSame.nd rfl (by first|exact Or.inl rfl|exact Or.inr rfl)) pgs_nil)))
   (StB.go (.cons ⟨ps_set (i:=5) scSame.nd rfl (by first|exact Or.inl rfl|exact Or.inr rfl) (PEb.go (pe_bmb PySem.F.plainAttrs_dict PySem.F.slot_dict_setdefault PySem.F.type_dict_setdefault (mt_setdefault hu) ⟨pv 1⟩ (.cons ⟨pv 4⟩ (.cons ⟨pe_lst pa_nil⟩ .nil rfl) rfl)))⟩
    (.cons ⟨ps_expr (PEb.go (pe_bmb PySem.F.plainAttrs_list PySem.F.slot_list_extend PySem.F.type_list_extend mt_extend ⟨pv 2⟩ (.cons ⟨pe_compB nSame (defScope sSame) rfl rfl rfl scSame.nd (pi_list (pv 5)) (λcl C fp s₀ H₀=>pe_tup (pa_cons pe_str (pa_cons (pv 4) (pa_cons (pv 0) pa_nil))))⟩ .nil rfl)))⟩
    (.one ⟨ps_expr (pe_bm PySem.F.plainAttrs_list PySem.F.slot_list_append PySem.F.type_list_append mt_append (pv 5) (pa_cons (pv 3) pa_nil))⟩))))⟩,?_⟩
  refine lastE ⟨_,⟨ps_ret (pv 2)⟩,?_⟩
  obtain⟨bs,hp,hlen,hrow⟩:=id hR
  have hlb:(bs.map V.ref).length=rows.length:=by rw[List.length_map];exact hlen
  refine λPd hPd=>⟨(by show 0<=sizeLine;decide),λS hS=>?_⟩
  have hSn:H S=none:=by
   cases e:H S with
   |none=>rfl
   |some o=>rw[sameU hPd _ _ e] at hS;cases hS
  have nPS:Pd≠S:=ne_of_none upd_same hS
  refine⟨_,rfl,p,rfl,⟨_,SqT.of (keepU (keepU hp hPd) hS)⟩,for_enumT (K:=K) (xs:=bs.map V.ref) (λi σ H2=>∃kvs f,Plc H H2 Pd S (rows.take i) (rows.take i) kvs f/\kvs.length<=i/\Same H H2/\StepsL H2 S ((List.range i).flatMap (sameAt rows))/\∃v3 v4 v5,σ=[some (.ref p),some (.ref Pd),some (.ref S),v3,v4,v5])
   (λi σ H2 ⟨_,_,_,_,s2,_⟩=>s2 _ _ hp) ⟨[],λ_=>0,⟨by rw[upd_ne nPS];exact upd_same,λ_ _=>rfl,λr hr=>by simp at hr,λr hr=>by simp at hr,λr hr=>by simp at hr,λr r' hr=>by simp at hr⟩,Nat.le_refl _,(sameU hPd).trans (sameU hS),⟨[],upd_same,rfl,λi b s e=>by simp at e⟩,none,none,none,rfl⟩ ?_ ?_⟩
  ·rintro i y σ H2 a hy ⟨kvs,f,pl,hkl,s2,hst,v3,v4,v5,rfl⟩ ha
   have hi:i<rows.length:=by rw[<- hlb];exact (List.getElem?_eq_some_iff.mp hy).1
   rw[List.getElem?_map] at hy
   obtain⟨b,hb,rfl⟩:=Option.map_eq_some_iff.mp hy
   have hr1:rows[i]?=some rows[i]:=by simp[hi]
   have hbt:=s2 _ _ (hrow i b rows[i] hb hr1)
   have tl:(rows.take i).length=i:=by rw[List.length_take];lia
   have etk:rows.take (i+1)=rows.take i++[rows[i]]:=List.take_succ_eq_append_getElem hi
   generalize rows[i]=r at hr1 hbt etk
   refine⟨a,_,rfl,SqT.of upd_same,rfl,_,[.ref b],rfl,.ref b,[],rfl,rfl,?_⟩
   have s3:Same H2 (upd H2 a (.tup [.int (i:Nat),.ref b])):=sameU ha
   have pl3:=pl.same s3
   have st3:=hst.same s3
   have hb3:=s3 _ _ hbt
   have S3:=s2.trans s3
   generalize upd H2 a (.tup [.int (i:Nat),.ref b])=H3 at pl3 st3 hb3 S3
   refine⟨_,rfl,.inr (.inr (.inl ⟨rfl,.inr ⟨_,pl3.d⟩⟩)),_,rfl,(by show 0<=sizeLine;decide),λD0 hD0=>?_⟩
   have s4:Same H3 (upd H3 D0 (.lst [])):=sameU hD0
   have pl4:=pl3.same s4
   have st4:=st3.same s4
   have hb4:=s4 _ _ hb3
   have S4:=S3.trans s4
   have hD4:upd H3 D0 (.lst []) D0=some (.lst []):=upd_same
   have hDn:H D0=none:=by
    cases e:H D0 with
    |none=>rfl
    |some o=>rw[S3 _ _ e] at hD0;cases hD0
   have nDS:D0≠S:=by
    obtain⟨bs0,h1,_⟩:=st3
    exact (ne_of_none h1 hD0).symm
   have nfD:∀x∈rows.take i,f x≠D0:=λx hx=>ne_of_none (pl3.lst x hx) hD0
   generalize upd H3 D0 (.lst [])=H4 at pl4 st4 hb4 S4 hD4
   refine⟨Pd,b,kvs,keyN r,.ref D0,rfl,rfl,pl4.d,by rw[keyN_V];exact hb4,smallM (by lia),?_,?_⟩
   ·intro v hv
    have hm:r∈rows.take i:=by
     by_cases z:r∈rows.take i
     ·exact z
     ·rw[pl4.no r z] at hv;cases hv
    rw[pl4.yes r hm] at hv
    cases hv
    have pl5:Plc H H4 Pd S (r::rows.take i) (rows.take i) kvs f:=pl4.iff λx=>⟨λz=>(List.mem_cons.mp z).elim (λe=>e▸hm) id,λz=>List.mem_cons_of_mem _ z⟩
    have st5:=st4
    have s5:=S4
    have hk5:kvs.length<=i+1:=by lia
    obtain⟨kvs5,ek⟩:∃k,k=kvs:=⟨_,rfl⟩
    obtain⟨f5,ef⟩:∃g,g=f:=⟨_,rfl⟩
    simp only[<- ek,<- ef] at pl5 hk5 ⊢
    obtain⟨bs5,hS5,hl5,hb5⟩:=id st5
    have hA:=pl5.lst r (by simp)
    have nAS:=(pl5.frs r (by simp)).2.2
    refine⟨_,rfl,.inl ⟨rfl,_,SqL.of hS5⟩,_,rfl,f5 r,rfl,⟨_,SqL.of hA⟩,λD2 hD2=>comp_walk hD2 (λj z H=>∃m b,(ixs (rows.take i) r)[j]?=some m/\z=.ref b/\H b=some (.tup (sVals (.same i m)))) (goes_lst (K:=K) hA) (by rw[vN_len];exact smallM (by have:=ixs_len (rows.take i) r;lia)) (λj z H1 H2 _ t ⟨m,b,h1,h2,h3⟩=>⟨m,b,h1,h2,t _ _ h3⟩) ?_ ?_⟩
    ·intro j x H6 hj hx s6 Q' hq
     obtain⟨m,hm,rfl⟩:=vN_get hx
     exact⟨_,rfl,_,rfl,(by show 3<=sizeLine;decide),λb hb=>hq _ _ (sameU hb) ⟨m,b,hm,rfl,upd_same⟩⟩
    ·intro ys H6 s6 hd6 hly hys
     have st6:=st5.same s6
     have pl6:=pl5.same s6
     have hS6:=s6 _ _ hS5
     rw[vN_len] at hly
     have e6:sameAt rows i=(ixs (rows.take i) r).map (Stp.same i):=by
      unfold sameAt
      rw[List.getD_eq_getElem?_getD,hr1];rfl
     refine⟨S,D2,_,ys,rfl,rfl,hS6,hd6,?_,?_⟩
     ·rw[List.length_map,hl5,hly]
      have a1:=flat_len (sameAt_len rows) i
      have a2:=ixs_len (rows.take i) r
      have a3:i*rows.length<=900*900:=Nat.mul_le_mul (by lia) hn
      exact Nat.le_of_lt (smallM (by lia))
     ·have st7:=st6.app (ts:=sameAt rows i) (ys:=ys) hS6 (by rw[e6,List.length_map,hly]) (λj y t h1 h2=>by
       obtain⟨m,b,g1,g2,g3⟩:=hys j y h1
       rw[e6,List.getElem?_map,g1] at h2
       cases h2
       exact⟨b,g2,g3⟩)
      have pl7:Plc H (upd H6 S (.lst (bs5.map V.ref++ys))) Pd S (r::rows.take i) (rows.take i) kvs5 f5:=
       ⟨by rw[upd_ne (ne_of pl6.d hS6 (λz=>nomatch z))];exact pl6.d,pl6.no,pl6.yes,λx hx=>by rw[upd_ne (pl6.frs x hx).2.2];exact pl6.lst x hx,pl6.frs,pl6.inj⟩
      have s7:Same H (upd H6 S (.lst (bs5.map V.ref++ys))):=λb o e=>by rw[upd_ne (ne_of_none e hSn)];exact s6 _ _ (s5 _ _ e)
      have hA7:=pl7.lst r (by simp)
      refine⟨_,rfl,.inl ⟨rfl,_,SqL.of hA7⟩,_,rfl,f5 r,_,_,rfl,rfl,hA7,by rw[vN_len];exact smallM (by have:=ixs_len (rows.take i) r;lia),?_⟩
      have pl8:=pl7.put (i:=i) tl
      have st8:=st7.ne hA7 (Ne.symm nAS) (ys:=vN (ixs (rows.take i) r)++[.int (i:Nat)])
      rw[<- flat_succ] at st8
      rw[<- etk] at pl8
      exact⟨kvs5,f5,pl8,hk5,λb o e=>by rw[upd_ne (ne_of_none e (pl7.frs r (by simp)).1)];exact s7 _ _ e,st8,_,_,_,rfl⟩
   ·intro hv
    have hm:r∉rows.take i:=λz=>by
     rw[pl4.yes r z] at hv;cases hv
    have pl5:=pl4.new hm hD4 hDn nDS nfD
    have nPs:Pd≠S:=nPS
    have st5:StepsL (upd H4 Pd (.dT (putK kvs (keyN r) (.ref D0)))) S ((List.range i).flatMap (sameAt rows)):=by
     obtain⟨bs0,h1,h2,h3⟩:=st4
     exact⟨bs0,by rw[upd_ne nPs.symm];exact h1,h2,λj c t e1 e2=>by
      have:=h3 j c t e1 e2
      rw[upd_ne (ne_of this pl4.d (λz=>nomatch z))];exact this⟩
    have s5:Same H (upd H4 Pd (.dT (putK kvs (keyN r) (.ref D0)))):=λc o e=>by rw[upd_ne (ne_of_none e hPd)];exact S4 _ _ e
    have hk5:(putK kvs (keyN r) (.ref D0)).length<=i+1:=by rw[putK_new _ hv];simp;lia
    have eD:(λx=>if x=r then D0 else f x) r=D0:=by simp
    obtain⟨f5,ef⟩:∃g:Row->Addr,g=λx=>if x=r then D0 else f x:=⟨_,rfl⟩
    rw[<- ef] at pl5 eD
    generalize upd H4 Pd (.dT (putK kvs (keyN r) (.ref D0)))=H5 at pl5 st5 s5 ⊢
    obtain⟨kvs5,ek⟩:∃k,k=putK kvs (keyN r) (.ref D0):=⟨_,rfl⟩
    rw[<- ek] at pl5 hk5
    rw[<- eD]
    obtain⟨bs5,hS5,hl5,hb5⟩:=id st5
    have hA:=pl5.lst r (by simp)
    have nAS:=(pl5.frs r (by simp)).2.2
    refine⟨_,rfl,.inl ⟨rfl,_,SqL.of hS5⟩,_,rfl,f5 r,rfl,⟨_,SqL.of hA⟩,λD2 hD2=>comp_walk hD2 (λj z H=>∃m b,(ixs (rows.take i) r)[j]?=some m/\z=.ref b/\H b=some (.tup (sVals (.same i m)))) (goes_lst (K:=K) hA) (by rw[vN_len];exact smallM (by have:=ixs_len (rows.take i) r;lia)) (λj z H1 H2 _ t ⟨m,b,h1,h2,h3⟩=>⟨m,b,h1,h2,t _ _ h3⟩) ?_ ?_⟩
    ·intro j x H6 hj hx s6 Q' hq
     obtain⟨m,hm,rfl⟩:=vN_get hx
     exact⟨_,rfl,_,rfl,(by show 3<=sizeLine;decide),λb hb=>hq _ _ (sameU hb) ⟨m,b,hm,rfl,upd_same⟩⟩
    ·intro ys H6 s6 hd6 hly hys
     have st6:=st5.same s6
     have pl6:=pl5.same s6
     have hS6:=s6 _ _ hS5
     rw[vN_len] at hly
     have e6:sameAt rows i=(ixs (rows.take i) r).map (Stp.same i):=by
      unfold sameAt
      rw[List.getD_eq_getElem?_getD,hr1];rfl
     refine⟨S,D2,_,ys,rfl,rfl,hS6,hd6,?_,?_⟩
     ·rw[List.length_map,hl5,hly]
      have a1:=flat_len (sameAt_len rows) i
      have a2:=ixs_len (rows.take i) r
      have a3:i*rows.length<=900*900:=Nat.mul_le_mul (by lia) hn
      exact Nat.le_of_lt (smallM (by lia))
     ·have st7:=st6.app (ts:=sameAt rows i) (ys:=ys) hS6 (by rw[e6,List.length_map,hly]) (λj y t h1 h2=>by
       obtain⟨m,b,g1,g2,g3⟩:=hys j y h1
       rw[e6,List.getElem?_map,g1] at h2
       cases h2
       exact⟨b,g2,g3⟩)
      have pl7:Plc H (upd H6 S (.lst (bs5.map V.ref++ys))) Pd S (r::rows.take i) (rows.take i) kvs5 f5:=
       ⟨by rw[upd_ne (ne_of pl6.d hS6 (λz=>nomatch z))];exact pl6.d,pl6.no,pl6.yes,λx hx=>by rw[upd_ne (pl6.frs x hx).2.2];exact pl6.lst x hx,pl6.frs,pl6.inj⟩
      have s7:Same H (upd H6 S (.lst (bs5.map V.ref++ys))):=λb o e=>by rw[upd_ne (ne_of_none e hSn)];exact s6 _ _ (s5 _ _ e)
      have hA7:=pl7.lst r (by simp)
      refine⟨_,rfl,.inl ⟨rfl,_,SqL.of hA7⟩,_,rfl,f5 r,_,_,rfl,rfl,hA7,by rw[vN_len];exact smallM (by have:=ixs_len (rows.take i) r;lia),?_⟩
      have pl8:=pl7.put (i:=i) tl
      have st8:=st7.ne hA7 (Ne.symm nAS) (ys:=vN (ixs (rows.take i) r)++[.int (i:Nat)])
      rw[<- flat_succ] at st8
      rw[<- etk] at pl8
      exact⟨kvs5,f5,pl8,hk5,λb o e=>by rw[upd_ne (ne_of_none e (pl7.frs r (by simp)).1)];exact s7 _ _ e,st8,_,_,_,rfl⟩
  ·rintro σ H2 ⟨kvs,f,pl,hkl,s2,hst,v3,v4,v5,rfl⟩
   rw[hlb] at hst
   exact⟨_,rfl,q H2 S s2 hSn hst⟩
end
end Pr
namespace L2
open PySem PySem.Spec PyProof.Rows PySem.W
section
variable {X:Cx}
end
end L2
namespace L2
open PySem
theorem compG_walkR {J:It}{H:Hp}{n k:Nat}{item:Nat->V->Hp->Prop}{g:TG}{tt:TT}{te:TE}{σ:St}{Fin:Hp->Prop}{D:Addr}(hD:H D=none) (yes:Nat->Bool) (Rel:Nat->V->Hp->Prop) (G:Goes J H n item) (hsz:n<sizeLine)
  (mono:∀i y H1 H2,Tups H1 H2->Rel i y H1->Rel i y H2)
  (step:∀i x H2,i<n->item i x H2->Same H H2->∀os:St,os.length=k->∀(Q1:Hp->Prop) (Q2:VK),(yes i=false->∀H3,Same H2 H3->Q1 H3)->(yes i=true->∀v H3,Same H2 H3->Rel i v H3->Q2 v H3) ->
   g x (os++σ) H2 λσ4 H4=>tt σ4 H4 λb H5=>if b=true then te σ4 H5 Q2 else Q1 H5)
  (fin:∀ys H2,Same H H2->H2 D=some (.lst ys)->ys.length=((List.range n).filter yes).length->(∀(m:Nat) y j,ys[m]?=some y->((List.range n).filter yes)[m]?=some j->Rel j y H2)->Fin H2) :
  ∃W:Nat->Nat->List V->Hp->Prop,(∃m,W 0 m [] (upd H D (.lst []))) /\
   ∀i m xs H2,W i m xs H2->H2 D=some (.lst xs)/\xs.length<sizeLine/\((J.stop i H2/\Fin H2)\/(J.go i H2/\∀y H3,J.yld i H2 y H3->∀os:St,os.length=k ->
    g y (os++σ) H3 λσ4 H4=>tt σ4 H4 λb H5=>if b=true then te σ4 H5 λv H6=>H6 D=some (.lst xs)/\∃m',m'<m/\W (i+1) m' (xs++[v]) (upd H6 D (.lst (xs++[v]))) else ∃m',m'<m/\W (i+1) m' xs H5)):=by
 refine⟨λi m ys H2=>i<=n/\m=n-i/\ys.length=((List.range i).filter yes).length/\H2 D=some (.lst ys)/\Same H H2/\∀(m:Nat) y j,ys[m]?=some y->((List.range i).filter yes)[m]?=some j->Rel j y H2,⟨n,Nat.zero_le _,rfl,rfl,upd_same,sameU hD,λm y j h=>by simp at h⟩,?_⟩
 rintro i m ys H2 ⟨hi,rfl,hl,hd,s2,rel⟩
 have hlen:ys.length<=i:=by
  rw[hl]
  exact Nat.le_trans (List.length_filter_le _ _) (by simp)
 refine⟨hd,by lia,?_⟩
 by_cases he:i=n
 ·subst he
  exact .inl ⟨G.st H2 s2,fin ys H2 s2 hd hl rel⟩
 ·refine .inr ⟨G.go i H2 (by lia) s2,λy H3 hy os ho=>?_⟩
  obtain⟨s3,it⟩:=G.yl i H2 y H3 (by lia) s2 hy
  refine step i y H3 (by lia) it (s2.trans s3) os ho _ _ (λhno H4 s4=>?_) (λhyes v H4 s4 r4=>?_)
  ·have ef:(List.range (i+1)).filter yes=(List.range i).filter yes:=by
    rw[List.range_succ,List.filter_append]
    simp[hno]
   refine⟨n-(i+1),by lia,by lia,rfl,by rw[ef];exact hl,s4 _ _ (s3 _ _ hd),(s2.trans s3).trans s4,λm y j h1 h2=>?_⟩
   rw[ef] at h2
   exact mono j y H2 H4 (s3.trans s4).tups (rel m y j h1 h2)
  ·have hd4:=s4 _ _ (s3 _ _ hd)
   have ef:(List.range (i+1)).filter yes=(List.range i).filter yes++[i]:=by
    rw[List.range_succ,List.filter_append]
    simp[hyes]
   have tk:Tups H4 (upd H4 D (.lst (ys++[v]))):=λb u e=>by
    have:b≠D:=λz=>by subst z;rw[hd4] at e;cases e
    rw[upd_ne this];exact e
   refine⟨hd4,n-(i+1),by lia,by lia,rfl,by rw[ef,List.length_append,List.length_append,hl];rfl,upd_same,λb o e=>?_,λm z j h1 h2=>?_⟩
   ·rw[upd_ne (ne_of_none e hD)]
    exact s4 _ _ (s3 _ _ (s2 _ _ e))
   ·rw[ef] at h2
    by_cases hm:m<ys.length
    ·rw[List.getElem?_append_left hm] at h1
     rw[List.getElem?_append_left (by lia)] at h2
     exact mono j z H4 _ tk (mono j z H2 H4 (s3.trans s4).tups (rel m z j h1 h2))
    ·have hm2:m=ys.length:=by
      have:=(List.getElem?_eq_some_iff.mp h1).1
      simp at this
      lia
     rw[List.getElem?_append_right (by lia),hm2] at h1
     rw[List.getElem?_append_right (by lia),hm2,hl] at h2
     have e1:z=v:=by simpa using h1.symm
     have e2:j=i:=by simpa using h2.symm
     rw[e1,e2]
     exact mono i v H4 _ tk r4
end L2
namespace Qf
def plainSteps (rows:List Row):List Stp:=((List.range rows.length).filter λk=>decide (Plain (rows.getD k []))).map Stp.plain
def used (tp:Nat) (rows:List Row):List Nat:=tp::rows.flatten
def goneSteps (tp:Nat) (rows:List Row):List Stp:=((List.range rows.length).filter λk=>decide (k+2∉used tp rows)).map Stp.gone
def allSteps (tp:Nat) (rows:List Row):List Stp:=sameSteps rows++plainSteps rows++goneSteps tp rows
theorem same_few (rows:List Row):(sameSteps rows).length<=rows.length*rows.length:=flat_len (sameAt_len rows) rows.length
theorem plain_few (rows:List Row):(plainSteps rows).length<=rows.length:=by
 unfold plainSteps
 rw[List.length_map]
 exact Nat.le_trans (List.length_filter_le _ _) (by simp)
theorem gone_few (tp:Nat) (rows:List Row):(goneSteps tp rows).length<=rows.length:=by
 unfold goneSteps
 rw[List.length_map]
 exact Nat.le_trans (List.length_filter_le _ _) (by simp)
end Qf
namespace Pr
open PySem L2 Qf
theorem refsV {ys:List V}(h:∀(i:Nat) y,ys[i]?=some y->∃b,y=.ref b):∃cs:List Addr,ys=cs.map V.ref:=by
 refine⟨ys.map λv=>match v with|.ref a=>a|_=>0,?_⟩
 rw[List.map_map]
 refine (List.map_id ys).symm.trans (List.map_congr_left λv hv=>?_)
 obtain⟨i,hi,e⟩:=List.getElem_of_mem hv
 obtain⟨b,rfl⟩:=h i v (by rw[<- e];simp[hi])
 rfl
theorem StepsL.of {H:Hp}{D:Addr}{ys:List V}{ts:List Stp}(hD:H D=some (.lst ys)) (hl:ys.length=ts.length) (h:∀(i:Nat) y t,ys[i]?=some y->ts[i]?=some t->∃b,y=.ref b/\H b=some (.tup (sVals t))):StepsL H D ts:=by
 obtain⟨cs,rfl⟩:=refsV (ys:=ys) λi y hy=>by
  have hi:=(List.getElem?_eq_some_iff.mp hy).1
  obtain⟨b,e,_⟩:=h i y (ts[i]'(by lia)) hy (by simp)
  exact⟨b,e⟩
 refine⟨cs,hD,by simpa using hl,λi b t e1 e2=>?_⟩
 obtain⟨b',e3,e4⟩:=h i (.ref b) t (by rw[List.getElem?_map,e1];rfl) e2
 cases e3
 exact e4
theorem StepsL.cat {H:Hp}{a b q:Addr}{ss ts:List Stp}{xs ys:List V}(h1:StepsL H a ss) (h2:StepsL H b ts) (ha:H a=some (.lst xs)) (hb:H b=some (.lst ys)) (hq:H q=none):StepsL (upd H q (.lst (xs++ys))) q (ss++ts):=by
 obtain⟨bs,e1,l1,t1⟩:=h1
 obtain⟨cs,e2,l2,t2⟩:=h2
 rw[ha] at e1;rw[hb] at e2
 have e1':=HO.lst.inj (Option.some.inj e1)
 have e2':=HO.lst.inj (Option.some.inj e2)
 refine⟨bs++cs,by rw[upd_same,e1',e2',List.map_append],by simp[l1,l2],λi c t g1 g2=>?_⟩
 refine keepU ?_ hq
 by_cases hi:i<bs.length
 ·rw[List.getElem?_append_left hi] at g1
  rw[List.getElem?_append_left (by lia)] at g2
  exact t1 i c t g1 g2
 ·rw[List.getElem?_append_right (by lia)] at g1
  rw[List.getElem?_append_right (by lia),<- l1] at g2
  exact t2 _ c t g1 g2
def Has (kvs:List (Key×V)) (l:List Nat):Prop:=∀x:Nat,(valV kvs (Sum.inl (x:Int))).isSome=decide (x∈l)
theorem Has.put {kvs:List (Key×V)}{l:List Nat}(h:Has kvs l) (m:Nat) (v:V):Has (putK kvs (Sum.inl (m:Int)) v) (l++[m]):=λx=>by
 rw[valV_put]
 by_cases e:x=m
 ·subst e
  rw[if_pos rfl];simp
 ·have n:¬(Sum.inl (x:Int):Key)=Sum.inl (m:Int):=λz=>e (Int.ofNat.inj (Sum.inl.inj z))
  rw[if_neg n,h x];simp[e]
theorem putK_few {κ:Type}[DecidableEq κ] (kvs:List (κ×V)) (k:κ) (v:V):(putK kvs k v).length<=kvs.length+1:=by
 unfold putK
 split
 ·rw[List.length_map];lia
 ·simp
section
variable {P:Program}{w:World}{K:PySem.W.Frag}{mg:Str->Option Value}{base:Heap}
theorem scPlainS:FnScope ["rows"] ["rows"] (defScope sPlainS):=⟨rfl,rfl,rfl,by decide +kernel,rfl,by decide +kernel,by decide +kernel⟩
def spPlainS:Sp:=λvs H Q _=>∃(p:Addr) (rows:List Row),vs=[.ref p]/\RowsAt H p rows/\RowsOk rows/\rows.length<=900/\∀H' q,Same H H'->H q=none->StepsL H' q (plainSteps rows)->Q (.ref q) H'
theorem ok_plainS {f fP:Addr}{fd fdP:FuncData}(F:Fun K "plain_steps" "plain_steps" sPlainS f fd) (B:Blt mg) (T:Cst mg) (hP:mg "is_plain" = some (.ref fP)) (FP:Fun K "is_plain" "is_plain" sPlain fP fdP) (bP:Binds K fdP ["row"] []):FnOk P w K mg base CX0 3 f fd ["rows"] spPlainS:=by
 have GP:FnOk P w K mg base CX0 2 fP fdP ["row"] spPlain:=ok_plain FP T
 refine F.ok scPlainS (λvs H Q E h=>?_) (λcdv A outer s H vs Q E hr h=>?_)
 ·obtain⟨p,rows,rfl,_⟩:=h
  rfl
 ·obtain⟨p,rows,rfl,hR,ok,hn,q⟩:=h
  obtain⟨bs,hp,hlen,hrow⟩:=id hR
  have hlb:(bs.map V.ref).length=rows.length:=by rw[List.length_map];exact hlen
  refine⟨_,pss_one (ps_ret (pe_comp2If ["rows"] (defScope sPlainS) rfl rfl rfl scPlainS.nd (pi_enumT (by rfl) B.enum (pa_cons (pv 0) pa_nil)) (λcl C fp s₀ H₀=>pt_val (pe_call GP hr (by rfl) hP FP.kp bP .nil pass0 (pa_cons (pv 1) pa_nil))) (λcl C fp s₀ H₀=>pe_tup (pa_cons pe_str (pa_cons (pv 0) pa_nil))))),?_⟩
  refine⟨_,rfl,p,rfl,⟨_,SqT.of hp⟩,λD hD=>compG_walkR hD (λk=>decide (Plain (rows.getD k []))) (λj z H3=>∃b,z=.ref b/\H3 b=some (.tup (sVals (.plain j)))) (goes_enum (K:=K) hp) (by rw[hlb];exact smallM (by lia)) (λi y H1 H2 t ⟨b,h1,h2⟩=>⟨b,h1,t _ _ h2⟩) ?_ ?_⟩
  ·rintro i x H2 hi ⟨t,y,rfl,hy,ht⟩ s2 os ho Q1 Q2 q1 q2
   match os,ho with
   |[o1,o2],_=>
    have hi2:i<rows.length:=by rw[<- hlb];exact hi
    rw[List.getElem?_map] at hy
    obtain⟨b,hb,rfl⟩:=Option.map_eq_some_iff.mp hy
    have hr1:rows[i]?=some rows[i]:=by simp[hi2]
    have eg:rows.getD i []=rows[i]:=by rw[List.getD_eq_getElem?_getD,hr1];rfl
    rw[eg] at q1 q2
    refine⟨t,_,rfl,SqT.of ht,rfl,_,_,rfl,_,_,rfl,rfl,?_⟩
    refine⟨_,rfl,b,rows[i],rfl,s2 _ _ (hrow i b _ hb hr1),(ok i _ hr1).1,λH3 s3=>⟨_,rfl,?_⟩⟩
    by_cases hc:Plain rows[i]
    ·rw[decide_eq_true hc] at q2 ⊢
     refine iteT ?_
     exact⟨_,rfl,(by show 2<=sizeLine;decide),λc hc'=>q2 rfl _ _ (s3.trans (sameU hc')) ⟨c,rfl,upd_same⟩⟩
    ·rw[decide_eq_false hc] at q1 ⊢
     exact iteF (q1 rfl H3 s3)
  ·intro ys H2 s2 hd2 hly hys
   rw[hlb] at hly hys
   refine q H2 D s2 hD (StepsL.of hd2 (by unfold plainSteps;rw[List.length_map];exact hly) λi y t h1 h2=>?_)
   unfold plainSteps at h2
   rw[List.getElem?_map] at h2
   obtain⟨j,hj,rfl⟩:=Option.map_eq_some_iff.mp h2
   exact hys i y j h1 hj
theorem scGone:FnScope ["top", "rows", "used", "row", "number"] ["top", "rows"] (defScope sGone):=⟨rfl,rfl,rfl,by decide +kernel,rfl,by decide +kernel,by decide +kernel⟩
def spGone:Sp:=λvs H Q _=>∃(p:Addr) (tp:Nat) (rows:List Row),vs=[.int (tp:Nat),.ref p]/\RowsAt H p rows/\RowsOk rows/\rows.length<=900/\∀H' q,Same H H'->H q=none->StepsL H' q (goneSteps tp rows)->Q (.ref q) H'
theorem ok_gone {f:Addr}{fd:FuncData}(F:Fun K "gone_steps" "gone_steps" sGone f fd) (B:Blt mg) (T:Cst mg):FnOk P w K mg base CX0 1 f fd ["top", "rows"] spGone:=by
 obtain⟨tf,hf⟩:=T.first
 refine F.ok scGone (λvs H Q E h=>?_) (λcdv A outer s H vs Q E hr h=>?_)
 ·obtain⟨p,tp,rows,rfl,_⟩:=h
  rfl
 ·obtain⟨p,tp,rows,rfl,hR,ok,hn,q⟩:=h
  obtain⟨bs,hp,hlen,hrow⟩:=id hR
  have hlb:(bs.map V.ref).length=rows.length:=by rw[List.length_map];exact hlen
  have hu:A.units+3+1<cLine:=by
   have h2:A.units+3+16*0+200<cLine:=hr.un
   lia
  refine seqE ⟨_,ps_setb (i:=2) scGone.nd rfl (by first|exact Or.inl rfl|exact Or.inr rfl) (pe_disps (.cons ⟨pv 0⟩ ⟨pe_bl⟩ .nil) rfl rfl (λz=>nomatch z) (by decide)) rfl rfl,?_⟩
  refine seqE ⟨_,⟨ps_for PassesOwn.never rfl (pi_tup (pv 1)) (pg_name (i:=3) scGone.nd rfl (by first|exact Or.inl rfl|exact Or.inr rfl)) (pss_one (ps_for PassesOwn.never rfl (pi_tup (pv 3)) (pg_name (i:=4) scGone.nd rfl (by first|exact Or.inl rfl|exact Or.inr rfl)) (pss_one (ps_dput hu (pv 2) (pv 4) pe_bl (by rfl)))))⟩,?_⟩
  refine lastE ⟨_,⟨ps_ret (pe_compIf ["top", "rows", "used", "row", "number"] (defScope sGone) rfl rfl rfl scGone.nd (pi_range1 (by rfl) B.range (pa_cons (pe_callB call_len_seq (by rfl) B.len PySem.boot_len (pa_cons (pv 1) pa_nil)) pa_nil)) (λcl C fp s₀ H₀=>pt_cmp (pc_dnotin hu (pe_op op_add (pv 0) (pe_glob (v:=.int 2) (by rfl) hf ⟨_,rfl⟩)) (pv 3))) (λcl C fp s₀ H₀=>pe_tup (pa_cons pe_str (pa_cons (pv 0) pa_nil))))⟩,?_⟩
  refine λU hU=>⟨_,rfl,upd_same,[(Sum.inl (tp:Int),.bl true)],rfl,(by show 1<=15;decide),?_⟩
  have eg:mergeK [] [((Sum.inl (tp:Int):Key),V.bl true)]=[(Sum.inl (tp:Int),.bl true)]:=rfl
  rw[eg,upd_upd]
  have h0:Has [((Sum.inl (tp:Int):Key),V.bl true)] [tp]:=λx=>by
   by_cases e:x=tp
   ·subst e
    rw[valV_pos rfl];simp
   ·rw[valV_neg (λz=>e (Int.ofNat.inj (Sum.inl.inj z)).symm),valV_nil];simp[e]
  have stop:∀{H2:Hp}{kvs:List (Key×V)},H2 U=some (.dK kvs)->Tups H2 H2:=λ_ _ _ h=>h
  have keep:∀{H2:Hp}{o:HO},Same H H2->Same H (upd H2 U o):=λs b o e=>by rw[upd_ne (ne_of_none e hU)];exact s _ _ e
  refine⟨_,rfl,p,rfl,⟨_,SqT.of (keepU hp hU)⟩,for_tup (K:=K) (xs:=bs.map V.ref) (λi σ H2=>∃kvs,Same H H2/\H2 U=some (.dK kvs)/\Has kvs (tp::(rows.take i).flatten)/\kvs.length<=1+4*i/\∃v3 v4,σ=[some (.int (tp:Nat)),some (.ref p),some (.ref U),v3,v4])
   ⟨_,sameU hU,upd_same,by simpa using h0,by simp,none,none,rfl⟩ (λi σ H2 _ ⟨_,s2,_⟩=>SqT.of (s2 _ _ hp)) ?_ ?_⟩
  ·rintro i y σ H2 hy ⟨kvs,s2,hu2,has,hkl,v3,v4,rfl⟩
   have hi:i<rows.length:=by rw[<- hlb];exact (List.getElem?_eq_some_iff.mp hy).1
   rw[List.getElem?_map] at hy
   obtain⟨b,hb,rfl⟩:=Option.map_eq_some_iff.mp hy
   have hr1:rows[i]?=some rows[i]:=by simp[hi]
   have hbt:=hrow i b rows[i] hb hr1
   have r4:=(ok i _ hr1).1
   have etk:(rows.take (i+1)).flatten=(rows.take i).flatten++rows[i]:=by rw[List.take_succ_eq_append_getElem hi,List.flatten_append];simp
   generalize rows[i]=r at hr1 hbt etk r4
   refine⟨_,rfl,b,rfl,⟨_,SqT.of (s2 _ _ hbt)⟩,for_tup (K:=K) (xs:=vN r) (λj σ H3=>∃kvs,Same H H3/\H3 U=some (.dK kvs)/\Has kvs (tp::(rows.take i).flatten++r.take j)/\kvs.length<=1+4*i+j/\∃v4,σ=[some (.int (tp:Nat)),some (.ref p),some (.ref U),some (.ref b),v4])
    ⟨kvs,s2,hu2,by simpa using has,by lia,_,rfl⟩ (λj σ H3 _ ⟨_,s3,_⟩=>SqT.of (s3 _ _ hbt)) ?_ ?_⟩
   ·rintro j x σ H3 hx ⟨kvs3,s3,hu3,has3,hk3,v5,rfl⟩
    obtain⟨m,hm,rfl⟩:=vN_get hx
    have hjl:=(List.getElem?_eq_some_iff.mp hm).1
    have hjm:=(List.getElem?_eq_some_iff.mp hm).2
    refine⟨_,rfl,_,rfl,U,_,rfl,DPut.k (k:=Sum.inl (m:Int)) hu3 (smallM (by lia)),?_⟩
    refine⟨_,keep s3,upd_same,?_,by have:=putK_few kvs3 (Sum.inl (m:Int):Key) (.bl true);lia,_,rfl⟩
    have:=has3.put m (.bl true)
    rw[List.append_assoc,<- hjm,List.take_append_getElem hjl] at this
    rw[hjm] at this
    exact this
   ·rintro σ H3 ⟨kvs3,s3,hu3,has3,hk3,v5,rfl⟩
    rw[vN_len,List.take_length] at has3
    rw[vN_len,r4] at hk3
    exact⟨kvs3,s3,hu3,by rw[etk];exact has3,by lia,_,_,rfl⟩
  ·rintro σ H2 ⟨kvs,s2,hu2,has,hkl,v3,v4,rfl⟩
   rw[hlb,List.take_length] at has
   have hp2:=s2 _ _ hp
   refine⟨_,rfl,p,_,rfl,.inr (SqT.of hp2),_,rfl,?_⟩
   rw[hlb]
   refine⟨by lia,by lia,λD hD=>compG_walkR hD (λk=>decide (k+2∉used tp rows)) (λj z H3=>∃b,z=.ref b/\H3 b=some (.tup (sVals (.gone j)))) goes_rng (smallM (by lia)) (λi y H1 H2 t ⟨b,h1,h2⟩=>⟨b,h1,t _ _ h2⟩) ?_ ?_⟩
   ·rintro i x H3 hi rfl s3 os ho Q1 Q2 q1 q2
    match os,ho with
    |[o1],_=>
     have dg:DGet H3 U (.int ((i:Int)+2)) (valV kvs (Sum.inl ((i+2:Nat):Int))):=DGet.k (k:=Sum.inl ((i+2:Nat):Int)) (s3 _ _ hu2)
     refine⟨_,rfl,_,_,rfl,rfl,_,rfl,U,_,rfl,dg,_,rfl,?_⟩
     rw[has (i+2)]
     by_cases hc:i+2∈used tp rows
     ·have hc':i+2∈tp::rows.flatten:=hc
      rw[decide_eq_true hc']
      rw[decide_eq_false (not_not_intro hc)] at q1
      exact iteF (q1 rfl H3 (Same.refl _))
     ·have hc':¬i+2∈tp::rows.flatten:=hc
      rw[decide_eq_false hc']
      rw[decide_eq_true hc] at q2
      refine iteT ?_
      exact⟨_,rfl,(by show 2<=sizeLine;decide),λc hc'=>q2 rfl _ _ (sameU hc') ⟨c,rfl,upd_same⟩⟩
   ·intro ys H3 s3 hd3 hly hys
    have hDn:H D=none:=by
     cases e:H D with
     |none=>rfl
     |some o=>rw[s2 _ _ e] at hD;cases hD
    refine q H3 D (s2.trans s3) hDn (StepsL.of hd3 (by unfold goneSteps;rw[List.length_map];exact hly) λi y t h1 h2=>?_)
    unfold goneSteps at h2
    rw[List.getElem?_map] at h2
    obtain⟨j,hj,rfl⟩:=Option.map_eq_some_iff.mp h2
    exact hys i y j h1 hj
theorem scStepsOf:FnScope ["telling", "top", "rows"] ["telling"] (defScope sStepsOf):=⟨rfl,rfl,rfl,by decide +kernel,rfl,by decide +kernel,by decide +kernel⟩
def spStepsOf:Sp:=λvs H Q _=>∃(t:Addr) (n tp:Nat) (rows:List Row),vs=[.ref t]/\TellAt H t n tp rows/\TellOk n tp rows/\∀H' q,Same H H'->H q=none->StepsL H' q (srt (allSteps tp rows))->Q (.ref q) H'
theorem ok_stepsOf {f fW fS fP fG:Addr}{fd fdW fdS fdP fdG:FuncData}(F:Fun K "steps_of" "steps_of" sStepsOf f fd) (hso:mg "sorted" = none)
  (hW:mg "want_telling" = some (.ref fW)) (FW:Fun K "want_telling" "want_telling" sWantTl fW fdW) (bW:Binds K fdW ["telling"] []) (GW:FnOk P w K mg base CX0 6 fW fdW ["telling"] spWantTl)
  (hS:mg "same_steps" = some (.ref fS)) (FS:Fun K "same_steps" "same_steps" sSame fS fdS) (bS:Binds K fdS ["rows"] []) (GS:FnOk P w K mg base CX0 1 fS fdS ["rows"] spSame)
  (hP:mg "plain_steps" = some (.ref fP)) (FP:Fun K "plain_steps" "plain_steps" sPlainS fP fdP) (bP:Binds K fdP ["rows"] []) (GP:FnOk P w K mg base CX0 3 fP fdP ["rows"] spPlainS)
  (hG:mg "gone_steps" = some (.ref fG)) (FG:Fun K "gone_steps" "gone_steps" sGone fG fdG) (bG:Binds K fdG ["top", "rows"] []) (GG:FnOk P w K mg base CX0 1 fG fdG ["top", "rows"] spGone):FnOk P w K mg base CX0 7 f fd ["telling"] spStepsOf:=by
 refine F.ok scStepsOf (λvs H Q E h=>?_) (λcdv A outer s H vs Q E hr h=>?_)
 ·obtain⟨t,n,tp,rows,rfl,_⟩:=h
  rfl
 ·obtain⟨t,n,tp,rows,rfl,hT,tok,q⟩:=h
  obtain⟨p,ht,hR⟩:=id hT
  have hr1:Room 1 _:=hr.mono (by decide)
  have hr3:Room 3 _:=hr.mono (by decide)
  refine seqE ⟨_,⟨ps_expr (pe_call GW hr (by rfl) hW FW.kp bW .nil pass0 (pa_cons (pv 0) pa_nil))⟩,?_⟩
  refine seqE ⟨_,⟨ps_asg (pe_slice sl_tup (pv 0) (po_some pe_int) po_none) (pg_tup rfl (pgs_cons (pg_name (i:=1) scStepsOf.nd rfl (Or.inl rfl)) (pgs_cons (pg_name (i:=2) scStepsOf.nd rfl (Or.inl rfl)) pgs_nil)))⟩,?_⟩
  refine lastE ⟨_,⟨ps_ret (pe_callB call_sortedS (by rfl) hso PyProof.Rows.boot_sorted (pa_cons (pe_op op_cat (pe_op op_cat (pe_call GS hr1 (by rfl) hS FS.kp bS .nil pass0 (pa_cons (pv 2) pa_nil)) (pe_call GP hr3 (by rfl) hP FP.kp bP .nil pass0 (pa_cons (pv 2) pa_nil))) (pe_call GG hr1 (by rfl) hG FG.kp bG .nil pass0 (pa_cons (pv 1) (pa_cons (pv 2) pa_nil)))) pa_nil))⟩,?_⟩
  refine⟨_,rfl,t,n,tp,rows,rfl,hT,tok,λH1 s1=>?_⟩
  have ht1:=s1 _ _ ht
  refine⟨_,rfl,_,rfl,t,_,rfl,SqT.of ht1,(λz=>absurd (show HT.sIx 3 0 (some 1)=0 from z.1) (by decide)),λu hu=>?_⟩
  refine⟨u,_,rfl,SqT.of upd_same,rfl,_,_,rfl,_,_,rfl,rfl,?_⟩
  have sA:Same H (upd H1 u (.tup [.int (tp:Nat),.ref p])):=s1.trans (sameU hu)
  obtain⟨_,ok,hl,_⟩:=tok
  refine (λ(go:∀H2,Same H H2->_)=>go _ sA) ?_
  intro H2 sA
  have few:=same_few rows
  have fp:=plain_few rows
  have fg:=gone_few tp rows
  have sq:rows.length*rows.length<=900*900:=Nat.mul_le_mul hl hl
  refine⟨_,rfl,p,rows,rfl,hR.same sA,hl,λH3 a s3 ha st3=>?_⟩
  refine⟨_,rfl,p,rows,rfl,hR.same (sA.trans s3),ok,hl,λH4 b s4 hb st4=>?_⟩
  have st3':=st3.same s4
  obtain⟨bs3,h3,l3,_⟩:=id st3'
  obtain⟨bs4,h4,l4,_⟩:=id st4
  refine⟨a,b,_,_,rfl,rfl,h3,h4,by rw[List.length_map,List.length_map,l3,l4];exact Nat.le_of_lt (smallM (by lia)),λc hc=>?_⟩
  have st5:=StepsL.cat st3' st4 h3 h4 hc
  have s5:=((sA.trans s3).trans s4).trans (sameU (o:=.lst (bs3.map V.ref++bs4.map V.ref)) hc)
  generalize upd H4 c (.lst (bs3.map V.ref++bs4.map V.ref))=H5 at st5 s5
  refine⟨_,rfl,_,rfl,p,tp,rows,rfl,hR.same s5,ok,hl,λH6 d s6 hd st6=>?_⟩
  have st5':=st5.same s6
  obtain⟨bs5,h5,l5,_⟩:=id st5'
  obtain⟨bs6,h6,l6,_⟩:=id st6
  refine⟨c,d,_,_,rfl,rfl,h5,h6,by rw[List.length_map,List.length_map,l5,l6,List.length_append];exact Nat.le_of_lt (smallM (by lia)),λe he=>?_⟩
  have st7:=StepsL.cat st5' st6 h5 h6 he
  have s7:=(s5.trans s6).trans (sameU (o:=.lst (bs5.map V.ref++bs6.map V.ref)) he)
  refine⟨e,_,rfl,st7,λg H8 s8 hg st8=>q H8 g (s7.trans s8) ?_ st8⟩
  cases z:H g with
  |none=>rfl
  |some o=>rw[s7 _ _ z] at hg;cases hg
end
end Pr
namespace Qf
def ren (k nb x:Nat):Nat:=if x<k+2 then x else if x=k+2 then nb else x-1
def leftR (k:Nat) (rows:List Row):List Row:=rows.take k++rows.drop (k+1)
def stepRows (k nb:Nat) (rows:List Row):List Row:=(leftR k rows).map (·.map (ren k nb))
theorem left_len {k:Nat}{rows:List Row}(h:k<rows.length):(leftR k rows).length=rows.length-1:=by
 unfold leftR;simp;lia
theorem left_lo {k i:Nat}{rows:List Row}(hk:k<rows.length) (h:i<k):(leftR k rows)[i]?=rows[i]?:=by
 unfold leftR
 rw[List.getElem?_append_left (by simp;lia),List.getElem?_take_of_lt h]
theorem left_hi {k i:Nat}{rows:List Row}(hk:k<rows.length) (h:k<=i):(leftR k rows)[i]?=rows[i+1]?:=by
 unfold leftR
 rw[List.getElem?_append_right (by simp;lia),List.getElem?_drop]
 congr 1;simp;lia
theorem step_get {k nb i:Nat}{rows:List Row}:(stepRows k nb rows)[i]?=((leftR k rows)[i]?).map (·.map (ren k nb)):=List.getElem?_map ..
theorem step_len {k nb:Nat}{rows:List Row}(h:k<rows.length):(stepRows k nb rows).length=rows.length-1:=by
 unfold stepRows;rw[List.length_map,left_len h]
theorem ren_lo {k nb x:Nat}(h:x<k+2):ren k nb x=x:=if_pos h
theorem ren_at {k nb:Nat}:ren k nb (k+2)=nb:=by unfold ren;rw[if_neg (by lia),if_pos rfl]
theorem ren_hi {k nb x:Nat}(h:k+2<x):ren k nb x=x-1:=by unfold ren;rw[if_neg (by lia),if_neg (by lia)]
theorem step_row {k nb i:Nat}{rows:List Row}{r':Row}(hk:k<rows.length) (h:(stepRows k nb rows)[i]?=some r'):∃r,rows[if i<k then i else i+1]?=some r/\r'=r.map (ren k nb):=by
 rw[step_get] at h
 obtain⟨r,hr,rfl⟩:=Option.map_eq_some_iff.mp h
 refine⟨r,?_,rfl⟩
 by_cases c:i<k
 ·rw[if_pos c,<- left_lo hk c];exact hr
 ·rw[if_neg c,<- left_hi hk (by lia)];exact hr
theorem step_rok {k nb:Nat}{rows:List Row}(ok:RowsOk rows) (hk:k<rows.length) (hb:nb<k+2):RowsOk (stepRows k nb rows):=λi r' h=>by
 obtain⟨r,hr,rfl⟩:=step_row hk h
 have rk:=ok _ _ hr
 refine⟨by rw[List.length_map];exact rk.1,λy hy=>?_⟩
 obtain⟨x,hx,rfl⟩:=List.mem_map.mp hy
 have hlt:=rk.2 x hx
 unfold ren
 by_cases c:i<k
 ·rw[if_pos c] at hlt
  rw[if_pos (by lia)];exact hlt
 ·rw[if_neg c] at hlt
  split
  ·lia
  ·split
   ·lia
   ·lia
theorem step_dp {k nb:Nat}{rows:List Row}(ok:RowsOk rows) (hk:k<rows.length) (hb:nb<k+2) (hd:dp rows nb<=dp rows (k+2)):∀x,x<rows.length+2->dp (stepRows k nb rows) (ren k nb x)<=dp rows x:=by
 intro x
 induction x using Nat.strongRecOn with
 |ind x ih=>
  intro hx
  by_cases c0:x<2
  ·rw[ren_lo (by lia),dp_low c0];exact Nat.zero_le _
  ·have hp:rows[x-2]?=some (rows.getD (x-2) []):=getD_at (by lia)
   have ed:=dp_at ok hp
   have rk:=ok _ _ hp
   rw[show x-2+2=x by lia] at ed
   have rk2:∀y∈rows.getD (x-2) [],y<x:=λy hy=>by have:=rk.2 y hy;lia
   have so:=step_rok (nb:=nb) ok hk hb
   have body:∀i,(stepRows k nb rows)[i]?=some ((rows.getD (x-2) []).map (ren k nb))->dp (stepRows k nb rows) (i+2)<=dp rows x:=λi hi=>by
    rw[dp_at so hi,ed,List.map_map]
    refine Nat.add_le_add_left (mx_le λz hz=>?_) 1
    obtain⟨y,hy,rfl⟩:=List.mem_map.mp hz
    refine Nat.le_trans (ih y (rk2 y hy) (by have:=rk2 y hy;lia)) (le_mx (List.mem_map.mpr ⟨y,hy,rfl⟩))
   by_cases c1:x<k+2
   ·rw[ren_lo c1]
    have:=body (x-2) (by rw[step_get,left_lo hk (by lia),hp];rfl)
    rwa [show x-2+2=x by lia] at this
   ·by_cases c2:x=k+2
    ·subst c2
     rw[ren_at]
     have:=ih nb (by lia) (by lia)
     rw[ren_lo hb] at this
     exact Nat.le_trans this hd
    ·rw[ren_hi (by lia)]
     have:=body (x-3) (by rw[step_get,left_hi hk (by lia),show x-3+1=x-2 by lia,hp];rfl)
     rwa [show x-3+2=x-1 by lia] at this
theorem step_top {k nb tp:Nat}{rows:List Row}(hk:k<rows.length) (hb:nb<k+2) (h:tp<rows.length+2):ren k nb tp<(stepRows k nb rows).length+2:=by
 rw[step_len hk]
 unfold ren
 split
 ·lia
 ·split<;>lia
def Stp.at:Stp->Nat
 |.gone k=>k
 |.plain k=>k
 |.same k _=>k
def nbP (rows:List Row):Stp->Nat
 |.gone k=>(rows.getD k []).getD 0 0
 |.plain k=>(rows.getD k []).getD 0 0
 |.same _ j=>j+2
def nbL (rows:List Row):Stp->Nat
 |.gone _=>0
 |.plain k=>(rows.getD k []).getD 0 0
 |.same _ j=>j+2
theorem ixs_mem {l:List Row}{r:Row}{j:Nat}(h:j∈ixs l r):j<l.length/\l[j]?=some r:=by
 unfold ixs at h
 obtain⟨h1,h2⟩:=List.mem_filter.mp h
 exact⟨List.mem_range.mp h1,of_decide_eq_true h2⟩
theorem same_mem {rows:List Row}{k j:Nat}(h:Stp.same k j∈sameSteps rows):k<rows.length/\j<k/\rows[j]?=rows[k]?:=by
 unfold sameSteps at h
 obtain⟨i,hi,h2⟩:=List.mem_flatMap.mp h
 unfold sameAt at h2
 obtain⟨m,hm,e⟩:=List.mem_map.mp h2
 cases e
 have hi':=List.mem_range.mp hi
 obtain⟨m1,m2⟩:=ixs_mem hm
 have hmi:j<k:=by simp at m1;lia
 refine⟨hi',hmi,?_⟩
 rw[List.getElem?_take_of_lt hmi] at m2
 rw[m2,getD_at hi']
theorem plain_mem {rows:List Row}{k:Nat}(h:Stp.plain k∈plainSteps rows):k<rows.length/\Plain (rows.getD k []):=by
 unfold plainSteps at h
 obtain⟨m,hm,e⟩:=List.mem_map.mp h
 cases e
 obtain⟨h1,h2⟩:=List.mem_filter.mp hm
 exact⟨List.mem_range.mp h1,of_decide_eq_true h2⟩
theorem gone_mem {tp:Nat}{rows:List Row}{k:Nat}(h:Stp.gone k∈goneSteps tp rows):k<rows.length/\k+2∉used tp rows:=by
 unfold goneSteps at h
 obtain⟨m,hm,e⟩:=List.mem_map.mp h
 cases e
 obtain⟨h1,h2⟩:=List.mem_filter.mp hm
 exact⟨List.mem_range.mp h1,of_decide_eq_true h2⟩
theorem all_mem {tp:Nat}{rows:List Row}{s:Stp}(h:s∈allSteps tp rows):match s with
  |.gone k=>k<rows.length/\k+2∉used tp rows
  |.plain k=>k<rows.length/\Plain (rows.getD k [])
  |.same k j=>k<rows.length/\j<k/\rows[j]?=rows[k]?:=by
 unfold allSteps at h
 have n1:∀{s},s∈sameSteps rows->∃k j,s=Stp.same k j:=λ{s} h=>by
  unfold sameSteps at h
  obtain⟨i,_,h2⟩:=List.mem_flatMap.mp h
  unfold sameAt at h2
  obtain⟨m,_,e⟩:=List.mem_map.mp h2
  exact⟨i,m,e.symm⟩
 have n2:∀{s},s∈plainSteps rows->∃k,s=Stp.plain k:=λ{s} h=>by
  unfold plainSteps at h
  obtain⟨m,_,e⟩:=List.mem_map.mp h
  exact⟨m,e.symm⟩
 have n3:∀{s},s∈goneSteps tp rows->∃k,s=Stp.gone k:=λ{s} h=>by
  unfold goneSteps at h
  obtain⟨m,_,e⟩:=List.mem_map.mp h
  exact⟨m,e.symm⟩
 rcases List.mem_append.mp h with h|h
 ·rcases List.mem_append.mp h with h|h
  ·obtain⟨k,j,rfl⟩:=n1 h
   exact same_mem h
  ·obtain⟨k,rfl⟩:=n2 h
   exact plain_mem h
 ·obtain⟨k,rfl⟩:=n3 h
  exact gone_mem h
theorem at_lt {tp:Nat}{rows:List Row}{s:Stp}(h:s∈allSteps tp rows):s.at<rows.length:=by
 have:=all_mem h
 cases s<;>exact this.1
theorem row0 {rows:List Row}(ok:RowsOk rows){k:Nat}(h:k<rows.length):(rows.getD k []).getD 0 0∈rows.getD k []:=by
 have rk:=ok k _ (getD_at h)
 match e:rows.getD k [],rk.1 with
 |x::_,_=>simp
theorem nbP_ok {tp:Nat}{rows:List Row}(ok:RowsOk rows){s:Stp}(h:s∈allSteps tp rows):nbP rows s<s.at+2/\dp rows (nbP rows s)<=dp rows (s.at+2):=by
 have m:=all_mem h
 have g:∀k,k<rows.length->(rows.getD k []).getD 0 0<k+2/\dp rows ((rows.getD k []).getD 0 0)<=dp rows (k+2):=λk hk=>by
  have r0:=row0 ok hk
  have ek:=getD_at hk
  refine⟨(ok k _ ek).2 _ r0,?_⟩
  rw[dp_at ok ek]
  have:=le_mx (List.mem_map.mpr ⟨_,r0,rfl⟩:dp rows ((rows.getD k []).getD 0 0)∈(rows.getD k []).map (dp rows))
  lia
 cases s with
 |gone k=>exact g k m.1
 |plain k=>exact g k m.1
 |same k j=>
  obtain⟨m1,m2,m3⟩:=m
  refine⟨by show j+2<k+2;lia,?_⟩
  have ek:=getD_at m1
  rw[ek] at m3
  show dp rows (j+2)<=dp rows (k+2)
  rw[dp_at ok ek,dp_at ok m3];exact Nat.le_refl _
theorem step_eq {tp:Nat}{rows:List Row}{s:Stp}(h:s∈allSteps tp rows):stepRows s.at (nbL rows s) rows=stepRows s.at (nbP rows s) rows/\ren s.at (nbL rows s) tp=ren s.at (nbP rows s) tp:=by
 cases s with
 |plain k=>exact⟨rfl,rfl⟩
 |same k j=>exact⟨rfl,rfl⟩
 |gone k=>
  obtain⟨m1,m2⟩:=all_mem h
  have ne:∀x∈used tp rows,∀a b,ren k a x=ren k b x:=λx hx a b=>by
   unfold ren
   have:x≠k+2:=λz=>m2 (z▸hx)
   rw[if_neg this,if_neg this]
  refine⟨?_,ne tp (by unfold used;simp) _ _⟩
  show stepRows k 0 rows=stepRows k ((rows.getD k []).getD 0 0) rows
  unfold stepRows
  refine List.map_congr_left λr hr=>List.map_congr_left λx hx=>ne x ?_ _ _
  have hm:r∈rows:=by
   unfold leftR at hr
   rcases List.mem_append.mp hr with z|z
   ·exact List.mem_of_mem_take z
   ·exact List.mem_of_mem_drop z
  unfold used
  exact List.mem_cons_of_mem _ (List.mem_flatten.mpr ⟨r,hm,hx⟩)
theorem nums_eq {k nb m:Nat}(hk:k<m):List.range (k+2)++[nb]++(List.range (m+1-(k+2))).map (k+2+·)=(List.range (m+2)).map (ren k nb):=by
 refine List.ext_getElem? λi=>?_
 rw[List.getElem?_map]
 by_cases c1:i<k+2
 ·rw[List.append_assoc,List.getElem?_append_left (by simpa using c1),List.getElem?_range c1,List.getElem?_range (by lia)]
  show some i=some (ren k nb i)
  rw[ren_lo c1]
 ·by_cases c2:i=k+2
  ·subst c2
   rw[List.append_assoc,List.getElem?_append_right (by simp),List.getElem?_append_left (by simp),List.getElem?_range (by lia)]
   simp[ren_at]
  ·rw[List.getElem?_append_right (by simp;lia),List.getElem?_map]
   by_cases c3:i<m+2
   ·rw[List.getElem?_range (by simp;lia),List.getElem?_range c3]
    show some _=some (ren k nb i)
    rw[ren_hi (by lia)]
    simp;lia
   ·rw[List.getElem?_eq_none (by simp;lia),List.getElem?_eq_none (by simp;lia)];rfl
theorem perm_steps {tp:Nat}{rows:List Row}:((List.range rows.length).flatMap λk=>(if k+2∉used tp rows then [Stp.gone k] else [])++((if Plain (rows.getD k []) then [Stp.plain k] else [])++sameAt rows k)).Perm (allSteps tp rows):=by
 have gen:∀(l:List Nat),(l.flatMap λk=>(if k+2∉used tp rows then [Stp.gone k] else [])++((if Plain (rows.getD k []) then [Stp.plain k] else [])++sameAt rows k)).Perm
   (l.flatMap (sameAt rows)++(l.filter λk=>decide (Plain (rows.getD k []))).map Stp.plain++(l.filter λk=>decide (k+2∉used tp rows)).map Stp.gone):=λl=>by
  induction l with
  |nil=>exact .refl _
  |cons k l ih=>
   rw[List.flatMap_cons,List.flatMap_cons]
   have e1:((k::l).filter λk=>decide (Plain (rows.getD k []))).map Stp.plain=(if Plain (rows.getD k []) then [Stp.plain k] else [])++(l.filter λk=>decide (Plain (rows.getD k []))).map Stp.plain:=by
    by_cases c:Plain (rows.getD k [])
    ·rw[List.filter_cons,if_pos (by simpa using c),if_pos c];rfl
    ·rw[List.filter_cons,if_neg (by simpa using c),if_neg c];rfl
   have e2:((k::l).filter λk=>decide (k+2∉used tp rows)).map Stp.gone=(if k+2∉used tp rows then [Stp.gone k] else [])++(l.filter λk=>decide (k+2∉used tp rows)).map Stp.gone:=by
    by_cases c:k+2∉used tp rows
    ·rw[List.filter_cons,if_pos (by simpa using c),if_pos c];rfl
    ·rw[List.filter_cons,if_neg (by simpa using c),if_neg c];rfl
   rw[e1,e2]
   generalize (if k+2∉used tp rows then [Stp.gone k] else [])=g at *
   generalize (if Plain (rows.getD k []) then [Stp.plain k] else [])=p at *
   generalize (l.filter λk=>decide (Plain (rows.getD k []))).map Stp.plain=ps at *
   generalize (l.filter λk=>decide (k+2∉used tp rows)).map Stp.gone=gs at *
   generalize l.flatMap (sameAt rows)=ss at *
   generalize sameAt rows k=sa at *
   refine (List.Perm.append_left _ ih).trans ?_
   rw[List.perm_iff_count]
   intro a
   simp only[List.count_append]
   lia
 exact gen _
end Qf
namespace Pr
open PySem L2 Qf
def sName:Stp->Str
 |.gone _=>"gone"
 |.plain _=>"plain"
 |.same _ _=>"same"
def sArgs:Stp->List Nat
 |.gone k=>[k]
 |.plain k=>[k]
 |.same k j=>[k,j]
theorem sVals_eq (s:Stp):sVals s=.str (sName s)::vN (sArgs s):=by cases s<;>rfl
def dS (s:Stp):PyData:=.tuple (.str (sName s)::(sArgs s).map λn:Nat=>PyData.int (n:Int))
theorem datas_vN {H:Hp}:∀(l:List Nat),DatasAt H (vN l) (l.map λn:Nat=>PyData.int (n:Int))
 |[]=>.nil
 |n::l=>.cons (.int _) (datas_vN l)
theorem data_step {H:Hp}{b:Addr}{s:Stp}(h:H b=some (.tup (sVals s))):DataAt H (.ref b) (dS s):=.tup h (by rw[sVals_eq];exact .cons (.str _) (datas_vN _))
theorem sName_ok (s:Stp):PyData.strOk (sName s)=true:=by
 cases s with
 |gone k=>exact (by decide +kernel:PyData.strOk ("gone" : Str)=true)
 |plain k=>exact (by decide +kernel:PyData.strOk ("plain" : Str)=true)
 |same k j=>exact (by decide +kernel:PyData.strOk ("same" : Str)=true)
theorem layN:∀(a:List Nat),PyData.canLayAll0 (a.map λn:Nat=>PyData.int (n:Int))=true
 |[]=>by simp[PyData.canLayAll0]
 |x::a=>by
  show (PyData.canLay0 (.int x)&&PyData.canLayAll0 (a.map λn:Nat=>PyData.int (n:Int)))=true
  rw[layN a];simp[PyData.canLay0]
theorem dS_lay (s:Stp):(dS s).canLay0=true:=by
 show (PyData.canLay0 (.str (sName s))&&PyData.canLayAll0 ((sArgs s).map λn:Nat=>PyData.int (n:Int)))=true
 rw[layN]
 show (PyData.strOk (sName s)&&true)=true
 rw[sName_ok];rfl
theorem dS_depth (s:Stp):(dS s).depth<=3:=by cases s<;>simp[dS,sArgs,sName,PyData.depth,PyData.depthAll]
theorem step_inj {s t:Stp}(h1:sName s=sName t) (h2:sArgs s=sArgs t):s=t:=sVals_inj (by rw[sVals_eq,sVals_eq,h1,h2])
theorem dS_eqv (s t:Stp):PyData.eqv (dS s) (dS t)=decide (s=t):=by
 have e:PyData.eqv (dS s) (dS t)=(PyData.eqv (.str (sName s)) (.str (sName t))&&PyData.eqvAll ((sArgs s).map λn:Nat=>PyData.int (n:Int)) ((sArgs t).map λn:Nat=>PyData.int (n:Int))):=rfl
 have e1:PyData.eqv (.str (sName s)) (.str (sName t))=(sName s==sName t):=by simp[PyData.eqv]
 have e2:∀l:List Nat,(l.map λn:Nat=>PyData.int (n:Int))=(l.map λn:Nat=>(n:Int)).map PyData.int:=λl=>by rw[List.map_map];rfl
 rw[e,e1,e2,e2,eqvAll_ints]
 by_cases h:s=t
 ·subst h
  rw[decide_eq_true rfl,decide_eq_true rfl,Bool.and_true]
  exact beq_self_eq_true _
 ·rw[decide_eq_false h]
  by_cases h1:sName s=sName t
  ·rw[decide_eq_false λz=>h (step_inj h1 (int_inj z)),Bool.and_false]
  ·rw[beq_eq_false_iff_ne.mpr h1,Bool.false_and]
theorem lay_steps:∀(ss:List Stp),PyData.canLayAll0 (ss.map dS)=true
 |[]=>by simp[PyData.canLayAll0]
 |s::ss=>by
  show (PyData.canLay0 (dS s)&&PyData.canLayAll0 (ss.map dS))=true
  rw[lay_steps ss,dS_lay];rfl
theorem any_step (ss:List Stp) (s:Stp):((ss.map dS).any λe=>PyData.eqv e (dS s))=decide (s∈ss):=by
 induction ss with
 |nil=>rfl
 |cons t ss ih=>
  rw[List.map_cons,List.any_cons,ih,dS_eqv]
  by_cases h:t=s
  ·rw[decide_eq_true h,Bool.true_or,decide_eq_true (by rw[h];exact List.mem_cons_self)]
  ·rw[decide_eq_false h,Bool.false_or,decide_eq_decide]
   exact⟨λz=>List.mem_cons_of_mem _ z,λz=>(List.mem_cons.mp z).elim (λe=>absurd e.symm h) id⟩
theorem StepsL.datas {H:Hp}{p:Addr}{ss:List Stp}(h:StepsL H p ss):∃xs,H p=some (.lst xs)/\DatasAt H xs (ss.map dS):=by
 obtain⟨bs,h1,h2,h3⟩:=h
 refine⟨_,h1,?_⟩
 clear h1
 induction bs generalizing ss with
 |nil=>
  cases ss with
  |nil=>exact .nil
  |cons _ _=>simp at h2
 |cons b bs ih=>
  cases ss with
  |nil=>simp at h2
  |cons s ss=>exact .cons (data_step (h3 0 b s rfl rfl)) (ih (by simpa using h2) λi c t e1 e2=>h3 (i+1) c t (by simpa using e1) (by simpa using e2))
section
variable {P:Program}{w:World}{K:PySem.W.Frag}{mg:Str->Option Value}{base:Heap}
theorem scIsStep:FnScope ["telling", "thing"] ["telling", "thing"] (defScope sIsStep):=⟨rfl,rfl,rfl,by decide +kernel,rfl,by decide +kernel,by decide +kernel⟩
def spIsStep:Sp:=λvs H Q _=>∃(t b:Addr) (n tp:Nat) (rows:List Row) (s:Stp),vs=[.ref t,.ref b]/\TellAt H t n tp rows/\TellOk n tp rows/\H b=some (.tup (sVals s))/\∀H',Same H H'->Q (.bl (decide (s∈allSteps tp rows))) H'
theorem ok_isStep {f fW fS:Addr}{fd fdW fdS:FuncData}(F:Fun K "is_step" "is_step" sIsStep f fd) (B:Blt mg) (C:Blt2 mg)
  (hW:mg "is_whole" = some (.ref fW)) (FW:Fun K "is_whole" "is_whole" sWhole fW fdW) (bW:Binds K fdW ["thing"] [])
  (hS:mg "steps_of" = some (.ref fS)) (FS:Fun K "steps_of" "steps_of" sStepsOf fS fdS) (bS:Binds K fdS ["telling"] []) (GS:FnOk P w K mg base CX0 7 fS fdS ["telling"] spStepsOf):FnOk P w K mg base CX0 8 f fd ["telling", "thing"] spIsStep:=by
 have GW:FnOk P w K mg base CX0 1 fW fdW ["thing"] spWhole:=ok_whole FW B
 refine F.ok scIsStep (λvs H Q E h=>?_) (λcdv A outer s0 H vs Q E hr h=>?_)
 ·obtain⟨t,b,n,tp,rows,s,rfl,_⟩:=h
  rfl
 ·obtain⟨t,b,n,tp,rows,s,rfl,hT,tok,hb,q⟩:=h
  have hr1:Room 1 _:=hr.mono (by decide)
  refine seqE ⟨_,⟨ps_if (PW.pt (pw_or (pt_not (pt_val (pe_callB call_isi (by rfl) B.isi PyProof.Rows.boot_isinstance (pa_cons (pv 1) (pa_cons (pe_bltn (v:=.ty "tuple") (by rfl) B.tuple PyProof.Rows.boot_tuple rfl) pa_nil)))))
   (pw_or (pt_cmpR op_lt (pe_callB call_len_seq (by rfl) B.len PySem.boot_len (pa_cons (pv 1) pa_nil)) pe_int (nomark _))
   (pw_or1 (pt_not (pt_val (pe_callB call_isi (by rfl) B.isi PyProof.Rows.boot_isinstance (pa_cons (pe_ix ix_tup (pv 1) pe_int (λ_ _=>rfl)) (pa_cons (pe_bltn (v:=.ty "str") (by rfl) C.str PyProof.Rows.boot_str rfl) pa_nil))))))))) (pss_one (ps_ret pe_bl)) pss_nil⟩,?_⟩
  refine seqE ⟨_,⟨ps_if (pt_not (pt_val (pe_callB (call_allL rfl) (by rfl) B.all PyProof.Rows.boot_all (pa_cons (pe_compB ["telling", "thing"] (defScope sIsStep) rfl rfl rfl scIsStep.nd (pi_tup (pe_slice sl_tup (pv 1) (po_some pe_int) po_none)) (λcl Cc fp s₀ H₀=>pe_call GW hr1 (by rfl) hW FW.kp bW .nil pass0 (pa_cons (pv 0) pa_nil))) pa_nil)))) (pss_one (ps_ret pe_bl)) pss_nil⟩,?_⟩
  refine lastE ⟨_,⟨ps_ret (pe_cmpR (op_inDL hr) (pv 1) (pe_call GS hr (by rfl) hS FS.kp bS .nil pass0 (pa_cons (pv 0) pa_nil)) (by first|exact nomark _|rfl|decide|with_unfolding_all rfl))⟩,?_⟩
  have e2:decide (((sVals s).length:Int)<2)=false:=by cases s<;>rfl
  have e0:atI (sVals s) 0=some (.str (sName s)):=by cases s<;>rfl
  have ec:cutV (sVals s) (some 1) none=vN (sArgs s):=by cases s<;>rfl
  have el:(sArgs s).length<=2:=by cases s<;>simp[sArgs]
  have ew:¬(HT.sIx (sVals s).length 0 (some 1)=0/\HT.sIx (sVals s).length (sVals s).length none=(sVals s).length):=by
   intro z
   have h1:=z.1
   cases s with
   |gone k=>exact absurd (show HT.sIx 2 0 (some 1)=0 from h1) (by decide)
   |plain k=>exact absurd (show HT.sIx 2 0 (some 1)=0 from h1) (by decide)
   |same k j=>exact absurd (show HT.sIx 3 0 (some 1)=0 from h1) (by decide)
  refine⟨_,rfl,_,_,_,_,true,rfl,rfl,.inl (.tup hb),rfl,_,rfl,iteF ⟨_,rfl,b,_,rfl,.inr (SqT.of hb),_,_,rfl,rfl,_,rfl,?_⟩⟩
  rw[e2]
  refine iteF ⟨_,rfl,b,_,0,.str (sName s),rfl,rfl,SqT.of hb,e0,_,_,_,_,true,rfl,rfl,.inl (.str _),rfl,_,rfl,iteF ?_⟩
  refine⟨_,rfl,_,rfl,b,_,rfl,SqT.of hb,λz=>absurd z ew,λu hu=>?_⟩
  rw[ec]
  have hu1:upd H u (.tup (vN (sArgs s))) u=some (.tup (vN (sArgs s))):=upd_same
  have s1:Same H (upd H u (.tup (vN (sArgs s)))):=sameU hu
  generalize upd H u (.tup (vN (sArgs s)))=H1 at hu1 s1
  refine⟨u,rfl,⟨_,SqT.of hu1⟩,λD hD=>comp_walk hD (λ_ z _=>z=.bl true) (goes_tup (K:=K) hu1) (by rw[vN_len];exact smallM (by lia)) (λ_ _ _ _ _ _ h=>h) ?_ ?_⟩
  ·intro j x H2 hj hx s2 Q' hq
   obtain⟨m,hm,rfl⟩:=vN_get hx
   exact⟨_,rfl,(m:Int),rfl,hq _ _ (Same.refl _) rfl⟩
  ·intro ys H2 s2 hd2 hly hys
   have ey:=all_yes hys
   rw[ey] at hd2
   refine⟨D,_,rfl,hd2,_,rfl,?_⟩
   rw[rep_all]
   refine iteF ?_
   have s12:=s1.trans s2
   refine⟨_,rfl,_,rfl,t,n,tp,rows,rfl,hT.mono s12.tups,tok,λH3 a s3 ha st3=>?_⟩
   obtain⟨xs,hx,hd⟩:=st3.datas
   refine⟨a,xs,_,dS s,rfl,hx,hd,data_step ((s12.trans s3) _ _ hb),dS_lay s,lay_steps _,Nat.le_trans (dS_depth s) (by decide),?_⟩
   rw[any_step]
   have em:decide (s∈srt (allSteps tp rows))=decide (s∈allSteps tp rows):=by rw[decide_eq_decide];exact (srt_perm _).mem_iff
   rw[em]
   exact q H3 (s12.trans s3)
theorem scNumB:FnScope ["rows", "step"] ["rows", "step"] (defScope sNumB):=⟨rfl,rfl,rfl,by decide +kernel,rfl,by decide +kernel,by decide +kernel⟩
def spNumB:Sp:=λvs H Q _=>∃(p b:Addr) (rows:List Row) (s:Stp),vs=[.ref p,.ref b]/\RowsAt H p rows/\RowsOk rows/\H b=some (.tup (sVals s))/\s.at<rows.length/\∀H',Same H H'->Q (.int (nbP rows s:Nat)) H'
theorem ok_numB {f:Addr}{fd:FuncData}(F:Fun K "number_behind" "number_behind" sNumB f fd) (T:Cst mg):FnOk P w K mg base CX0 1 f fd ["rows", "step"] spNumB:=by
 obtain⟨tf,hf⟩:=T.first
 refine F.ok scNumB (λvs H Q E h=>?_) (λcdv A outer s0 H vs Q E hr h=>?_)
 ·obtain⟨p,b,rows,s,rfl,_⟩:=h
  rfl
 ·obtain⟨p,b,rows,s,rfl,hR,ok,hb,hk,q⟩:=h
  obtain⟨bs,hp,hlen,hrow⟩:=id hR
  refine seqE ⟨_,⟨ps_if (pt_cmpR op_eq (pe_ix ix_tup (pv 1) pe_int (λ_ _=>rfl)) pe_str (nomark _)) (pss_one (ps_ret (pe_op op_add (pe_ix ix_tup (pv 1) pe_int (λ_ _=>rfl)) (pe_glob (v:=.int 2) (by rfl) hf ⟨_,rfl⟩)))) pss_nil⟩,?_⟩
  refine lastE ⟨_,⟨ps_ret (pe_ix ix_tup (pe_ix ix_tup (pv 0) (pe_ix ix_tup (pv 1) pe_int (λ_ _=>rfl)) (λ_ _=>rfl)) pe_int (λ_ _=>rfl))⟩,?_⟩
  have e0:atI (sVals s) 0=some (.str (sName s)):=by cases s<;>rfl
  have low:∀(k:Nat),k<rows.length->atI (sVals s) 1=some (.int (k:Nat))->Q (.int ((rows.getD k []).getD 0 0:Nat)) H->rIxT K (.ref b) (.int 1) H λy H1=>rIxT K (.ref p) y H1 λz H2=>rIxT K z (.int 0) H2 Q:=λk hk' e1 q'=>by
   have hbk:bs[k]?=some (bs[k]'(by lia)):=by simp[show k<bs.length by lia]
   have hg:=getD_at hk'
   have hbt:=hrow k _ _ hbk hg
   have r4:=(ok k _ hg).1
   have h0:(rows.getD k [])[0]?=some ((rows.getD k []).getD 0 0):=by
    generalize rows.getD k []=r at r4
    match r,r4 with
    |x::_,_=>rfl
   exact⟨b,_,1,.int (k:Nat),rfl,rfl,SqT.of hb,e1,p,_,(k:Int),.ref (bs[k]'(by lia)),rfl,rfl,SqT.of hp,atI_nat (by rw[List.getElem?_map,hbk];rfl),_,_,0,.int ((rows.getD k []).getD 0 0:Nat),rfl,rfl,SqT.of hbt,atI_nat (j:=0) (vN_at h0),q'⟩
  refine⟨_,rfl,b,_,0,.str (sName s),rfl,rfl,SqT.of hb,e0,?_⟩
  have go:=q H (Same.refl _)
  refine⟨rfl,_,rfl,?_⟩
  have n1:¬V.str "gone" = V.str "same":=λz=>absurd (V.str.inj z) (by decide)
  have n2:¬V.str "plain" = V.str "same":=λz=>absurd (V.str.inj z) (by decide)
  cases s with
  |gone k=>
   show if decide (V.str "gone" = V.str "same")=true then _ else _
   rw[decide_eq_false n1]
   exact iteF ⟨_,rfl,_,rfl,low k hk rfl go⟩
  |plain k=>
   show if decide (V.str "plain" = V.str "same")=true then _ else _
   rw[decide_eq_false n2]
   exact iteF ⟨_,rfl,_,rfl,low k hk rfl go⟩
  |same k j=>
   show if decide (V.str "same" = V.str "same")=true then _ else _
   rw[decide_eq_true rfl]
   exact iteT ⟨_,rfl,b,_,2,.int (j:Nat),rfl,rfl,SqT.of hb,rfl,_,_,rfl,rfl,go⟩
theorem scRenumL:FnScope ["row", "numbers"] ["row", "numbers"] (defScope sRenum):=⟨rfl,rfl,rfl,by decide +kernel,rfl,by decide +kernel,by decide +kernel⟩
def spRenumL:Sp:=λvs H Q _=>∃(b g:Addr) (r:Row) (ns:List Nat),vs=[.ref b,.ref g]/\H b=some (.tup (vN r))/\r.length=4/\H g=some (.lst (vN ns))/\(∀x∈r,x<ns.length) /\
 ∀H' t,Same H H'->H' t=some (.tup (vN (r.map (ns.getD · 0))))->Q (.ref t) H'
theorem ok_renumL {f:Addr}{fd:FuncData}(F:Fun K "renumbered" "renumbered" sRenum f fd) (B:Blt mg):FnOk P w K mg base CX0 1 f fd ["row", "numbers"] spRenumL:=by
 refine F.ok scRenumL (λvs H Q E h=>?_) (λcdv A outer s H vs Q E hr h=>?_)
 ·obtain⟨b,g,r,ns,rfl,_⟩:=h
  rfl
 ·obtain⟨b,g,r,ns,rfl,hb,r4,hg,hx,q⟩:=h
  refine⟨_,pss_one (ps_ret (pe_callTy call_tuple_of (by rfl) B.tuple PyProof.Rows.boot_tuple (pa_cons (pe_compB ["row", "numbers"] (defScope sRenum) rfl rfl rfl scRenumL.nd (pi_tup (pv 0)) (λcl C fp s₀ H₀=>pe_ix (ixL K rfl) (pv 2) (pv 0) (λ_ _=>rfl))) pa_nil))),?_⟩
  refine⟨_,rfl,b,rfl,⟨_,SqT.of hb⟩,λD hD=>comp_walk hD (λj z _=>∃x,r[j]?=some x/\z=.int (ns.getD x 0:Nat)) (goes_tup (K:=K) hb) (by rw[vN_len,r4];decide) (λ_ _ _ _ _ _ h=>h) ?_ ?_⟩
  ·intro j x H3 hj hx' s3 Q' hq
   obtain⟨m,hm,rfl⟩:=vN_get hx'
   have hlt:=hx m (List.mem_of_getElem? hm)
   have hgm:ns[m]?=some (ns.getD m 0):=by rw[List.getD_eq_getElem?_getD,List.getElem?_eq_getElem hlt];rfl
   exact⟨_,rfl,_,rfl,g,_,(m:Int),.int (ns.getD m 0:Nat),rfl,rfl,SqL.of (s3 _ _ hg),vN_atI hgm,hq _ _ (Same.refl _) ⟨m,hm,rfl⟩⟩
  ·intro ys H3 s3 hd3 hly hys
   have ey:ys=vN (r.map (ns.getD · 0)):=by
    refine list_ext (by rw[hly,vN_len,vN_len,List.length_map]) λj x hx=>?_
    obtain⟨m,hm,rfl⟩:=hys j x hx
    exact vN_at (by rw[List.getElem?_map,hm];rfl)
   subst ey
   exact⟨D,_,rfl,.inl ⟨SqL.of hd3,λl hl=>q _ l (s3.trans (sameU hl)) upd_same⟩⟩
end
end Pr
namespace L2
open PySem
end L2
namespace Pr
open PySem L2
theorem cut_from {xs:List V}{a:Nat}(h:a<=xs.length):cutV xs (some (a:Int)) none=xs.drop a:=by
 unfold cutV
 rw[HT.sIx_nat,HT.sIx_none,Nat.min_eq_left h,List.take_of_length_le (by rw[List.length_drop];exact Nat.le_refl _)]
theorem cut_to {xs:List V}{a:Nat}(h:a<=xs.length):cutV xs none (some (a:Int))=xs.take a:=by
 unfold cutV
 rw[HT.sIx_nat,HT.sIx_none,Nat.min_eq_left h,List.drop_zero,Nat.sub_zero]
theorem same_or {H H':Hp}{p:Addr}{o:HO}(h:H'=H\/H p=none/\H'=upd H p o):Same H H':=by
 rcases h with rfl|⟨h,rfl⟩
 ·exact Same.refl _
 ·exact sameU h
end Pr
namespace L2
open PySem
section
variable {X:Cx}
variable {o e:Expr}{es:List Expr}{to:TE}{t:TA}{name:Str}{apos cpos:Pos}{id:String}{r:V->List V->Hp->VK->Prop}
end
end L2
namespace L2
open PySem PySem.Spec PyProof.Rows
theorem getItem_tuple_whole {prog:Program}{w:World}{A:Around}{E:Value->Shared->Prop}{s:Shared}{t sl:Addr}{items:Array Value}{vl vu:Value}{lo hi:Option Int}{Q:Value->Shared->Prop}(ht:IsTup s.heap t items) (hs:s.heap.IsSliceOf sl vl vu .none) (pl:IsPart vl lo) (pu:IsPart vu hi)
  (h0:HT.sIx items.size 0 lo=0) (h1:HT.sIx items.size items.size hi=items.size) (h:Q (.ref t) s):wpAny (model prog w) A (getItem (.ref t) (.ref sl)) Q E s:=by
 obtain⟨os,hos,hcs,hds⟩:=id hs
 have hTs:s.TypeIs (.ref sl) "slice":=⟨os,hos,hcs⟩
 unfold getItem
 try with_reducible refine wpAny_holding ?_
 first|refine wpAny_bind (wpAny_pure ?_)|skip
 refine wpAny_bind (wpAny_sequenceKey ht.typeIs (by decide) ?_)
 refine wpAny_bind (wpAny_callSpecial?_slot (name:=Str.ofString "__getitem__") ht.typeIs PyProof.Rows.slot_tuple_getitem
  (wpAny_call_entry PyProof.Rows.slot_tuple_getitem ht.typeIs entry_tuple_getitem ?_ (args_tuple_getitem _ _)))
 show wpAny _ _ (Builtin.Tuple.tupleItemsOf (.ref t) >>= _) _ _ s
 refine wpAny_bind (tupleItemsOf_ ht ?_)
 refine wpAny_bind (wpAny_typeOf hTs ?_)
 rw[if_pos (by decide)]
 refine wpAny_bind (HT.sliceApplied_gen hs pl pu ?_)
 show wpAny _ _ (if (((HT.sIx items.size 0 lo:Nat):Int)==0&&(1:Int)==1&&(HT.sIx items.size items.size hi-HT.sIx items.size 0 lo)==items.size)=true then _ else _) _ _ s
 rw[if_pos (by rw[h0,h1];simp)]
 refine wpAny_bind ?_
 unfold Builtin.Tuple.tupleIsExact
 refine wpAny_bind (wpAny_typeOf ht.typeIs ?_)
 refine wpAny_pure ?_
 rw[if_pos (by decide)]
 refine wpAny_bind (wpAny_rule ?_)
 exact wpAny_pure ⟨_,rfl,wpAny_pure h⟩
section
variable {X:Cx}
def rSlW (K:PySem.W.Frag):V->Option Int->Option Int->Hp->VK->Prop:=λx lo hi H Q=>∃a xs,x=.ref a/\SqT K H a xs/\HT.sIx xs.length 0 lo=0/\HT.sIx xs.length xs.length hi=xs.length/\Q (.ref a) H
theorem sl_tupW:SlR X (rSlW X.K):=by
 intro pins s σ H x v vl vu lo hi sl Q I rx hs pl pu h
 obtain⟨a,xs,rfl,hx,h0,h1,q⟩:=h
 cases rx
 obtain⟨its,r,ht,hz⟩:=I.tuple hx
 have hlen:its.toArray.size=xs.length:=by rw[List.size_toArray];exact r.length.symm
 refine⟨"tuple",_,PyProof.Rows.slot_tuple_getitem.lookup,ht.typeIs,?_⟩
 exact getItem_tuple_whole ht hs pl pu (by rw[hlen];exact h0) (by rw[hlen];exact h1) ⟨.ref a,H,I,rfl,q⟩
theorem sl_tup2:SlR X (λx lo hi H Q=>∃a xs,x=.ref a/\H a=some (.tup xs)/\∀p H',H' p=some (.tup (cutV xs lo hi))->(H'=H\/H p=none/\H'=upd H p (.tup (cutV xs lo hi)))->Q (.ref p) H'):=by
 intro pins s σ H x v vl vu lo hi sl Q I rx hs pl pu h
 obtain⟨a,xs,ex,ha,q⟩:=h
 by_cases hc:HT.sIx xs.length 0 lo=0/\HT.sIx xs.length xs.length hi=xs.length
 ·refine sl_tupW pins s σ H x v vl vu lo hi sl Q I rx hs pl pu ⟨a,xs,ex,SqT.of ha,hc.1,hc.2,q a H ?_ (.inl rfl)⟩
  have:cutV xs lo hi=xs:=by unfold cutV;rw[hc.1,hc.2];simp
  rw[this];exact ha
 ·exact sl_tup pins s σ H x v vl vu lo hi sl Q I rx hs pl pu ⟨a,xs,ex,SqT.of ha,hc,λp hp=>q p _ upd_same (.inr ⟨hp,rfl⟩)⟩
theorem op_catT0:OpR X (binaryOp .Add) (λx y H Q=>∃a b ys,x=.ref a/\y=.ref b/\H a=some (.tup [])/\H b=some (.tup ys)/\Q (.ref b) H):=by
 intro pins s σ H x y v u Q I rx ry h
 obtain⟨a,b,ys,rfl,rfl,ha,hb,q⟩:=h
 cases rx
 cases ry
 obtain⟨its,r1,p1,_⟩:=I.tuple (SqT.of ha)
 obtain⟨its2,r2,p2,_⟩:=I.tuple (SqT.of hb)
 cases r1
 obtain⟨⟨cls,dd,data,sl⟩,ho,hc,n,hd⟩:=id p1
 obtain⟨⟨cls2,dd2,data2,sl2⟩,ho2,hc2,n2,hd2⟩:=id p2
 simp only at hc hd hc2 hd2
 subst hc hd hc2 hd2
 exact concat_meets ⟨_,ho,rfl⟩ ⟨_,ho2,rfl⟩ noFill_tuple_add seq_tuple_add PySem.F.slot_tuple_add PySem.F.entry_tuple_add (PySem.F.args_tuple_add_2 _ _)
   (tuple_addW0 a b #[] its2.toArray n n2 dd dd2 sl sl2 rfl) ⟨ho,ho2,⟨.ref b,H,I,rfl,q⟩⟩
theorem op_catT2:OpR X (binaryOp .Add) (λx y H Q=>∃a b xs ys,x=.ref a/\y=.ref b/\H a=some (.tup xs)/\H b=some (.tup ys)/\xs.length+ys.length<=sizeLine /\
  ∀p H',H' p=some (.tup (xs++ys))->(H'=H\/H p=none/\H'=upd H p (.tup (xs++ys)))->Q (.ref p) H'):=by
 intro pins s σ H x y v u Q I rx ry h
 obtain⟨a,b,xs,ys,ex,ey,ha,hb,hz,q⟩:=h
 by_cases hx:xs=[]
 ·subst hx
  exact op_catT0 pins s σ H x y v u Q I rx ry ⟨a,b,ys,ex,ey,ha,hb,q b H hb (.inl rfl)⟩
 ·refine op_catT pins s σ H x y v u Q I rx ry ⟨a,b,xs,ys,ex,ey,SqT.of ha,SqT.of hb,hx,hz,λe=>?_,λ_ p hp=>q p _ upd_same (.inr ⟨hp,rfl⟩)⟩
  subst e
  exact q a H (by rw[List.append_nil];exact ha) (.inl rfl)
end
end L2
namespace Pr
open PySem L2 Qf
theorem vN_app (a b:List Nat):vN a++vN b=vN (a++b):=by unfold vN;rw[List.map_append]
theorem RowsAt.left {H:Hp}{p:Addr}{rows:List Row}{bs:List Addr}{k:Nat}(hrow:∀(i:Nat) b r,bs[i]?=some b->rows[i]?=some r->H b=some (.tup (vN r))) (hl:bs.length=rows.length)
  (hp:H p=some (.tup ((bs.map V.ref).take k++(bs.map V.ref).drop (k+1)))):∃cs:List Addr,H p=some (.tup (cs.map V.ref))/\cs.length=(leftR k rows).length/\∀(i:Nat) b r,cs[i]?=some b->(leftR k rows)[i]?=some r->H b=some (.tup (vN r)):=by
 refine⟨bs.take k++bs.drop (k+1),by rw[List.map_append,List.map_take,List.map_drop];exact hp,by unfold leftR;simp[hl],λi b r e1 e2=>?_⟩
 unfold leftR at e2
 by_cases c:i<(bs.take k).length
 ·rw[List.getElem?_append_left c] at e1
  have c2:i<(rows.take k).length:=by simp at c ⊢;lia
  rw[List.getElem?_append_left c2] at e2
  have hk:i<k:=by simp at c;lia
  rw[List.getElem?_take_of_lt hk] at e1 e2
  exact hrow i b r e1 e2
 ·rw[List.getElem?_append_right (by lia)] at e1
  have c2:(rows.take k).length=(bs.take k).length:=by simp[hl]
  rw[List.getElem?_append_right (by lia),c2] at e2
  rw[List.getElem?_drop] at e1 e2
  exact hrow _ b r e1 e2
section
variable {P:Program}{w:World}{K:PySem.W.Frag}{mg:Str->Option Value}{base:Heap}
abbrev nStp:List Str:=["telling", "step", "n", "top", "rows", "k", "numbers", "left"]
theorem scStepped:FnScope nStp ["telling", "step"] (defScope sStepped):=⟨rfl,rfl,rfl,by decide +kernel,rfl,by decide +kernel,by decide +kernel⟩
def spStepped:Sp:=λvs H Q _=>∃(t b:Addr) (n tp:Nat) (rows:List Row) (s:Stp),vs=[.ref t,.ref b]/\TellAt H t n tp rows/\TellOk n tp rows/\H b=some (.tup (sVals s))/\s∈allSteps tp rows /\
 ∀H' t',Same H H'->TellAt H' t' n (ren s.at (nbP rows s) tp) (stepRows s.at (nbP rows s) rows)->Q (.ref t') H'
theorem ok_stepped {f fW fI fN fR:Addr}{fd fdW fdI fdN fdR:FuncData}(F:Fun K "stepped" "stepped" sStepped f fd) (B:Blt mg) (T:Cst mg)
  (hW:mg "want_telling" = some (.ref fW)) (FW:Fun K "want_telling" "want_telling" sWantTl fW fdW) (bW:Binds K fdW ["telling"] []) (GW:FnOk P w K mg base CX0 6 fW fdW ["telling"] spWantTl)
  (hI:mg "is_step" = some (.ref fI)) (FI:Fun K "is_step" "is_step" sIsStep fI fdI) (bI:Binds K fdI ["telling", "thing"] []) (GI:FnOk P w K mg base CX0 8 fI fdI ["telling", "thing"] spIsStep)
  (hN:mg "number_behind" = some (.ref fN)) (FN:Fun K "number_behind" "number_behind" sNumB fN fdN) (bN:Binds K fdN ["rows", "step"] [])
  (hR:mg "renumbered" = some (.ref fR)) (FR:Fun K "renumbered" "renumbered" sRenum fR fdR) (bR:Binds K fdR ["row", "numbers"] []):FnOk P w K mg base CX0 9 f fd ["telling", "step"] spStepped:=by
 have GN:FnOk P w K mg base CX0 1 fN fdN ["rows", "step"] spNumB:=ok_numB FN T
 have GR:FnOk P w K mg base CX0 1 fR fdR ["row", "numbers"] spRenumL:=ok_renumL FR B
 obtain⟨tf,hf⟩:=T.first
 refine F.ok scStepped (λvs H Q E h=>?_) (λcdv A outer s0 H vs Q E hr h=>?_)
 ·obtain⟨t,b,n,tp,rows,s,rfl,_⟩:=h
  rfl
 ·obtain⟨t,b,n,tp,rows,s,rfl,hT,tok,hb,hs,q⟩:=h
  have hr1:Room 1 _:=hr.mono (by decide)
  have hr6:Room 6 _:=hr.mono (by decide)
  refine seqE ⟨_,⟨ps_expr (pe_call GW hr6 (by rfl) hW FW.kp bW .nil pass0 (pa_cons (pv 0) pa_nil))⟩,?_⟩
  refine seqE ⟨_,⟨ps_if (pt_not (pt_val (pe_call GI hr (by rfl) hI FI.kp bI .nil pass0 (pa_cons (pv 0) (pa_cons (pv 1) pa_nil))))) pss_never pss_nil⟩,?_⟩
  refine seqE ⟨_,⟨ps_asg (pv 0) (pg_tup rfl (pgs_cons (pg_name (i:=2) scStepped.nd rfl (by first|exact Or.inl rfl|exact Or.inr rfl)) (pgs_cons (pg_name (i:=3) scStepped.nd rfl (by first|exact Or.inl rfl|exact Or.inr rfl)) (pgs_cons (pg_name (i:=4) scStepped.nd rfl (by first|exact Or.inl rfl|exact Or.inr rfl)) pgs_nil))))⟩,?_⟩
  refine seqE ⟨_,⟨ps_set (i:=5) scStepped.nd rfl (by first|exact Or.inl rfl|exact Or.inr rfl) (pe_ix ix_tup (pv 1) pe_int (λ_ _=>rfl))⟩,?_⟩
  refine seqE ⟨_,⟨ps_set (i:=6) scStepped.nd rfl (by first|exact Or.inl rfl|exact Or.inr rfl) (PEb.go ⟨pe_op op_cat (PEb.go ⟨pe_op op_cat (PEb.go ⟨pe_callTy (call_listR rfl) (by rfl) B.list PyProof.Rows.boot_list (pa_cons (pe_callTy call_range1V (by rfl) B.range PyProof.Rows.boot_range (pa_cons (pe_op op_add (pv 5) (pe_glob (v:=.int 2) (by rfl) hf ⟨_,rfl⟩)) pa_nil)) pa_nil)⟩)
   (pe_lst (pa_cons (pe_call GN hr1 (by rfl) hN FN.kp bN .nil pass0 (pa_cons (pv 4) (pa_cons (pv 1) pa_nil))) pa_nil))⟩)
   (PEb.go ⟨pe_callTy (call_listR2 rfl) (by rfl) B.list PyProof.Rows.boot_list (pa_cons (pe_callTy call_range2V (by rfl) B.range PyProof.Rows.boot_range (pa_cons (pe_op op_add (pv 5) (pe_glob (v:=.int 2) (by rfl) hf ⟨_,rfl⟩)) (pa_cons (pe_op op_add (pe_callB call_len_seq (by rfl) B.len PySem.boot_len (pa_cons (pv 4) pa_nil)) pe_int) pa_nil))) pa_nil)⟩)⟩)⟩,?_⟩
  refine seqE ⟨_,⟨ps_set (i:=7) scStepped.nd rfl (by first|exact Or.inl rfl|exact Or.inr rfl) (PEb.go ⟨pe_op op_catT2 (pe_slice sl_tup2 (pv 4) po_none (po_some (pv 5))) (pe_slice sl_tup2 (pv 4) (po_some (pe_op op_add (pv 5) pe_int)) po_none)⟩)⟩,?_⟩
  refine lastE ⟨_,⟨ps_ret (pe_tup (Ars2.go (.cons ⟨pv 2⟩ (.cons ⟨pe_ix ix_list (pv 6) (pv 3) (λ_ _=>rfl)⟩ (.cons ⟨pe_callTy call_tuple_of (by rfl) B.tuple PyProof.Rows.boot_tuple (pa_cons (pe_compB nStp (defScope sStepped) rfl rfl rfl scStepped.nd (pi_tup (pv 7)) (λcl C fp s₀ H₀=>pe_call GR hr1 (by rfl) hR FR.kp bR .nil pass0 (pa_cons (pv 0) (pa_cons (pv 7) pa_nil)))) pa_nil)⟩ .nil rfl) rfl) rfl)))⟩,?_⟩
  refine⟨_,rfl,t,n,tp,rows,rfl,hT,tok,λH1 s1=>?_⟩
  refine⟨_,rfl,_,rfl,t,b,n,tp,rows,s,rfl,hT.mono s1.tups,tok,s1 _ _ hb,λH2 s2=>⟨_,rfl,?_⟩⟩
  rw[decide_eq_true hs]
  refine iteF ?_
  have S2:=s1.trans s2
  obtain⟨p,ht,hRw⟩:=id hT
  obtain⟨bs,hp,hlen,hrow⟩:=id hRw
  have hlb:(bs.map V.ref).length=rows.length:=by rw[List.length_map];exact hlen
  have hk:=at_lt hs
  obtain⟨c1,ok,c3,c4,c5⟩:=tok
  have e1:atI (sVals s) 1=some (.int (s.at:Nat)):=by cases s<;>rfl
  refine⟨_,rfl,t,_,rfl,SqT.of (S2 _ _ ht),rfl,_,_,rfl,_,_,rfl,_,_,rfl,rfl,?_⟩
  refine⟨_,rfl,b,_,1,.int (s.at:Nat),rfl,rfl,SqT.of (S2 _ _ hb),e1,?_⟩
  generalize hkk:s.at=k at hk q e1
  generalize hnn:nbP rows s=nb at q
  refine⟨_,rfl,_,_,rfl,rfl,_,rfl,λr1 hr1'=>⟨r1,k+2,rfl,upd_same,by lia,λl1 hl1=>?_⟩⟩
  have S3:=(S2.trans (sameU (o:=.rng 0 ((k:Int)+2)) hr1')).trans (sameU (o:=.lst ((List.range (k+2)).map λ(i:Nat)=>V.int (i:Int))) hl1)
  have h3:upd (upd H2 r1 (.rng 0 ((k:Int)+2))) l1 (.lst ((List.range (k+2)).map λ(i:Nat)=>V.int (i:Int))) l1=some (.lst (vN (List.range (k+2)))):=upd_same
  refine (λ(go:∀H3,Same H H3->H3 l1=some (.lst (vN (List.range (k+2))))->_)=>go _ S3 h3) ?_
  intro H3 S3 h3
  refine⟨_,rfl,_,rfl,p,b,rows,s,rfl,hRw.same S3,ok,S3 _ _ hb,by rw[hkk];exact hk,λH4 s4=>⟨(by show 1<=sizeLine;decide),λl2 hl2=>?_⟩⟩
  rw[hnn]
  have S5:=(S3.trans s4).trans (sameU (o:=.lst [.int (nb:Nat)]) hl2)
  have h5:=keepU (u:=.lst [.int (nb:Nat)]) (s4 _ _ h3) hl2
  have h5b:upd H4 l2 (.lst [.int (nb:Nat)]) l2=some (.lst (vN [nb])):=upd_same
  refine (λ(go:∀H5,Same H H5->H5 l1=some (.lst (vN (List.range (k+2))))->H5 l2=some (.lst (vN [nb]))->_)=>go _ S5 h5 h5b) ?_
  intro H5 S5 h5 h5b
  refine⟨l1,l2,_,_,rfl,rfl,h5,h5b,by rw[vN_len,vN_len];simp only[List.length_range,List.length_singleton];exact Nat.le_of_lt (smallM (by lia)),λl3 hl3=>?_⟩
  rw[vN_app]
  have S6:=S5.trans (sameU (o:=.lst (vN (List.range (k+2)++[nb]))) hl3)
  have h6:upd H5 l3 (.lst (vN (List.range (k+2)++[nb]))) l3=some (.lst (vN (List.range (k+2)++[nb]))):=upd_same
  refine (λ(go:∀H6,Same H H6->H6 l3=some (.lst (vN (List.range (k+2)++[nb])))->_)=>go _ S6 h6) ?_
  intro H6 S6 h6
  have er:HO.rng ((k:Int)+2) (((bs.map V.ref).length:Int)+1)=HO.rng ((k+2:Nat):Int) ((k+2+(rows.length+1-(k+2)):Nat):Int):=by
   rw[hlb]
   congr 1
   lia
  refine⟨_,rfl,_,_,rfl,rfl,_,rfl,p,_,rfl,.inr (SqT.of (S6 _ _ hp)),_,_,rfl,rfl,_,_,rfl,λr2 hr2=>?_⟩
  rw[er]
  refine⟨r2,k+2,rows.length+1-(k+2),rfl,upd_same,by lia,λl4 hl4=>?_⟩
  have e4:((List.range (rows.length+1-(k+2))).map λ(i:Nat)=>V.int ((k+2+i:Nat):Int))=vN ((List.range (rows.length+1-(k+2))).map (k+2+·)):=by unfold vN;rw[List.map_map];rfl
  rw[e4]
  have S7:=(S6.trans (sameU (o:=.rng ((k+2:Nat):Int) ((k+2+(rows.length+1-(k+2)):Nat):Int)) hr2)).trans (sameU (o:=.lst (vN ((List.range (rows.length+1-(k+2))).map (k+2+·)))) hl4)
  have h7:=keepU (u:=.lst (vN ((List.range (rows.length+1-(k+2))).map (k+2+·)))) (keepU (u:=.rng ((k+2:Nat):Int) ((k+2+(rows.length+1-(k+2)):Nat):Int)) h6 hr2) hl4
  have h7b:upd (upd H6 r2 (.rng ((k+2:Nat):Int) ((k+2+(rows.length+1-(k+2)):Nat):Int))) l4 (.lst (vN ((List.range (rows.length+1-(k+2))).map (k+2+·)))) l4=some (.lst (vN ((List.range (rows.length+1-(k+2))).map (k+2+·)))):=upd_same
  refine (λ(go:∀H7,Same H H7->H7 l3=some (.lst (vN (List.range (k+2)++[nb])))->H7 l4=some (.lst (vN ((List.range (rows.length+1-(k+2))).map (k+2+·))))->_)=>go _ S7 h7 h7b) ?_
  intro H7 S7 h7 h7b
  refine⟨l3,l4,_,_,rfl,rfl,h7,h7b,by rw[vN_len,vN_len];simp only[List.length_append,List.length_map,List.length_range,List.length_singleton];exact Nat.le_of_lt (smallM (by lia)),λl5 hl5=>?_⟩
  rw[vN_app,nums_eq hk]
  have S8:=S7.trans (sameU (o:=.lst (vN ((List.range (rows.length+2)).map (ren k nb)))) hl5)
  have h8:upd H7 l5 (.lst (vN ((List.range (rows.length+2)).map (ren k nb)))) l5=some (.lst (vN ((List.range (rows.length+2)).map (ren k nb)))):=upd_same
  refine (λ(go:∀H8,Same H H8->H8 l5=some (.lst (vN ((List.range (rows.length+2)).map (ren k nb))))->_)=>go _ S8 h8) ?_
  intro H8 S8 h8
  have get:∀x,x<rows.length+2->((List.range (rows.length+2)).map (ren k nb)).getD x 0=ren k nb x:=λx hx=>by
   rw[List.getD_eq_getElem?_getD,List.getElem?_map,List.getElem?_range hx];rfl
  have gat:∀x,x<rows.length+2->((List.range (rows.length+2)).map (ren k nb))[x]?=some (ren k nb x):=λx hx=>by
   rw[List.getElem?_map,List.getElem?_range hx];rfl
  refine⟨_,rfl,_,rfl,_,rfl,p,_,rfl,S8 _ _ hp,λu1 H9 hu1 o1=>?_⟩
  rw[cut_to (by rw[hlb];lia)] at hu1
  have S9:=S8.trans (same_or o1)
  have h9:=(same_or o1) _ _ h8
  refine⟨_,rfl,_,rfl,_,_,rfl,rfl,_,rfl,p,_,rfl,S9 _ _ hp,λu2 HA hu2 o2=>?_⟩
  have ecut:cutV (bs.map V.ref) (some ((k:Int)+1)) none=(bs.map V.ref).drop (k+1):=by
   have:=cut_from (xs:=bs.map V.ref) (a:=k+1) (by rw[hlb];lia)
   rwa [show ((k+1:Nat):Int)=(k:Int)+1 by lia] at this
  rw[ecut] at hu2
  have SA:=S9.trans (same_or o2)
  have hA5:=(same_or o2) _ _ h9
  have hu1A:=(same_or o2) _ _ hu1
  refine⟨u1,u2,_,_,rfl,rfl,hu1A,hu2,by rw[List.length_take,List.length_drop,hlb];exact Nat.le_of_lt (smallM (by lia)),λu3 HB hu3 o3=>?_⟩
  have SB:=SA.trans (same_or o3)
  have hB5:=(same_or o3) _ _ hA5
  obtain⟨cs,hcs,hcl,hcr⟩:=RowsAt.left (H:=HB) (p:=u3) (rows:=rows) (bs:=bs) (k:=k) (λi c r e1 e2=>SB _ _ (hrow i c r e1 e2)) hlen hu3
  have hll:=left_len hk
  refine⟨_,rfl,_,rfl,_,rfl,l5,_,(tp:Int),.int (ren k nb tp:Nat),rfl,rfl,SqL.of hB5,vN_atI (gat tp c4),?_⟩
  have xlt:∀(i:Nat) r,(leftR k rows)[i]?=some r->r.length=4/\∀x∈r,x<rows.length+2:=λi r e=>by
   by_cases c:i<k
   ·rw[left_lo hk c] at e
    have rk:=ok _ _ e
    exact⟨rk.1,λx hx=>by have:=rk.2 x hx;lia⟩
   ·rw[left_hi hk (by lia)] at e
    have rk:=ok _ _ e
    have hi:=(List.getElem?_eq_some_iff.mp e).1
    exact⟨rk.1,λx hx=>by have:=rk.2 x hx;lia⟩
  have hclb:(cs.map V.ref).length=(leftR k rows).length:=by rw[List.length_map];exact hcl
  refine⟨_,rfl,u3,rfl,⟨_,SqT.of hcs⟩,λD hD=>comp_walk hD (λj z H3=>∃c r,z=.ref c/\(leftR k rows)[j]?=some r/\H3 c=some (.tup (vN (r.map (ren k nb))))) (goes_tup (K:=K) hcs) (by rw[hclb,hll];exact smallM (by lia)) (λj z H1 H2 _ tk ⟨c,r,h1,h2,h3⟩=>⟨c,r,h1,h2,tk _ _ h3⟩) ?_ ?_⟩
  ·intro j x HC hj hx sC Q' hq
   rw[List.getElem?_map] at hx
   obtain⟨c,hc,rfl⟩:=Option.map_eq_some_iff.mp hx
   have hjl:j<(leftR k rows).length:=by rw[<- hcl];exact (List.getElem?_eq_some_iff.mp hc).1
   have hg:(leftR k rows)[j]?=some (leftR k rows)[j]:=List.getElem?_eq_getElem hjl
   obtain⟨x4,xl⟩:=xlt j _ hg
   refine⟨_,rfl,_,rfl,c,l5,_,_,rfl,sC _ _ (hcr j c _ hc hg),x4,sC _ _ hB5,λx hx=>by simpa using xl x hx,λHD d sD hd=>hq _ _ sD ⟨d,_,rfl,hg,?_⟩⟩
   rw[hd]
   congr 3
   exact List.map_congr_left λx hx=>get x (xl x hx)
  ·intro ys HC sC hdC hly hys
   rw[hclb] at hly
   obtain⟨ds,rfl⟩:=refsV (ys:=ys) λj y hy=>by
    obtain⟨c,r,z,_⟩:=hys j y hy
    exact⟨c,z⟩
   refine⟨D,_,rfl,.inl ⟨SqL.of hdC,λl hl=>⟨(by show 3<=sizeLine;decide),λt' ht'=>?_⟩⟩⟩
   have SE:=((SB.trans sC).trans (sameU (o:=.tup (ds.map V.ref)) hl)).trans (sameU (o:=.tup [.int (n:Nat),.int (ren k nb tp:Nat),.ref l]) ht')
   refine q _ t' SE ⟨l,upd_same,ds,keepU upd_same ht',?_,λi c r e1 e2=>?_⟩
   ·rw[List.length_map] at hly
    unfold stepRows
    rw[List.length_map,hly]
   ·obtain⟨c',r',e3,e4,e5⟩:=hys i (.ref c) (by rw[List.getElem?_map,e1];rfl)
    cases e3
    rw[step_get,e4] at e2
    cases e2
    exact keepU (keepU e5 hl) ht'
end
end Pr
namespace Pr
open PySem L2 Qf
theorem eqvL_nil (ds:List PyData):PyData.eqv (.list ds) (.list [])=decide (ds=[]):=by
 cases ds with
 |nil=>rfl
 |cons a l=>simp[PyData.eqv,PyData.eqvAll]
end Pr
namespace Pr
open PySem L2 Qf
section
variable {P:Program}{w:World}{K:PySem.W.Frag}{mg:Str->Option Value}{base:Heap}
theorem scLDeps:FnScope ["_law_rows", "_law_found", "_law_row_here"] ["_law_rows"] (defScope lDeps):=⟨rfl,rfl,rfl,by decide +kernel,rfl,by decide +kernel,by decide +kernel⟩
theorem RowsL.s {H:Hp}{p:Addr}{rows:List Row}(h:RowsL H p rows):RowsS H p rows:=let ⟨bs,a,b,c⟩:=h;⟨bs,.inr a,b,c⟩
def spLDeps:Sp:=λvs H Q _=>∃(p:Addr) (rows:List Row),vs=[.ref p]/\RowsS H p rows/\RowsOk rows/\rows.length<=1190900/\∀H' D,Same H H'->H' D=some (.lst (vN (deps rows)))->Q (.ref D) H'
theorem ok_lDeps {f:Addr}{fd:FuncData}(F:Fun K "_law_depths" "_law_depths" lDeps f fd) (B:Blt mg):FnOk P w K mg base CX0 1 f fd ["_law_rows"] spLDeps:=by
 refine F.ok scLDeps (λvs H Q E h=>?_) (λcdv A outer s H vs Q E hr h=>?_)
 ·obtain⟨p,rows,rfl,_⟩:=h
  rfl
 ·obtain⟨p,rows,rfl,hR,ok,hn,q⟩:=h
  refine⟨_,pss_cons (ps_set (i:=1) scLDeps.nd rfl (by first|exact Or.inl rfl|exact Or.inr rfl) (pe_lst (pa_cons pe_int (pa_cons pe_int pa_nil))))
   (pss_cons (ps_for PassesOwn.never rfl (pi_seq (pv 0)) (pg_name (i:=2) scLDeps.nd rfl (by first|exact Or.inl rfl|exact Or.inr rfl))
    (pss_one (ps_expr (pe_bm PySem.F.plainAttrs_list PySem.F.slot_list_append PySem.F.type_list_append mt_append (pv 1) (pa_cons (pe_op op_add pe_int (pe_callB (call_maxL rfl) (by rfl) B.max PyProof.Rows.boot_max
     (pa_cons (pe_compB ["_law_rows", "_law_found", "_law_row_here"] (defScope lDeps) rfl rfl rfl scLDeps.nd (pi_tup (pv 2)) (λcl C fp s₀ H₀=>pe_ix (ixL K rfl) (pv 2) (pv 0) (λ_ _=>rfl))) pa_nil))) pa_nil)))))
   (pss_one (ps_ret (pv 1)))),?_⟩
  refine⟨(by show 2<=sizeLine;decide),λD hD=>?_⟩
  obtain⟨bs,hp,hlen,hrow⟩:=id hR
  have hlb:(bs.map V.ref).length=rows.length:=by rw[List.length_map];exact hlen
  refine⟨_,rfl,p,rfl,for_seq2 (K:=K) (a:=p) (xs:=bs.map V.ref) (λi σ H2=>Same H H2/\H2 D=some (.lst (vN (deps (rows.take i))))/\∃v2,σ=[some (.ref p),some (.ref D),v2])
   (hp.elim (λh=>.inr λi σ H2 ⟨s2,_⟩=>SqT.of (s2 _ _ h)) (λh=>.inl λi σ H2 ⟨s2,_⟩=>SqL.of (s2 _ _ h)))
   ⟨sameU hD,upd_same,none,rfl⟩ ?_ ?_⟩
  ·rintro i y σ H2 hy ⟨s2,hd2,v2,rfl⟩
   have hi:i<rows.length:=by rw[<- hlb];exact (List.getElem?_eq_some_iff.mp hy).1
   rw[List.getElem?_map] at hy
   obtain⟨b,hb,rfl⟩:=Option.map_eq_some_iff.mp hy
   have hr1:rows[i]?=some rows[i]:=by simp[hi]
   have hbt:=s2 _ _ (hrow i b rows[i] hb hr1)
   have rk:=ok i _ hr1
   have tl:(rows.take i).length=i:=by rw[List.length_take];lia
   have hds:∀x,x<i+2->(deps (rows.take i))[x]?=some (dp (rows.take i) x):=λx hx=>dp_get (by rw[tl];exact hx)
   generalize rows[i]=r at hr1 hbt rk
   refine⟨_,rfl,.inl ⟨rfl,_,SqL.of hd2⟩,_,rfl,b,rfl,⟨_,SqT.of hbt⟩,λD2 hD2=>comp_walk hD2 (λj z _=>∃x,r[j]?=some x/\z=.int (dp (rows.take i) x:Nat)) (goes_tup (K:=K) hbt) (by rw[vN_len,rk.1];decide) (λ_ _ _ _ _ _ h=>h) ?_ ?_⟩
   ·intro j x H3 hj hx s3 Q' hq
    obtain⟨m,hm,rfl⟩:=vN_get hx
    have hlt:=rk.2 m (List.mem_of_getElem? hm)
    exact⟨_,rfl,_,rfl,D,_,(m:Int),.int (dp (rows.take i) m:Nat),rfl,rfl,SqL.of (s3 _ _ hd2),vN_atI (hds m hlt),hq _ _ (Same.refl _) ⟨m,hm,rfl⟩⟩
   ·intro ys H3 s3 hd3 hly hys
    have ey:ys=(r.map (dp (rows.take i))).map (λn:Nat=>V.int (n:Int)):=by
     refine list_ext (by rw[hly,vN_len,List.length_map,List.length_map]) λj x hx=>?_
     obtain⟨m,hm,rfl⟩:=hys j x hx
     rw[List.getElem?_map,List.getElem?_map,hm];rfl
    have e2:ys=((r.map (dp (rows.take i))).map (λn:Nat=>(n:Int))).map V.int:=ey.trans (vN_int _)
    have hne:r.map (dp (rows.take i))≠[]:=λz=>by
     have:=congrArg List.length z
     rw[List.length_map,rk.1] at this
     cases this
    refine⟨D2,(r.map (dp (rows.take i))).map (λn:Nat=>(n:Int)),rfl,e2▸hd3,λz=>hne (List.map_eq_nil_iff.mp z),_,_,rfl,rfl,?_⟩
    rw[best_all hne]
    have hd4:=s3 _ _ hd2
    refine⟨D,_,_,rfl,rfl,hd4,?_,?_⟩
    ·rw[vN_len,deps_len,tl];exact smallM (by lia)
    ·have nD:∀b o,H b=some o->b≠D:=λb o e=>ne_of_none e hD
     refine⟨λb o e=>by rw[upd_ne (nD b o e)];exact s3 _ _ (s2 _ _ e),?_,_,rfl⟩
     rw[upd_same,deps_take hr1]
     unfold vN
     rw[List.map_append]
     rfl
  ·rintro σ H2 ⟨s2,hd2,v2,rfl⟩
   refine⟨_,rfl,q H2 D s2 ?_⟩
   rw[hlb,List.take_length] at hd2
   exact hd2
theorem PurseAt.keep {H:Hp}{p a:Addr}{o:HO}(h:PurseAt H p) (ha:H a=none):PurseAt (upd H a o) p:=h.same (sameU ha)
theorem lay_rowsL (rows:List Row):(PyData.list (rows.map λr=>dT (r.map λx:Nat=>(x:Int)))).canLay0=true:=by
 show PyData.canLayAll0 _=true
 induction rows with
 |nil=>simp[PyData.canLayAll0]
 |cons r rows ih=>
  show (PyData.canLay0 (dT _)&&PyData.canLayAll0 _)=true
  rw[ih,dT_lay];rfl
theorem deep_rowsL (rows:List Row):(PyData.list (rows.map λr=>dT (r.map λx:Nat=>(x:Int)))).depth<=60:=by
 have key:PyData.depthAll (rows.map λr=>dT (r.map λx:Nat=>(x:Int)))<=2:=by
  induction rows with
  |nil=>simp[PyData.depthAll]
  |cons r rows ih=>
   have:=dT_depth (r.map λx:Nat=>(x:Int))
   simp only[List.map_cons,PyData.depthAll]
   lia
 simp only[PyData.depth]
 lia
theorem scRowDr:FnScope ["_law_pot_here", "_law_rows", "_law_way"] ["_law_pot_here", "_law_rows"] (defScope lRowDr):=⟨rfl,rfl,rfl,by decide +kernel,rfl,by decide +kernel,by decide +kernel⟩
def spRowDr:Sp:=λvs H Q _=>∃(pp rp:Addr) (rows:List Row),vs=[.ref pp,.ref rp]/\PurseAt H pp/\RowsL H rp rows/\rp≠pp/\RowsOk rows/\rows.length<=900/\∀H' b r,But pp H H'->PurseAt H' pp->H' b=some (.tup (vN r))->RowOk rows.length r->Q (.ref b) H'
theorem ok_rowDr {f fD:Addr}{fd fdD:FuncData}(F:Fun K "_law_row" "_law_row" lRowDr f fd) (B:Blt mg) (hD:mg "_law_digit" = some (.ref fD)) (FD:Fun K "_law_digit" "_law_digit" lDigit fD fdD) (bD:Binds K fdD ["_law_pot_here", "_law_many"] []):FnOk P w K mg base CX0 2 f fd ["_law_pot_here", "_law_rows"] spRowDr:=by
 have GD:FnOk P w K mg base CX0 1 fD fdD ["_law_pot_here", "_law_many"] spDigit:=ok_digit FD
 refine F.ok scRowDr (λvs H Q E h=>?_) (λcdv A outer s H vs Q E hr h=>?_)
 ·obtain⟨pp,rp,rows,rfl,_⟩:=h
  rfl
 ·obtain⟨pp,rp,rows,rfl,hp,hR,hrp,ok,hn,q⟩:=h
  refine seqE ⟨_,⟨ps_set (i:=2) scRowDr.nd rfl (by first|exact Or.inl rfl|exact Or.inr rfl) (pe_call GD hr (by rfl) hD FD.kp bD .nil pass0 (pa_cons (pv 0) (pa_cons pe_int pa_nil)))⟩,?_⟩
  refine seqE ⟨_,⟨ps_if (PW.pt (pw_and (pt_cmpR op_eq (pv 2) pe_int (nomark _)) (pw_and1 (pt_cmpR (op_neD hr) (pv 1) (pe_lst pa_nil) (nomark _))))) (pss_one (ps_ret (pe_ix ix_list (pv 1) (pe_call GD hr (by rfl) hD FD.kp bD .nil pass0 (pa_cons (pv 0) (pa_cons (pe_callB call_len_seq (by rfl) B.len PySem.boot_len (pa_cons (pv 1) pa_nil)) pa_nil))) (λ_ _=>rfl)))) pss_nil⟩,?_⟩
  refine seqE ⟨_,⟨ps_if (pt_cmpR op_eq (pv 2) pe_int (nomark _)) (pss_one (ps_ret (pe_op op_repT (pe_tup (pa_cons (pe_call GD hr (by rfl) hD FD.kp bD .nil pass0 (pa_cons (pv 0) (pa_cons pe_int pa_nil))) pa_nil)) pe_int))) pss_nil⟩,?_⟩
  refine seqE ⟨_,⟨ps_if (pt_cmpR op_lt (pv 2) pe_int (nomark _)) (pss_one (ps_ret (pe_callTy call_tuple_of (by rfl) B.tuple PyProof.Rows.boot_tuple (pa_cons (pe_compB ["_law_pot_here", "_law_rows", "_law_way"] (defScope lRowDr) rfl rfl rfl scRowDr.nd (pi_range1 (by rfl) B.range (pa_cons pe_int pa_nil)) (λcl C fp s₀ H₀=>pe_call GD hr (by rfl) hD FD.kp bD .nil pass0 (pa_cons (pv 1) (pa_cons pe_int pa_nil)))) pa_nil)))) pss_nil⟩,?_⟩
  refine lastE ⟨_,⟨ps_ret (pe_callTy call_tuple_of (by rfl) B.tuple PyProof.Rows.boot_tuple (pa_cons (pe_compB ["_law_pot_here", "_law_rows", "_law_way"] (defScope lRowDr) rfl rfl rfl scRowDr.nd (pi_range1 (by rfl) B.range (pa_cons pe_int pa_nil)) (λcl C fp s₀ H₀=>pe_call GD hr (by rfl) hD FD.kp bD .nil pass0 (pa_cons (pv 1) (pa_cons (pe_op op_add (pe_callB (lenS K rfl) (by rfl) B.len PySem.boot_len (pa_cons (pv 2) pa_nil)) pe_int) pa_nil)))) pa_nil))⟩,?_⟩
  refine⟨_,rfl,pp,7,rfl,hp,by decide,by decide,λd H1 hd b1 hp1=>?_⟩
  have hpl:∃a b:Int,H pp=some (.lst [.int a,.int b]):=by obtain⟨a,b,e,_⟩:=hp;exact⟨a,b,e⟩
  obtain⟨pa,pb,hpe⟩:=hpl
  have hR1:=hR.but b1 hrp hpe (λu z=>nomatch z)
  obtain⟨bs,hrl,hlen,hrow⟩:=id hR1
  have hlb:(bs.map V.ref).length=rows.length:=by rw[List.length_map];exact hlen
  refine⟨_,rfl,rfl,_,rfl,?_⟩
  refine ite2 (λhc=>?_) (λhc=>?_)
  ·refine⟨_,rfl,(by show 0<=sizeLine;decide),λD0 hD0=>?_⟩
   have hrD:=keepU (u:=.lst []) hrl hD0
   have dr:DatasAt (upd H1 D0 (.lst [])) (bs.map V.ref) (rows.map λr=>dT (r.map λx:Nat=>(x:Int))):=datas_rows hlen λi b r e1 e2=>keepU (hrow i b r e1 e2) hD0
   refine⟨_,_,.lst hrD dr,.lst upd_same .nil,lay_rowsL rows,by simp[PyData.canLay0,PyData.canLayAll0],deep_rowsL rows,_,rfl,?_⟩
   rw[eqvL_nil]
   by_cases hz:rows=[]
   ·subst hz
    rw[decide_eq_true (by rfl)]
    refine iteF ?_
    have b1':But pp H (upd H1 D0 (.lst [])):=λb o e nb=>keepU (b1 _ _ e nb) hD0
    have hp1':=hp1.keep (o:=.lst []) hD0
    generalize upd H1 D0 (.lst [])=H9 at b1' hp1' hrD
    clear b1 hp1 hrl hR1 hrow hD0 dr
    have b1:=b1'
    have hp1:=hp1'
    have hrl:=hrD
    have rows0:True:=trivial
    obtain⟨rows,hrows⟩:∃rows:List Row,rows=[]:=⟨_,rfl⟩
    rw[<- hrows] at q hlb hn
    refine⟨_,rfl,rfl,_,rfl,?_⟩
    refine ite2 (λhc=>?_) (λhc=>?_)
    ·refine⟨_,rfl,pp,2,rfl,hp1,by decide,by decide,λx H2 hx b2 hp2=>⟨(by show 1<=sizeLine;decide),λu hu=>⟨u,4,.int (x:Nat),rfl,rfl,upd_same,by decide,by decide,λv hv=>?_⟩⟩⟩
     refine q _ v [x,x,x,x] (λb o e nb=>keepU (keepU (b2 _ _ (b1 _ _ e nb) nb) hu) hv) ((hp2.keep hu).keep hv) upd_same ⟨rfl,λy hy=>?_⟩
     have:y=x:=by simpa using hy
     lia
    ·refine⟨_,rfl,_,_,rfl,rfl,_,rfl,?_⟩
     refine ite2 (λhc2=>?_) (λhc2=>?_)
     ·refine⟨_,rfl,by decide,by decide,?_⟩
      intro D hD3
      have npD:pp≠D:=by obtain⟨a,b,e,_⟩:=hp1;exact ne_of_none e hD3
      have nrD:rp≠D:=ne_of_none hrl hD3
      refine comp_rngB (p:=pp) hD3 npD (λH5=>PurseAt H5 pp/\H5 rp=some (.lst (bs.map V.ref))) (λ_ y=>∃x:Nat,y=.int (x:Nat)/\x<rows.length+2) (by decide) (λH5 o ⟨⟨a,b,e,r⟩,e2⟩=>⟨⟨a,b,by rw[upd_ne npD];exact e,r⟩,by rw[upd_ne nrD];exact e2⟩) ⟨hp1,hrl⟩ ?_ ?_
      ·intro j H5 hj b5 i5 Q' hq
       exact⟨_,rfl,pp,2,rfl,i5.1,by decide,by decide,λx H6 hx b6 hp6=>hq _ _ b6 ⟨hp6,b6 _ _ i5.2 hrp⟩ ⟨x,rfl,by lia⟩⟩
      ·intro ys H5 b5 i5 hd5 hly hys
       obtain⟨r,rfl,hrr⟩:=nats_of hys
       rw[vN_len] at hly
       refine⟨D,_,rfl,.inl ⟨SqL.of hd5,λt ht=>q _ t r (λb o e nb=>keepU (b5 _ _ (b1 _ _ e nb) nb) ht) (i5.1.keep ht) upd_same ⟨hly,λx hx=>hrr x hx⟩⟩⟩
     ·refine⟨_,rfl,by decide,by decide,?_⟩
      intro D hD3
      have npD:pp≠D:=by obtain⟨a,b,e,_⟩:=hp1;exact ne_of_none e hD3
      have nrD:rp≠D:=ne_of_none hrl hD3
      refine comp_rngB (p:=pp) hD3 npD (λH5=>PurseAt H5 pp/\H5 rp=some (.lst (bs.map V.ref))) (λ_ y=>∃x:Nat,y=.int (x:Nat)/\x<rows.length+2) (by decide) (λH5 o ⟨⟨a,b,e,r⟩,e2⟩=>⟨⟨a,b,by rw[upd_ne npD];exact e,r⟩,by rw[upd_ne nrD];exact e2⟩) ⟨hp1,hrl⟩ ?_ ?_
      ·intro j H5 hj b5 i5 Q' hq
       exact⟨_,rfl,_,rfl,rp,_,rfl,.inl (SqL.of i5.2),_,_,rfl,rfl,pp,rows.length+2,by rw[hlb];rfl,i5.1,by lia,by lia,λx H6 hx b6 hp6=>hq _ _ b6 ⟨hp6,b6 _ _ i5.2 hrp⟩ ⟨x,rfl,hx⟩⟩
      ·intro ys H5 b5 i5 hd5 hly hys
       obtain⟨r,rfl,hrr⟩:=nats_of hys
       rw[vN_len] at hly
       refine⟨D,_,rfl,.inl ⟨SqL.of hd5,λt ht=>q _ t r (λb o e nb=>keepU (b5 _ _ (b1 _ _ e nb) nb) ht) (i5.1.keep ht) upd_same ⟨hly,λx hx=>hrr x hx⟩⟩⟩
   ·rw[decide_eq_false (λz=>hz (List.map_eq_nil_iff.mp z))]
    refine iteT ?_
    have hpos:0<rows.length:=List.length_pos_iff.mpr hz
    refine⟨_,rfl,_,rfl,_,rfl,rp,_,rfl,.inl (SqL.of hrD),pp,rows.length,by rw[hlb];rfl,hp1.keep hD0,hpos,by lia,λx H2 hx b2 hp2=>?_⟩
    have hbx:bs[x]?=some (bs[x]'(by lia)):=by simp[show x<bs.length by lia]
    have hg:rows[x]?=some rows[x]:=by simp[hx]
    have hr2:=b2 _ _ hrD hrp
    have hb0:=hrow x _ _ hbx hg
    have nbp:bs[x]'(by lia)≠pp:=by
     obtain⟨a,b,e,_⟩:=hp1
     exact ne_of hb0 e (λz=>nomatch z)
    refine⟨rp,_,(x:Int),.ref (bs[x]'(by lia)),rfl,rfl,SqL.of hr2,atI_nat (by rw[List.getElem?_map,hbx];rfl),?_⟩
    have rk:=ok x _ hg
    exact q _ _ rows[x] (λb o e nb=>b2 _ _ (keepU (b1 _ _ e nb) hD0) nb) hp2 (b2 _ _ (keepU hb0 hD0) nbp) ⟨rk.1,λy hy=>by have:=rk.2 y hy;lia⟩
  ·refine iteF ?_
   refine⟨_,rfl,rfl,_,rfl,?_⟩
   refine ite2 (λhc=>?_) (λhc=>?_)
   ·refine⟨_,rfl,pp,2,rfl,hp1,by decide,by decide,λx H2 hx b2 hp2=>⟨(by show 1<=sizeLine;decide),λu hu=>⟨u,4,.int (x:Nat),rfl,rfl,upd_same,by decide,by decide,λv hv=>?_⟩⟩⟩
    refine q _ v [x,x,x,x] (λb o e nb=>keepU (keepU (b2 _ _ (b1 _ _ e nb) nb) hu) hv) ((hp2.keep hu).keep hv) upd_same ⟨rfl,λy hy=>?_⟩
    have:y=x:=by simpa using hy
    lia
   ·refine⟨_,rfl,_,_,rfl,rfl,_,rfl,?_⟩
    refine ite2 (λhc2=>?_) (λhc2=>?_)
    ·refine⟨_,rfl,by decide,by decide,?_⟩
     intro D hD3
     have npD:pp≠D:=by obtain⟨a,b,e,_⟩:=hp1;exact ne_of_none e hD3
     have nrD:rp≠D:=ne_of_none hrl hD3
     refine comp_rngB (p:=pp) hD3 npD (λH5=>PurseAt H5 pp/\H5 rp=some (.lst (bs.map V.ref))) (λ_ y=>∃x:Nat,y=.int (x:Nat)/\x<rows.length+2) (by decide) (λH5 o ⟨⟨a,b,e,r⟩,e2⟩=>⟨⟨a,b,by rw[upd_ne npD];exact e,r⟩,by rw[upd_ne nrD];exact e2⟩) ⟨hp1,hrl⟩ ?_ ?_
     ·intro j H5 hj b5 i5 Q' hq
      exact⟨_,rfl,pp,2,rfl,i5.1,by decide,by decide,λx H6 hx b6 hp6=>hq _ _ b6 ⟨hp6,b6 _ _ i5.2 hrp⟩ ⟨x,rfl,by lia⟩⟩
     ·intro ys H5 b5 i5 hd5 hly hys
      obtain⟨r,rfl,hrr⟩:=nats_of hys
      rw[vN_len] at hly
      refine⟨D,_,rfl,.inl ⟨SqL.of hd5,λt ht=>q _ t r (λb o e nb=>keepU (b5 _ _ (b1 _ _ e nb) nb) ht) (i5.1.keep ht) upd_same ⟨hly,λx hx=>hrr x hx⟩⟩⟩
    ·refine⟨_,rfl,by decide,by decide,?_⟩
     intro D hD3
     have npD:pp≠D:=by obtain⟨a,b,e,_⟩:=hp1;exact ne_of_none e hD3
     have nrD:rp≠D:=ne_of_none hrl hD3
     refine comp_rngB (p:=pp) hD3 npD (λH5=>PurseAt H5 pp/\H5 rp=some (.lst (bs.map V.ref))) (λ_ y=>∃x:Nat,y=.int (x:Nat)/\x<rows.length+2) (by decide) (λH5 o ⟨⟨a,b,e,r⟩,e2⟩=>⟨⟨a,b,by rw[upd_ne npD];exact e,r⟩,by rw[upd_ne nrD];exact e2⟩) ⟨hp1,hrl⟩ ?_ ?_
     ·intro j H5 hj b5 i5 Q' hq
      exact⟨_,rfl,_,rfl,rp,_,rfl,.inl (SqL.of i5.2),_,_,rfl,rfl,pp,rows.length+2,by rw[hlb];rfl,i5.1,by lia,by lia,λx H6 hx b6 hp6=>hq _ _ b6 ⟨hp6,b6 _ _ i5.2 hrp⟩ ⟨x,rfl,hx⟩⟩
     ·intro ys H5 b5 i5 hd5 hly hys
      obtain⟨r,rfl,hrr⟩:=nats_of hys
      rw[vN_len] at hly
      refine⟨D,_,rfl,.inl ⟨SqL.of hd5,λt ht=>q _ t r (λb o e nb=>keepU (b5 _ _ (b1 _ _ e nb) nb) ht) (i5.1.keep ht) upd_same ⟨hly,λx hx=>hrr x hx⟩⟩⟩
end
end Pr
namespace L2
open PySem PySem.Spec PyProof.Rows
section
variable {X:Cx}
theorem ps_setC2If {i0:Nat}{x0:Str}{px0 spos:Pos}{x y:Str}{p1 p2 tpos pos:Pos}{k:Nat}{elt iter c:Expr}{scope:Scope}{wi:TI}{tt:TT}{te:TE}(N:List Str) (sc:Scope) (hNe:X.N=N) (hsc:X.env.scope=sc) (hc:X.calm=true) (hN:X.N.Nodup) (hi0:X.N[i0]?=some x0) (hx0:X.env.scope.names.lookup x0=some .local) (hi:PI X (.Tuple [.Name x p1,.Name y p2] k tpos) iter wi)
  (ht:∀cl C fp s₀ H₀,PT (compCxG X scope cl C [x,y] fp s₀ H₀) c tt) (he:∀cl C fp s₀ H₀,PE (compCxG X scope cl C [x,y] fp s₀ H₀) elt te) (hxy:x≠y:=by decide)
  (hkind:scope.kind=.function:=by rfl) (hcell:scope.names.all (λy=>y.2 != .cell)=true:=by decide +kernel) (hnames:scope.names.all (λy=>y.2 != .local||scope.names.lookup y.1==some .local)=true:=by decide +kernel)
  (hx:scope.names.lookup x=some .local:=by rfl) (hy:scope.names.lookup y=some .local:=by rfl) (hloc:N.all (λy=>scope.names.lookup y != some .local)=true:=by decide +kernel)
  (hfr:scope.names.all (λp=>p.2 != .free||(sc.names.lookup p.1==some .cell||sc.names.lookup p.1==some .free))=true:=by decide +kernel)
  (hs:∀x,foldedSetIterable iter X.env x=pure x:=by intro _;rfl) (hsw:swapsWith (.ListComp elt [⟨.Tuple [.Name x p1,.Name y p2] k tpos,iter,[c],0⟩] scope pos) (some (.Name x0 px0)) spos.line X.env=pure true:=by rfl) :
  PS X (.Assign [.Name x0 px0] (.ListComp elt [⟨.Tuple [.Name x p1,.Name y p2] k tpos,iter,[c],0⟩] scope pos) spos) (tAsg (tCompG 2 wi (gTup X.K 2 (gCons (gName 0) (gCons (gName 1) gNil))) tt te) (gName i0)):=by
 obtain⟨s1,s2,s3,s4⟩:=scopes_ok hNe hsc hcell hnames hloc hfr
 exact ps_compG (nn:=[x,y]) (λenv=>isTrue c env (eval c env)) hc hi (λit acc env=>turn_one elt _ iter c scope pos it acc env) (λcl C fp s₀ H₀=>gpair hc hN hxy s3 hx hy) (λy os σ H R ho h=>loc2 ho h) (λcl C fp s₀ H₀ pins s σ H Q I h=>ht cl C fp s₀ H₀ pins s σ H Q I h) he hkind s1 s2 s3 s4 hs hN hi0 hx0 hsw
theorem ps_setCIf {i0:Nat}{x0:Str}{px0 spos:Pos}{x:Str}{px pos:Pos}{elt iter c:Expr}{scope:Scope}{wi:TI}{tt:TT}{te:TE}(N:List Str) (sc:Scope) (hNe:X.N=N) (hsc:X.env.scope=sc) (hc:X.calm=true) (hN:X.N.Nodup) (hi0:X.N[i0]?=some x0) (hx0:X.env.scope.names.lookup x0=some .local) (hi:PI X (.Name x px) iter wi)
  (ht:∀cl C fp s₀ H₀,PT (compCxG X scope cl C [x] fp s₀ H₀) c tt) (he:∀cl C fp s₀ H₀,PE (compCxG X scope cl C [x] fp s₀ H₀) elt te)
  (hkind:scope.kind=.function:=by rfl) (hcell:scope.names.all (λy=>y.2 != .cell)=true:=by decide +kernel) (hnames:scope.names.all (λy=>y.2 != .local||scope.names.lookup y.1==some .local)=true:=by decide +kernel)
  (hx:scope.names.lookup x=some .local:=by rfl) (hloc:N.all (λy=>scope.names.lookup y != some .local)=true:=by decide +kernel)
  (hfr:scope.names.all (λp=>p.2 != .free||(sc.names.lookup p.1==some .cell||sc.names.lookup p.1==some .free))=true:=by decide +kernel)
  (hs:∀x,foldedSetIterable iter X.env x=pure x:=by intro _;rfl) (hsw:swapsWith (.ListComp elt [⟨.Name x px,iter,[c],0⟩] scope pos) (some (.Name x0 px0)) spos.line X.env=pure true:=by rfl) :
  PS X (.Assign [.Name x0 px0] (.ListComp elt [⟨.Name x px,iter,[c],0⟩] scope pos) spos) (tAsg (tCompG 1 wi (gName 0) tt te) (gName i0)):=by
 obtain⟨s1,s2,s3,s4⟩:=scopes_ok hNe hsc hcell hnames hloc hfr
 refine ps_compG (nn:=[x]) (λenv=>isTrue c env (eval c env)) hc hi (λit acc env=>turn_one elt _ iter c scope pos it acc env) (λcl C fp s₀ H₀=>?_) (λy os σ H R ho h=>loc1 ho h) (λcl C fp s₀ H₀ pins s σ H Q I h=>ht cl C fp s₀ H₀ pins s σ H Q I h) he hkind s1 s2 s3 s4 hs hN hi0 hx0 hsw
 have l:(compCxG X scope cl C [x] fp s₀ H₀).env.scope.names.lookup x=some .local:=lookup_relabel_local hx
 exact pg_name (i:=0) (List.nodup_cons.mpr ⟨λz=>s3 x z hx,hN⟩) rfl (.inl l) (.inr l)
theorem Inv.hide {k:Nat}{d:Str}{pins:List (Addr×Obj)}{s:Shared}{σ:St}{H:Hp}(I:Inv X pins σ H s) (hk:σ[k]?=some none):Inv (X.hide k d) pins σ H s:=by
 refine⟨hide_ok I.ok,I.os,I.bare,I.base,?_,I.cell,I.free,I.freeC,I.pin,I.hok,by rw[I.len];exact (List.length_set ..).symm⟩
 obtain⟨m,h1,h2⟩:=I.loc
 refine⟨m,h1,λi x v e1 e2 e3=>?_⟩
 have e1':(X.N.set k d)[i]?=some x:=e1
 rw[List.getElem?_set] at e1'
 by_cases z:k=i
 ·subst z
  rw[hk] at e2
  cases e2
 ·rw[if_neg z] at e1'
  exact h2 i x v e1' e2 e3
theorem Inv.unhide {k:Nat}{d:Str}{pins:List (Addr×Obj)}{s:Shared}{σ:St}{H:Hp}(J:Inv (X.hide k d) pins σ H s) (hk:σ[k]?=some none):Inv X pins σ H s:=by
 refine⟨unhide_ok J.ok,J.os,J.bare,J.base,?_,J.cell,J.free,J.freeC,J.pin,J.hok,by rw[J.len];exact List.length_set ..⟩
 obtain⟨m,h1,h2⟩:=J.loc
 refine⟨m,h1,λi x v e1 e2 e3=>?_⟩
 by_cases z:k=i
 ·subst z
  rw[hk] at e2
  cases e2
 ·refine h2 i x v ?_ e2 e3
  show (X.N.set k d)[i]?=some x
  rw[List.getElem?_set,if_neg z]
  exact e1
theorem ps_hide {st:Stmt}{t:TS}(k:Nat) (d:Str) (h:PS (X.hide k d) st t):PS X st (λD σ H=>σ[k]?=some none/\t { nx:=λσ' H'=>σ'[k]?=some none/\D.nx σ' H',rt:=λ_ _=>False,bk:=λ_ _=>False,ct:=λ_ _=>False } σ H):=by
 intro pins s σ H D I ⟨hk,q⟩
 refine thn (h pins s σ H _ (I.hide hk) q) λf s' z=>?_
 cases f with
 |next=>
  obtain⟨σ',H',J,g1,g2⟩:=z
  exact⟨σ',H',J.unhide g1,g2⟩
 |ret v=>
  obtain⟨_,_,_,_,_,z⟩:=z
  exact z.elim
 |brk=>
  obtain⟨_,_,_,z⟩:=z
  exact z.elim
 |cont=>
  obtain⟨_,_,_,z⟩:=z
  exact z.elim
end
end L2
namespace Pr
open PySem L2 Qf
section
variable {P:Program}{w:World}{K:PySem.W.Frag}{mg:Str->Option Value}{base:Heap}
abbrev nTl:List Str:=["_law_pot_here", "_law_n", "_law_most", "_law_rows", "_law_k", "_law_tops", "_law_top"]
theorem scTl:FnScope nTl ["_law_pot_here", "_law_n", "_law_most"] (defScope lTelling):=⟨rfl,rfl,rfl,by decide +kernel,rfl,by decide +kernel,by decide +kernel⟩
def spTl:Sp:=λvs H Q _=>∃(pp:Addr) (n most:Nat),vs=[.ref pp,.int (n:Nat),.int (most:Nat)]/\PurseAt H pp/\n<=12/\0<most/\most<=100 /\
 ∀H' t tp rows,But pp H H'->PurseAt H' pp->TellAt H' t n tp rows->TellOk n tp rows->rows.length<most->Q (.ref t) H'
theorem ok_tl {f fD fR fX:Addr}{fd fdD fdR fdX:FuncData}(F:Fun K "_law_telling" "_law_telling" lTelling f fd) (B:Blt mg)
  (hD:mg "_law_digit" = some (.ref fD)) (FD:Fun K "_law_digit" "_law_digit" lDigit fD fdD) (bD:Binds K fdD ["_law_pot_here", "_law_many"] [])
  (hR:mg "_law_row" = some (.ref fR)) (FR:Fun K "_law_row" "_law_row" lRowDr fR fdR) (bR:Binds K fdR ["_law_pot_here", "_law_rows"] [])
  (hX:mg "_law_depths" = some (.ref fX)) (FX:Fun K "_law_depths" "_law_depths" lDeps fX fdX) (bX:Binds K fdX ["_law_rows"] []):FnOk P w K mg base CX0 3 f fd ["_law_pot_here", "_law_n", "_law_most"] spTl:=by
 have GD:FnOk P w K mg base CX0 1 fD fdD ["_law_pot_here", "_law_many"] spDigit:=ok_digit FD
 have GR:FnOk P w K mg base CX0 2 fR fdR ["_law_pot_here", "_law_rows"] spRowDr:=ok_rowDr FR B hD FD bD
 have GX:FnOk P w K mg base CX0 1 fX fdX ["_law_rows"] spLDeps:=ok_lDeps FX B
 refine F.ok scTl (λvs H Q E h=>?_) (λcdv A outer s H vs Q E hr h=>?_)
 ·obtain⟨pp,n,most,rfl,_⟩:=h
  rfl
 ·obtain⟨pp,n,most,rfl,hp,hn,hm0,hm,q⟩:=h
  have hr1:Room 1 _:=hr.mono (by decide)
  refine seqE ⟨_,⟨ps_set (i:=3) scTl.nd rfl (by first|exact Or.inl rfl|exact Or.inr rfl) (pe_lst pa_nil)⟩,?_⟩
  refine seqE ⟨_,⟨ps_for PassesOwn.never rfl (pi_range1 (by rfl) B.range (pa_cons (pe_call GD hr1 (by rfl) hD FD.kp bD .nil pass0 (pa_cons (pv 0) (pa_cons (pv 2) pa_nil))) pa_nil)) (pg_name (i:=4) scTl.nd rfl (by first|exact Or.inl rfl|exact Or.inr rfl))
   (pss_one (ps_expr (pe_bm PySem.F.plainAttrs_list PySem.F.slot_list_append PySem.F.type_list_append mt_append (pv 3) (pa_cons (pe_call GR hr (by rfl) hR FR.kp bR .nil pass0 (pa_cons (pv 0) (pa_cons (pv 3) pa_nil))) pa_nil))))⟩,?_⟩
  refine seqE ⟨_,⟨ps_setC2If (i0:=5) nTl (defScope lTelling) rfl rfl rfl scTl.nd rfl rfl (pi_enumL (by rfl) B.enum (pa_cons (pe_call GX hr1 (by rfl) hX FX.kp bX .nil pass0 (pa_cons (pv 3) pa_nil)) pa_nil)) (λcl C fp s₀ H₀=>pt_cmpR op_le (pv 1) (pv 3) (nomark _)) (λcl C fp s₀ H₀=>pv 0)⟩,?_⟩
  refine seqE ⟨_,⟨ps_set (i:=6) scTl.nd rfl (by first|exact Or.inl rfl|exact Or.inr rfl) (PEb.go ⟨pe_ix ix_list (pv 5) (PEb.go ⟨pe_op op_sub (pe_op op_sub (pe_callB call_len_seq (by rfl) B.len PySem.boot_len (pa_cons (pv 5) pa_nil)) pe_int) (PEb.go ⟨pe_call GD hr1 (by rfl) hD FD.kp bD .nil pass0 (pa_cons (pv 0) (pa_cons (pe_ix ix_list (pe_lst (pa_cons pe_int (pa_cons (pe_callB call_len_seq (by rfl) B.len PySem.boot_len (pa_cons (pv 5) pa_nil)) pa_nil))) (pe_call GD hr1 (by rfl) hD FD.kp bD .nil pass0 (pa_cons (pv 0) (pa_cons pe_int pa_nil))) (λ_ _=>rfl)) pa_nil))⟩)⟩) (λ_ _=>rfl)⟩)⟩,?_⟩
  refine lastE ⟨_,⟨ps_ret (pe_tup (Ars2.go (.cons ⟨pv 1⟩ (.cons ⟨pv 6⟩ (.cons ⟨pe_callTy call_tuple_of (by rfl) B.tuple PyProof.Rows.boot_tuple (pa_cons (pv 3) pa_nil)⟩ .nil rfl) rfl) rfl)))⟩,?_⟩
  refine⟨(by show 0<=sizeLine;decide),λl hl=>?_⟩
  have sl:Same H (upd H l (.lst [])):=sameU hl
  have npl:pp≠l:=by obtain⟨a,b,e,_⟩:=hp;exact ne_of_none e hl
  refine⟨_,rfl,_,rfl,pp,most,rfl,hp.same sl,hm0,by lia,λd H1 hd b1 hp1=>?_⟩
  refine⟨_,rfl,by lia,by lia,for_range (lo:=0) (n:=(d:Int).toNat) (λi σ H2=>∃(rows:List Row) (v4:Option V),σ=[some (.ref pp),some (.int (n:Nat)),some (.int (most:Nat)),some (.ref l),v4,none,none]/\But pp H H2/\PurseAt H2 pp/\RowsL H2 l rows/\RowsOk rows/\rows.length=i) ?_ ?_ ?_⟩
  ·exact⟨[],none,rfl,(But.of sl).trans b1,hp1,⟨[],b1 _ _ upd_same npl.symm,rfl,λi b r e=>by simp at e⟩,λi r e=>by simp at e,rfl⟩
  ·rintro i σ H2 hi ⟨rows,v4,rfl,b2,hp2,hR2,ok2,hl2⟩
   obtain⟨bs,hlb,hlen,hrow⟩:=id hR2
   refine⟨_,rfl,.inl ⟨rfl,_,SqL.of hlb⟩,_,rfl,_,rfl,pp,l,rows,rfl,hp2,hR2,npl.symm,ok2,by lia,λH3 b r b3 hp3 hb3 rk=>?_⟩
   have hl3:=b3 _ _ hlb npl.symm
   refine⟨l,_,_,rfl,rfl,hl3,by rw[List.length_map,hlen];exact smallM (by lia),?_⟩
   have hpe:∃a b:Int,H2 pp=some (.lst [.int a,.int b]):=by obtain⟨a,b,e,_⟩:=hp2;exact⟨a,b,e⟩
   obtain⟨pa,pb,hpe⟩:=hpe
   have nbl:b≠l:=ne_of hb3 hl3 (λz=>nomatch z)
   refine⟨rows++[r],_,rfl,λc o e nc=>?_,?_,⟨bs++[b],by rw[upd_same,List.map_append];rfl,by simp[hlen],λj c r' e1 e2=>?_⟩,λj r' e=>?_,by simp[hl2]⟩
   ·rw[upd_ne (ne_of_none e hl)]
    exact b3 _ _ (b2 _ _ e nc) nc
   ·obtain⟨a,c,e,r⟩:=hp3
    exact⟨a,c,by rw[upd_ne npl];exact e,r⟩
   ·by_cases hj:j<bs.length
    ·rw[List.getElem?_append_left hj] at e1
     rw[List.getElem?_append_left (by lia)] at e2
     have h2:=hrow j c r' e1 e2
     have ncp:c≠pp:=ne_of h2 hpe (λz=>nomatch z)
     have h3:=b3 _ _ h2 ncp
     rw[upd_ne (ne_of h3 hl3 (λz=>nomatch z))]
     exact h3
    ·rw[List.getElem?_append_right (by lia)] at e1
     rw[List.getElem?_append_right (by lia),<- hlen] at e2
     have hj0:j-bs.length=0:=by
      have:=(List.getElem?_eq_some_iff.mp e1).1
      simp at this;lia
     rw[hj0] at e1 e2
     cases e1
     cases e2
     rw[upd_ne nbl]
     exact hb3
   ·by_cases hj:j<rows.length
    ·rw[List.getElem?_append_left hj] at e
     exact ok2 j r' e
    ·rw[List.getElem?_append_right (by lia)] at e
     have hj0:j-rows.length=0:=by
      have:=(List.getElem?_eq_some_iff.mp e).1
      simp at this;lia
     rw[hj0] at e
     cases e
     rw[show j=rows.length by lia]
     exact rk
  ·rintro σ H2 ⟨rows,v4,rfl,b2,hp2,hR2,ok2,hl2⟩
   have hrl:rows.length<most:=by rw[hl2];lia
   refine⟨_,rfl,l,rows,rfl,hR2.s,ok2,by lia,λH3 D s3 hd3=>?_⟩
   refine⟨D,rfl,⟨_,SqL.of hd3⟩,λD2 hD2=>compG_walk hD2 (λi=>decide (dp rows i<=n)) (λi=>.int (i:Nat)) (goes_enumL (K:=K) hd3) (by rw[vN_len,deps_len];exact smallM (by lia)) ?_ ?_⟩
   ·rintro i x H4 hi ⟨t,y,rfl,hy,ht⟩ s4 os ho Q1 Q2 q1 q2
    match os,ho with
    |[o1,o2],_=>
     obtain⟨m,hm',rfl⟩:=vN_get hy
     have hi2:i<rows.length+2:=by rw[vN_len,deps_len] at hi;lia
     have em:m=dp rows i:=by
      have:=dp_get hi2
      rw[this] at hm'
      exact (Option.some.inj hm').symm
     subst em
     refine⟨t,_,rfl,SqT.of ht,rfl,_,_,rfl,_,_,rfl,rfl,?_⟩
     refine⟨_,rfl,_,rfl,_,_,rfl,rfl,_,rfl,?_⟩
     have e:decide (((dp rows i:Nat):Int)<=(n:Int))=decide (dp rows i<=n):=by
      rw[decide_eq_decide];lia
     rw[e]
     refine ite2 (λhc=>?_) (λhc=>?_)
     ·exact⟨_,rfl,q2 hc H4 (Same.refl _)⟩
     ·exact q1 (Bool.eq_false_iff.mpr hc) H4 (Same.refl _)
   ·intro H4 s4 hd4
    have ems:(((List.range (vN (deps rows)).length).filter λi=>decide (dp rows i<=n)).map λi=>V.int (i:Nat))=vN ((List.range (rows.length+2)).filter λi=>decide (dp rows i<=n)):=by
     rw[vN_len,deps_len];rfl
    rw[ems] at hd4
    generalize hms:(List.range (rows.length+2)).filter (λi=>decide (dp rows i<=n))=ms at hd4
    have hin:∀x∈ms,x<rows.length+2/\dp rows x<=n:=λx hx=>by
     rw[<- hms] at hx
     obtain⟨h1,h2⟩:=List.mem_filter.mp hx
     exact⟨List.mem_range.mp h1,of_decide_eq_true h2⟩
    have h0m:0∈ms:=by
     rw[<- hms]
     refine List.mem_filter.mpr ⟨List.mem_range.mpr (by lia),decide_eq_true ?_⟩
     rw[dp_low (by decide)];exact Nat.zero_le _
    have hml:0<ms.length:=List.length_pos_iff.mpr λz=>by rw[z] at h0m;cases h0m
    have hmsl:ms.length<=rows.length+2:=by
     rw[<- hms]
     exact Nat.le_trans (List.length_filter_le _ _) (by simp)
    have hp4:=(hp2.same s3).same s4
    have hR4:=(hR2.same s3).same s4
    have b4:But pp H H4:=λc o e nc=>s4 _ _ (s3 _ _ (b2 _ _ e nc))
    have nDp:D2≠pp:=by
     obtain⟨a,b,e,_⟩:=hp2.same s3
     exact (ne_of_none e hD2).symm
    refine⟨_,rfl,_,rfl,D2,_,rfl,.inl (SqL.of hd4),_,_,rfl,rfl,_,rfl,_,rfl,D2,_,rfl,.inl (SqL.of hd4),(by show 2<=sizeLine;decide),λl2 hl2'=>?_⟩
    have hp5:=hp4.keep (o:=.lst [.int 1,.int ((vN ms).length:Nat)]) hl2'
    have hd5:=keepU (u:=.lst [.int 1,.int ((vN ms).length:Nat)]) hd4 hl2'
    have n2p:l2≠pp:=by obtain⟨a,b,e,_⟩:=hp4;exact (ne_of_none e hl2').symm
    refine⟨_,rfl,pp,2,rfl,hp5,by decide,by decide,λd2 H6 hd2 b6 hp6=>?_⟩
    have hl6:=b6 _ _ (upd_same (H:=H4) (a:=l2) (o:=.lst [.int 1,.int ((vN ms).length:Nat)])) n2p
    have hd6:=b6 _ _ hd5 nDp
    have fin:∀(m:Nat),0<m->m<=ms.length->∀σ':St,σ'=[some (.ref pp),some (.int (n:Nat)),some (.int (most:Nat)),some (.ref l),v4,some (.ref D2),none]->∀(d3:Nat) (H7:Hp),d3<m->But pp H6 H7->PurseAt H7 pp->∃(tp:Nat),atI (vN ms) (((vN ms).length:Int)-1-(d3:Int))=some (.int (tp:Nat))/\tp∈ms/\H7 D2=some (.lst (vN ms))/\But pp H H7/\RowsL H7 l rows:=λm m0 m1 σ' _ d3 H7 hd3' b7 hp7=>by
     have hix:ms.length-1-d3<ms.length:=by lia
     refine⟨ms[ms.length-1-d3],?_,List.getElem_mem hix,b7 _ _ hd6 nDp,?_,?_⟩
     ·have:=vN_atI (r:=ms) (i:=ms.length-1-d3) (n:=ms[ms.length-1-d3]) (by simp[hix])
      rw[vN_len]
      rwa [show ((ms.length-1-d3:Nat):Int)=(ms.length:Int)-1-(d3:Int) by lia] at this
     ·exact λc o e nc=>b7 _ _ (b6 _ _ (keepU (b4 _ _ e nc) hl2') nc) nc
     ·obtain⟨pa,pb,hpe,_⟩:=hp5
      obtain⟨pa6,pb6,hpe6,_⟩:=hp6
      exact ((hR4.same (sameU hl2')).but b6 npl.symm hpe (λu z=>nomatch z)).but b7 npl.symm hpe6 (λu z=>nomatch z)
    have last:∀(tp:Nat) (H7:Hp),tp∈ms->But pp H H7->PurseAt H7 pp->RowsL H7 l rows->∃bs:List Addr,H7 l=some (.lst (bs.map V.ref))/\∀c,H7 c=none->∀t,upd H7 c (.tup (bs.map V.ref)) t=none->Q (.ref t) (upd (upd H7 c (.tup (bs.map V.ref))) t (.tup [.int (n:Nat),.int (tp:Nat),.ref c])):=λtp H7 htp b7 hp7 hR7=>by
     obtain⟨bs,hl7,hlen,hrow⟩:=hR7
     refine⟨bs,hl7,λc hc t ht=>?_⟩
     obtain⟨g1,g2⟩:=hin tp htp
     refine q _ t tp rows (λb o e nb=>keepU (keepU (b7 _ _ e nb) hc) ht) ((hp7.keep hc).keep ht) ⟨c,upd_same,bs,keepU upd_same ht,hlen,λi b r e1 e2=>keepU (keepU (hrow i b r e1 e2) hc) ht⟩ ⟨hn,ok2,by lia,g1,g2⟩ hrl
    have step:∀(m:Nat),atI [V.int 1,V.int ((vN ms).length:Nat)] (d2:Int)=some (.int (m:Nat))->0<m->m<=ms.length->rIxL K (.ref l2) (.int (d2:Int)) H6 λx H1=>True:=λm e _ _=>⟨l2,_,(d2:Int),.int (m:Nat),rfl,rfl,SqL.of hl6,e,trivial⟩
    obtain⟨m,em,m0,m1⟩:∃m:Nat,atI [V.int 1,V.int ((vN ms).length:Nat)] (d2:Int)=some (.int (m:Nat))/\0<m/\m<=ms.length:=by
     have:d2=0\/d2=1:=by lia
     rcases this with rfl|rfl
     ·exact⟨1,rfl,by decide,hml⟩
     ·exact⟨ms.length,by rw[vN_len];rfl,hml,Nat.le_refl _⟩
    refine⟨l2,_,(d2:Int),.int (m:Nat),rfl,rfl,SqL.of hl6,em,pp,m,rfl,hp6,m0,by lia,λd3 H7 hd3' b7 hp7=>?_⟩
    obtain⟨tp,et,htp,hd7,b7',hR7⟩:=fin m m0 m1 _ rfl d3 H7 hd3' b7 hp7
    refine⟨_,_,rfl,rfl,D2,_,_,.int (tp:Nat),rfl,rfl,SqL.of hd7,et,?_⟩
    obtain⟨bs,hl7,lst⟩:=last tp H7 htp b7' hp7 hR7
    exact⟨_,rfl,_,rfl,_,rfl,l,_,rfl,.inl ⟨SqL.of hl7,λc hc=>⟨(by show 3<=sizeLine;decide),λt ht=>lst c hc t ht⟩⟩⟩
end
end Pr
namespace Pr
open PySem L2 Qf
theorem inV_vN (x:Nat):∀l:List Nat,inV (.int (x:Nat)) (vN l)=decide (x∈l)
 |[]=>rfl
 |y::l=>by
  show (eqV (.int (y:Nat)) (.int (x:Nat))||inV (.int (x:Nat)) (vN l))=_
  rw[inV_vN x l]
  have e:eqV (.int (y:Nat)) (.int (x:Nat))=decide (y=x):=by
   show ((y:Int)==(x:Int))=decide (y=x)
   rw[Bool.eq_iff_iff]
   simp only[beq_iff_eq,decide_eq_true_eq]
   lia
  rw[e]
  by_cases h:y=x
  ·rw[decide_eq_true h,Bool.true_or,decide_eq_true (by rw[h];exact List.mem_cons_self)]
  ·rw[decide_eq_false h,Bool.false_or,decide_eq_decide]
   exact⟨λz=>List.mem_cons_of_mem _ z,λz=>(List.mem_cons.mp z).elim (λe=>absurd e.symm h) id⟩
theorem flat_vN (l:List Nat):(vN l).all flatV=true:=by
 rw[List.all_eq_true]
 intro v hv
 obtain⟨n,_,rfl⟩:=List.mem_map.mp hv
 rfl
def dRw (r:Row):PyData:=dT (r.map λx:Nat=>(x:Int))
theorem dRw_eqv (a b:Row):PyData.eqv (dRw a) (dRw b)=decide (a=b):=by
 unfold dRw
 rw[dT_eqv]
 by_cases h:a=b
 ·rw[h,decide_eq_true rfl,decide_eq_true rfl]
 ·rw[decide_eq_false h,decide_eq_false λz=>h (int_inj z)]
theorem data_row {H:Hp}{b:Addr}{r:Row}(h:H b=some (.tup (vN r))):DataAt H (.ref b) (dRw r):=by
 rw[vN_int] at h
 exact .tup h (DatasAt.ints _)
theorem dRw_deep (r:Row):(dRw r).depth<=60:=Nat.le_trans (dT_depth _) (by decide)
theorem StepsL.push {H:Hp}{p b:Addr}{ss:List Stp}{t:Stp}{xs:List V}(h:StepsL H p ss) (hp:H p=some (.lst xs)) (hb:H b=some (.tup (sVals t))):StepsL (upd H p (.lst (xs++[.ref b]))) p (ss++[t]):=
 h.app hp rfl λi y u e1 e2=>by
  have hi:i=0:=by
   have:=(List.getElem?_eq_some_iff.mp e1).1
   simp at this;exact this
  subst hi
  cases e1
  cases e2
  exact⟨b,rfl,hb⟩
def gAt (tp:Nat) (rows:List Row) (k:Nat):List Stp:=if k+2∉used tp rows then [Stp.gone k] else []
def pAt (rows:List Row) (k:Nat):List Stp:=if Plain (rows.getD k []) then [Stp.plain k] else []
theorem ixs_range {rows:List Row}{k:Nat}(hk:k<rows.length):ixs (rows.take k) (rows.getD k [])=(List.range k).filter λj=>decide (rows.getD j []=rows.getD k []):=by
 unfold ixs
 rw[List.length_take,Nat.min_eq_left (by lia)]
 refine List.filter_congr λj hj=>?_
 have hj':=List.mem_range.mp hj
 rw[List.getElem?_take_of_lt hj',Qf.getD_at (by lia),decide_eq_decide]
 exact⟨λz=>Option.some.inj z,λz=>by rw[z]⟩
section
variable {P:Program}{w:World}{K:PySem.W.Frag}{mg:Str->Option Value}{base:Heap}
abbrev nLs:List Str:=["_law_telling_here", "_law_n", "_law_top", "_law_rows", "_law_used", "_law_row_here", "_law_found", "_law_k"]
theorem scLs:FnScope nLs ["_law_telling_here"] (defScope lSteps):=⟨rfl,rfl,rfl,by decide +kernel,rfl,by decide +kernel,by decide +kernel⟩
def spLs:Sp:=λvs H Q _=>∃(t:Addr) (n tp:Nat) (rows:List Row),vs=[.ref t]/\TellAt H t n tp rows/\TellOk n tp rows/\∀H' q,Same H H'->H q=none->StepsL H' q (srt (allSteps tp rows))->Q (.ref q) H'
theorem ok_ls {f:Addr}{fd:FuncData}(F:Fun K "_law_steps" "_law_steps" lSteps f fd) (B:Blt mg) (hso:mg "sorted" = none):FnOk P w K mg base CX0 7 f fd ["_law_telling_here"] spLs:=by
 refine F.ok scLs (λvs H Q E h=>?_) (λcdv A outer s H vs Q E hr h=>?_)
 ·obtain⟨t,n,tp,rows,rfl,_⟩:=h
  rfl
 ·obtain⟨t,n,tp,rows,rfl,hT,tok,q⟩:=h
  obtain⟨p,ht,hR⟩:=id hT
  obtain⟨bs,hp,hlen,hrow⟩:=id hR
  have hlb:(bs.map V.ref).length=rows.length:=by rw[List.length_map];exact hlen
  obtain⟨_,ok,hl9,_⟩:=tok
  refine seqE ⟨_,⟨ps_asg (pv 0) (pg_tup rfl (pgs_cons (pg_name (i:=1) scLs.nd rfl (by first|exact Or.inl rfl|exact Or.inr rfl)) (pgs_cons (pg_name (i:=2) scLs.nd rfl (by first|exact Or.inl rfl|exact Or.inr rfl)) (pgs_cons (pg_name (i:=3) scLs.nd rfl (by first|exact Or.inl rfl|exact Or.inr rfl)) pgs_nil))))⟩,?_⟩
  refine seqE ⟨_,⟨ps_set (i:=4) scLs.nd rfl (by first|exact Or.inl rfl|exact Or.inr rfl) (pe_lst (pa_cons (pv 2) pa_nil))⟩,?_⟩
  refine seqE ⟨_,⟨ps_for PassesOwn.never rfl (pi_tup (pv 3)) (pg_name (i:=5) scLs.nd rfl (by first|exact Or.inl rfl|exact Or.inr rfl)) (pss_one (ps_expr (pe_bm PySem.F.plainAttrs_list PySem.F.slot_list_extend PySem.F.type_list_extend mt_extendT (pv 4) (pa_cons (pv 5) pa_nil))))⟩,?_⟩
  refine seqE ⟨_,⟨ps_set (i:=6) scLs.nd rfl (by first|exact Or.inl rfl|exact Or.inr rfl) (pe_lst pa_nil)⟩,?_⟩
  refine seqE ⟨_,⟨ps_for PassesOwn.never rfl (pi_enumT (by rfl) B.enum (pa_cons (pv 3) pa_nil)) (pg_tup rfl (pgs_cons (pg_name (i:=7) scLs.nd rfl (by first|exact Or.inl rfl|exact Or.inr rfl)) (pgs_cons (pg_name (i:=5) scLs.nd rfl (by first|exact Or.inl rfl|exact Or.inr rfl)) pgs_nil)))
   (StI.go (.consI ⟨ps_if (pt_cmpR op_notIn_seq (pe_op op_add (pv 7) pe_int) (pv 4) (by first|rfl|decide|with_unfolding_all rfl)) (pss_one (ps_expr (pe_bm PySem.F.plainAttrs_list PySem.F.slot_list_append PySem.F.type_list_append mt_append (pv 6) (pa_cons (pe_tup (pa_cons pe_str (pa_cons (pv 7) pa_nil))) pa_nil)))) pss_nil⟩
    (.consI ⟨ps_if (PW.pt (pw_or (pt_cmpR (op_eqD hr) (pv 5) (PEb.go four_ints) (nomark _)) (pw_or1 (pt_cmpR (op_eqD hr) (pv 5) (PEb.go four_ints) (nomark _))))) (pss_one (ps_expr (pe_bm PySem.F.plainAttrs_list PySem.F.slot_list_append PySem.F.type_list_append mt_append (pv 6) (pa_cons (pe_tup (pa_cons pe_str (pa_cons (pv 7) pa_nil))) pa_nil)))) pss_nil⟩
    (.one ⟨ps_expr (PEb.go (pe_bmb PySem.F.plainAttrs_list PySem.F.slot_list_extend PySem.F.type_list_extend mt_extend ⟨pv 6⟩ (.cons ⟨pe_compIf nLs (defScope lSteps) rfl rfl rfl scLs.nd (pi_range1 (by rfl) B.range (pa_cons (pv 7) pa_nil)) (λcl C fp s₀ H₀=>pt_cmpR (op_eqD hr) (pe_ix (ixT K rfl) (pv 4) (pv 0) (λ_ _=>rfl)) (pv 6) (nomark _)) (λcl C fp s₀ H₀=>pe_tup (pa_cons pe_str (pa_cons (pv 8) (pa_cons (pv 0) pa_nil))))⟩ .nil rfl)))⟩))))⟩,?_⟩
  refine lastE ⟨_,⟨ps_ret (pe_callB call_sortedS (by rfl) hso PyProof.Rows.boot_sorted (pa_cons (pv 6) pa_nil))⟩,?_⟩
  refine⟨_,rfl,t,_,rfl,SqT.of ht,rfl,_,_,rfl,_,_,rfl,_,_,rfl,rfl,?_⟩
  refine⟨_,rfl,(by show 1<=sizeLine;decide),λU hU=>?_⟩
  have keepU':∀{H2:Hp}{o:HO},Same H H2->Same H (upd H2 U o):=λs b o e=>by rw[upd_ne (ne_of_none e hU)];exact s _ _ e
  refine⟨_,rfl,p,rfl,⟨_,SqT.of (keepU hp hU)⟩,for_tup (K:=K) (xs:=bs.map V.ref) (λi σ H2=>Same H H2/\H2 U=some (.lst (vN (tp::(rows.take i).flatten)))/\(rows.take i).flatten.length<=4*i/\∃v5,σ=[some (.ref t),some (.int (n:Nat)),some (.int (tp:Nat)),some (.ref p),some (.ref U),v5,none,none])
   ⟨sameU hU,upd_same,by simp,none,rfl⟩ (λi σ H2 _ ⟨s2,_⟩=>SqT.of (s2 _ _ hp)) ?_ ?_⟩
  ·rintro i y σ H2 hy ⟨s2,hu2,hfl,v5,rfl⟩
   have hi:i<rows.length:=by rw[<- hlb];exact (List.getElem?_eq_some_iff.mp hy).1
   rw[List.getElem?_map] at hy
   obtain⟨b,hb,rfl⟩:=Option.map_eq_some_iff.mp hy
   have hr1:rows[i]?=some rows[i]:=by simp[hi]
   have hbt:=s2 _ _ (hrow i b rows[i] hb hr1)
   have r4:=(ok i _ hr1).1
   have etk:(rows.take (i+1)).flatten=(rows.take i).flatten++rows[i]:=by rw[List.take_succ_eq_append_getElem hi,List.flatten_append];simp
   refine⟨_,rfl,.inl ⟨rfl,_,SqL.of hu2⟩,_,rfl,U,b,_,_,rfl,rfl,hu2,hbt,by rw[vN_len,vN_len,r4,List.length_cons];exact Nat.le_of_lt (smallM (by lia)),?_⟩
   refine⟨keepU' s2,?_,by rw[etk,List.length_append,r4];lia,_,rfl⟩
   rw[upd_same,vN_app,etk];rfl
  ·rintro σ H2 ⟨s2,hu2,hfl,v5,rfl⟩
   rw[hlb,List.take_length] at hu2
   refine⟨(by show 0<=sizeLine;decide),λS hS=>?_⟩
   have hSn:H S=none:=by
    cases e:H S with
    |none=>rfl
    |some o=>rw[s2 _ _ e] at hS;cases hS
   have nUS:U≠S:=ne_of_none hu2 hS
   have keepS:∀{H2:Hp}{o:HO},Same H H2->Same H (upd H2 S o):=λs b o e=>by rw[upd_ne (ne_of_none e hSn)];exact s _ _ e
   have hu3:upd H2 S (.lst []) U=some (.lst (vN (used tp rows))):=by rw[upd_ne nUS];exact hu2
   have s3:Same H (upd H2 S (.lst [])):=keepS s2
   refine⟨_,rfl,p,rfl,⟨_,SqT.of (s3 _ _ hp)⟩,for_enumT (K:=K) (xs:=bs.map V.ref) (λi σ H2=>Same H H2/\H2 U=some (.lst (vN (used tp rows)))/\StepsL H2 S ((List.range i).flatMap λk=>gAt tp rows k++(pAt rows k++sameAt rows k))/\∃v5 v7,σ=[some (.ref t),some (.int (n:Nat)),some (.int (tp:Nat)),some (.ref p),some (.ref U),v5,some (.ref S),v7])
    (λi σ H2 ⟨s2,_⟩=>s2 _ _ hp) ⟨s3,hu3,⟨[],upd_same,rfl,λi b s e=>by simp at e⟩,v5,none,rfl⟩ ?_ ?_⟩
   ·rintro i y σ H4 a hy ⟨s4,hu4,st4,v5,v7,rfl⟩ ha
    have hi:i<rows.length:=by rw[<- hlb];exact (List.getElem?_eq_some_iff.mp hy).1
    rw[List.getElem?_map] at hy
    obtain⟨b,hb,rfl⟩:=Option.map_eq_some_iff.mp hy
    have hg:=getD_at hi
    have hb0:=hrow i b _ hb hg
    refine⟨a,_,rfl,SqT.of upd_same,rfl,_,[.ref b],rfl,.ref b,[],rfl,rfl,?_⟩
    have s5:Same H (upd H4 a (.tup [.int (i:Nat),.ref b])):=s4.trans (sameU ha)
    have hu5:=keepU (u:=.tup [.int (i:Nat),.ref b]) hu4 ha
    have st5:=st4.same (sameU (o:=.tup [.int (i:Nat),.ref b]) ha)
    have few:∀i,i<=rows.length->((List.range i).flatMap λk=>gAt tp rows k++(pAt rows k++sameAt rows k)).length<=1*902*i:=λi hi'=>by
     have:=flat_len (f:=λk=>gAt tp rows k++(pAt rows k++sameAt rows k)) (c:=902) (λk=>by
      have a1:=sameAt_len rows k
      have a2:(gAt tp rows k).length<=1:=by unfold gAt;split<;>simp
      have a3:(pAt rows k).length<=1:=by unfold pAt;split<;>simp
      simp only[List.length_append]
      lia) i
     lia
    have few0:=few i (by lia)
    generalize hss:((List.range i).flatMap λk=>gAt tp rows k++(pAt rows k++sameAt rows k))=ss at st5 few0
    generalize upd H4 a (.tup [.int (i:Nat),.ref b])=H5 at s5 hu5 st5
    refine⟨λσ' H'=>Same H H'/\H' U=some (.lst (vN (used tp rows)))/\StepsL H' S (ss++gAt tp rows i)/\σ'=[some (.ref t),some (.int (n:Nat)),some (.int (tp:Nat)),some (.ref p),some (.ref U),some (.ref b),some (.ref S),some (.int (i:Nat))],?_,?_⟩
    ·refine⟨_,rfl,_,_,rfl,rfl,_,rfl,U,_,rfl,.inl (SqL.of hu5),rfl,flat_vN _,_,rfl,?_⟩
     have e:inV (.int ((i:Int)+2)) (vN (used tp rows))=decide (i+2∈used tp rows):=inV_vN (i+2) _
     show if (!inV (.int ((i:Int)+2)) (vN (used tp rows)))=true then _ else _
     rw[e]
     by_cases hc:i+2∈used tp rows
     ·rw[decide_eq_true hc]
      refine iteF ⟨s5,hu5,?_,rfl⟩
      unfold gAt
      rw[if_neg (not_not_intro hc),List.append_nil]
      exact st5
     ·rw[decide_eq_false hc]
      obtain⟨bs5,hS5,hl5,_⟩:=id st5
      refine iteT ⟨_,rfl,.inl ⟨rfl,_,SqL.of hS5⟩,_,rfl,(by show 2<=sizeLine;decide),λc hc'=>?_⟩
      refine⟨S,_,_,rfl,rfl,keepU hS5 hc',by rw[List.length_map,hl5];exact smallM (by lia),?_⟩
      have st6:=(st5.same (sameU (o:=.tup (sVals (.gone i))) hc')).push (keepU hS5 hc') (t:=.gone i) (b:=c) upd_same
      refine⟨keepS (s5.trans (sameU hc')),by rw[upd_ne nUS];exact keepU hu5 hc',?_,rfl⟩
      unfold gAt
      rw[if_pos hc]
      exact st6
    ·rintro σ' H' ⟨s6,hu6,st6,rfl⟩
     have few1:(ss++gAt tp rows i).length<=902*i+1:=by
      have a2:(gAt tp rows i).length<=1:=by unfold gAt;split<;>simp
      rw[List.length_append];lia
     refine⟨λσ' H'=>Same H H'/\H' U=some (.lst (vN (used tp rows)))/\StepsL H' S (ss++gAt tp rows i++pAt rows i)/\σ'=[some (.ref t),some (.int (n:Nat)),some (.int (tp:Nat)),some (.ref p),some (.ref U),some (.ref b),some (.ref S),some (.int (i:Nat))],?_,?_⟩
     ·refine⟨_,rfl,(by show 4<=sizeLine;decide),λc1 hc1=>?_⟩
      have d1:=data_row (keepU (u:=.tup (vN [0,0,0,0])) (s6 _ _ hb0) hc1)
      have d2:DataAt (upd H' c1 (.tup (vN [0,0,0,0]))) (.ref c1) (dRw [0,0,0,0]):=data_row upd_same
      refine⟨_,_,d1,d2,dT_lay _,dT_lay _,dRw_deep _,_,rfl,?_⟩
      rw[dRw_eqv]
      have s7:=s6.trans (sameU (o:=.tup (vN [0,0,0,0])) hc1)
      have hu7:=keepU (u:=.tup (vN [0,0,0,0])) hu6 hc1
      have st7:=st6.same (sameU (o:=.tup (vN [0,0,0,0])) hc1)
      by_cases h0:rows.getD i []=[0,0,0,0]
      ·rw[decide_eq_true h0]
       have hpl:Plain (rows.getD i []):=.inl h0
       refine iteT (iteT ?_)
       obtain⟨bs7,hS7,hl7,_⟩:=id st7
       refine⟨_,rfl,.inl ⟨rfl,_,SqL.of hS7⟩,_,rfl,(by show 2<=sizeLine;decide),λc hc'=>?_⟩
       refine⟨S,_,_,rfl,rfl,keepU hS7 hc',by rw[List.length_map,hl7];exact smallM (by lia),?_⟩
       have st8:=(st7.same (sameU (o:=.tup (sVals (.plain i))) hc')).push (keepU hS7 hc') (t:=.plain i) (b:=c) upd_same
       refine⟨keepS (s7.trans (sameU hc')),by rw[upd_ne nUS];exact keepU hu7 hc',?_,rfl⟩
       unfold pAt
       rw[if_pos hpl]
       exact st8
      ·rw[decide_eq_false h0]
       refine iteF ⟨_,rfl,(by show 4<=sizeLine;decide),λc2 hc2=>?_⟩
       have d3:=data_row (keepU (u:=.tup (vN [1,1,1,1])) (s7 _ _ hb0) hc2)
       refine⟨_,_,d3,data_row (r:=[1,1,1,1]) upd_same,dT_lay _,dT_lay _,dRw_deep _,_,rfl,?_⟩
       rw[dRw_eqv]
       have s8:=s7.trans (sameU (o:=.tup (vN [1,1,1,1])) hc2)
       have hu8:=keepU (u:=.tup (vN [1,1,1,1])) hu7 hc2
       have st8:=st7.same (sameU (o:=.tup (vN [1,1,1,1])) hc2)
       by_cases h1:rows.getD i []=[1,1,1,1]
       ·rw[decide_eq_true h1]
        have hpl:Plain (rows.getD i []):=.inr h1
        have s7:=s8
        have hu7:=hu8
        have st7:=st8
        refine iteT ?_
        obtain⟨bs7,hS7,hl7,_⟩:=id st7
        refine⟨_,rfl,.inl ⟨rfl,_,SqL.of hS7⟩,_,rfl,(by show 2<=sizeLine;decide),λc hc'=>?_⟩
        refine⟨S,_,_,rfl,rfl,keepU hS7 hc',by rw[List.length_map,hl7];exact smallM (by lia),?_⟩
        have st8:=(st7.same (sameU (o:=.tup (sVals (.plain i))) hc')).push (keepU hS7 hc') (t:=.plain i) (b:=c) upd_same
        refine⟨keepS (s7.trans (sameU hc')),by rw[upd_ne nUS];exact keepU hu7 hc',?_,rfl⟩
        unfold pAt
        rw[if_pos hpl]
        exact st8
       ·rw[decide_eq_false h1]
        refine iteF ⟨s8,hu8,?_,rfl⟩
        unfold pAt
        rw[if_neg (by rintro (z|z);exact h0 z;exact h1 z),List.append_nil]
        exact st8
     ·rintro σ' H7 ⟨s7,hu7,st7,rfl⟩
      have few2:(ss++gAt tp rows i++pAt rows i).length<=902*i+2:=by
       have a3:(pAt rows i).length<=1:=by unfold pAt;split<;>simp
       rw[List.length_append];lia
      obtain⟨bs7,hS7,hl7,_⟩:=id st7
      have hp7:=s7 _ _ hp
      refine⟨_,rfl,.inl ⟨rfl,_,SqL.of hS7⟩,_,rfl,_,rfl,by lia,by lia,λD hD=>compG_walkR hD (λj=>decide (rows.getD j []=rows.getD i [])) (λj z H3=>∃b,z=.ref b/\H3 b=some (.tup (sVals (.same i j)))) goes_rng (smallM (by lia)) (λi y H1 H2 t ⟨b,h1,h2⟩=>⟨b,h1,t _ _ h2⟩) ?_ ?_⟩
      ·rintro j x H8 hj rfl s8 os ho Q1 Q2 q1 q2
       match os,ho with
       |[o1],_=>
        have hj':j<i:=by simpa using hj
        have hbj:bs[j]?=some (bs[j]'(by lia)):=by simp[show j<bs.length by lia]
        have hgj:=getD_at (show j<rows.length by lia)
        have s78:=s7.trans s8
        refine⟨_,rfl,_,rfl,p,_,(j:Int),.ref (bs[j]'(by lia)),rfl,rfl,SqT.of (s8 _ _ hp7),atI_nat (by rw[List.getElem?_map,hbj];rfl),_,rfl,_,_,data_row (s78 _ _ (hrow j _ _ hbj hgj)),data_row (s78 _ _ hb0),dT_lay _,dT_lay _,dRw_deep _,_,rfl,?_⟩
        rw[dRw_eqv]
        refine ite2 (λhc=>?_) (λhc=>?_)
        ·exact⟨_,rfl,_,rfl,(by show 3<=sizeLine;decide),λc hc'=>q2 hc _ _ (sameU hc') ⟨c,rfl,upd_same⟩⟩
        ·exact q1 (Bool.eq_false_iff.mpr hc) H8 (Same.refl _)
      ·intro ys H8 s8 hd8 hly hys
       have hS8:=s8 _ _ hS7
       have eL:sameAt rows i=((List.range i).filter λj=>decide (rows.getD j []=rows.getD i [])).map (Stp.same i):=by
        unfold sameAt;rw[ixs_range hi]
       have hyl:ys.length<=rows.length:=by
        have:=sameAt_len rows i
        rw[eL,List.length_map] at this
        exact Nat.le_trans (Nat.le_of_eq hly) this
       refine⟨S,D,_,ys,rfl,rfl,hS8,hd8,by rw[List.length_map,hl7];exact Nat.le_of_lt (smallM (by lia)),?_⟩
       have st9:=(st7.same s8).app (ts:=sameAt rows i) (ys:=ys) hS8 (by rw[eL,List.length_map];exact hly) (λm y u h1 h2=>by
        rw[eL,List.getElem?_map] at h2
        obtain⟨j,hj,rfl⟩:=Option.map_eq_some_iff.mp h2
        exact hys m y j h1 hj)
       refine⟨keepS (s7.trans s8),by rw[upd_ne nUS];exact s8 _ _ hu7,?_,_,_,rfl⟩
       rw[flat_succ,hss]
       simp only[List.append_assoc] at st9 ⊢
       exact st9
   ·rintro σ H4 ⟨s4,hu4,st4,v5',v7,rfl⟩
    rw[hlb] at st4
    refine⟨_,rfl,S,_,rfl,st4,λq' H5 s5 hq' st5=>q H5 q' (s4.trans s5) ?_ ?_⟩
    ·cases e:H q' with
     |none=>rfl
     |some o=>rw[s4 _ _ e] at hq';cases hq'
    ·have pm:((List.range rows.length).flatMap λk=>gAt tp rows k++(pAt rows k++sameAt rows k)).Perm (allSteps tp rows):=perm_steps
     rw[srt_eq pm] at st5
     exact st5
end
end Pr
namespace Qf
theorem filter_left {α:Type}(l:List α) (d:α) (k:Nat):((List.range l.length).filter λi=>decide (i≠k)).map (λi=>l.getD i d)=l.take k++l.drop (k+1):=by
 have key:∀i,i<=l.length->((List.range i).filter λi=>decide (i≠k)).map (λi=>l.getD i d)=(l.take i).take k++(l.take i).drop (k+1):=by
  intro i
  induction i with
  |zero=>intro _;simp
  |succ i ih=>
   intro hi
   rw[List.range_succ,List.filter_append,List.map_append,ih (by lia),List.take_succ_eq_append_getElem (by lia)]
   have tl:(l.take i).length=i:=by rw[List.length_take];lia
   by_cases c:i=k
   ·subst c
    rw[List.filter_cons,if_neg (by simp)]
    rw[List.take_of_length_le (l:=l.take i) (by lia),List.take_append_of_le_length (by lia),List.take_of_length_le (l:=l.take i) (by lia),List.drop_of_length_le (l:=l.take i) (by lia),List.drop_of_length_le (by simp;lia)]
    simp
   ·rw[List.filter_cons,if_pos (by simpa using c)]
    have eg:l.getD i d=l[i]:=by rw[List.getD_eq_getElem?_getD,List.getElem?_eq_getElem (by lia)];rfl
    by_cases c2:i<k
    ·rw[List.take_of_length_le (l:=l.take i) (by lia),List.take_of_length_le (l:=l.take i++[l[i]]) (by simp;lia),List.drop_of_length_le (l:=l.take i) (by lia),List.drop_of_length_le (l:=l.take i++[l[i]]) (by simp;lia)]
     simp only[List.filter_nil,List.map_cons,List.map_nil,List.append_nil,eg]
    ·rw[List.take_append_of_le_length (by lia),List.drop_append_of_le_length (by lia)]
     simp only[List.filter_nil,List.map_cons,List.map_nil,List.append_assoc,eg]
 have:=key l.length (Nat.le_refl _)
 rwa [List.take_length] at this
def now0 (k i:Nat):List Nat:=[0,1]++(List.range i).map λx=>x+2-if k<x then 1 else 0
theorem now0_len (k i:Nat):(now0 k i).length=i+2:=by unfold now0;simp
theorem now0_succ (k i:Nat):now0 k (i+1)=now0 k i++[i+2-if k<i then 1 else 0]:=by
 unfold now0
 rw[List.range_succ,List.map_append,List.append_assoc];rfl
theorem now0_set {k nb m:Nat}(hk:k<m):(now0 k m).set (k+2) nb=(List.range (m+2)).map (ren k nb):=by
 refine List.ext_getElem? λi=>?_
 rw[List.getElem?_map,List.getElem?_set]
 by_cases c:k+2=i
 ·subst c
  rw[if_pos rfl,if_pos (by rw[now0_len];lia),List.getElem?_range (by lia)]
  show some nb=some (ren k nb (k+2))
  rw[ren_at]
 ·rw[if_neg c]
  by_cases c1:i<m+2
  ·rw[List.getElem?_range c1]
   show _=some (ren k nb i)
   unfold now0
   by_cases c2:i<2
   ·rw[List.getElem?_append_left (by simpa using c2),ren_lo (by lia)]
    match i,c2 with
    |0,_=>rfl
    |1,_=>rfl
   ·rw[List.getElem?_append_right (by simp;lia),List.getElem?_map,List.getElem?_range (by simp;lia)]
    show some _=some _
    simp only[List.length_cons,List.length_nil]
    by_cases c3:i<k+2
    ·rw[ren_lo c3,if_neg (by lia)];congr 1;lia
    ·rw[ren_hi (by lia),if_pos (by lia)];congr 1;lia
  ·rw[List.getElem?_eq_none (by rw[now0_len];lia),List.getElem?_eq_none (by simp;lia)];rfl
end Qf
namespace Pr
open PySem L2 Qf
theorem ixN_at {n j:Nat}(h:j<n):ixN n ((j:Nat):Int)=some j:=by
 unfold ixN
 rw[if_pos (by lia),if_pos (by lia)]
 simp
theorem vN_set (l:List Nat) (j x:Nat):(vN l).set j (.int (x:Nat))=vN (l.set j x):=by unfold vN;rw[List.map_set]
def x1:Stp->Nat
 |.same _ j=>j+2
 |_=>0
section
variable {P:Program}{w:World}{K:PySem.W.Frag}{mg:Str->Option Value}{base:Heap}
abbrev nLb:List Str:=["_law_telling_here", "_law_step", "_law_n", "_law_top", "_law_rows", "_law_now", "_law_k", "_law_left"]
abbrev nLbH:List Str:=["_law_telling_here", "_law_step", "_law_n", "_law_top", "_law_rows", "_law_now", ".h", "_law_left"]
abbrev nLbR:List Str:= "_law_row_here" :: nLb
theorem nd_lbH:nLbH.Nodup:=by decide +kernel
theorem nd_lbR:nLbR.Nodup:=by decide +kernel
theorem scLb:FnScope nLb ["_law_telling_here", "_law_step"] (defScope lBehind):=⟨rfl,rfl,rfl,by decide +kernel,rfl,by decide +kernel,by decide +kernel⟩
def spLb:Sp:=λvs H Q _=>∃(t b:Addr) (n tp:Nat) (rows:List Row) (s:Stp),vs=[.ref t,.ref b]/\TellAt H t n tp rows/\TellOk n tp rows/\H b=some (.tup (sVals s))/\s∈allSteps tp rows /\
 ∀H' t',Same H H'->TellAt H' t' n (ren s.at (nbL rows s) tp) (stepRows s.at (nbL rows s) rows)->Q (.ref t') H'
theorem ok_lb {f:Addr}{fd:FuncData}(F:Fun K "_law_behind" "_law_behind" lBehind f fd) (B:Blt mg):FnOk P w K mg base CX0 1 f fd ["_law_telling_here", "_law_step"] spLb:=by
 refine F.ok scLb (λvs H Q E h=>?_) (λcdv A outer s0 H vs Q E hr h=>?_)
 ·obtain⟨t,b,n,tp,rows,s,rfl,_⟩:=h
  rfl
 ·obtain⟨t,b,n,tp,rows,s,rfl,hT,tok,hb,hs,q⟩:=h
  obtain⟨p,ht,hR⟩:=id hT
  obtain⟨bs,hp,hlen,hrow⟩:=id hR
  have hlb:(bs.map V.ref).length=rows.length:=by rw[List.length_map];exact hlen
  obtain⟨_,ok,hl9,htp,_⟩:=tok
  have hk:=at_lt hs
  refine seqE ⟨_,⟨ps_asg (pv 0) (pg_tup rfl (pgs_cons (pg_name (i:=2) scLb.nd rfl (by first|exact Or.inl rfl|exact Or.inr rfl)) (pgs_cons (pg_name (i:=3) scLb.nd rfl (by first|exact Or.inl rfl|exact Or.inr rfl)) (pgs_cons (pg_name (i:=4) scLb.nd rfl (by first|exact Or.inl rfl|exact Or.inr rfl)) pgs_nil))))⟩,?_⟩
  refine seqE ⟨_,⟨ps_set (i:=5) scLb.nd rfl (by first|exact Or.inl rfl|exact Or.inr rfl) (pe_lst (pa_cons pe_int (pa_cons pe_int pa_nil)))⟩,?_⟩
  refine seqE ⟨_,⟨ps_for PassesOwn.never rfl (pi_range1 (by rfl) B.range (pa_cons (pe_callB call_len_seq (by rfl) B.len PySem.boot_len (pa_cons (pv 4) pa_nil)) pa_nil)) (pg_name (i:=6) scLb.nd rfl (by first|exact Or.inl rfl|exact Or.inr rfl))
   (pss_one (ps_expr (pe_bm PySem.F.plainAttrs_list PySem.F.slot_list_append PySem.F.type_list_append mt_append (pv 5) (pa_cons (PEb.go ⟨pe_op op_sub (pe_op op_add (pv 6) pe_int) (PEb.go ⟨pe_callTy call_int1 (by rfl) B.int PyProof.Rows.boot_int (pa_cons (pe_cmpR op_gt (pv 6) (pe_ix ix_tup (pv 1) pe_int (λ_ _=>rfl)) (nomark _)) pa_nil)⟩)⟩) pa_nil))))⟩,?_⟩
  refine seqE ⟨_,⟨ps_asg pe_int (pg_sub (pv 5) (pe_op op_add (pe_ix ix_tup (pv 1) pe_int (λ_ _=>rfl)) pe_int) set_list)⟩,?_⟩
  refine seqEI ⟨_,⟨ps_if (pt_cmpR op_eq (pe_ix ix_tup (pv 1) pe_int (λ_ _=>rfl)) pe_str (nomark _)) (pss_one (ps_asg (pe_op op_add (pe_ix ix_tup (pv 1) pe_int (λ_ _=>rfl)) pe_int) (pg_sub (pv 5) (pe_op op_add (pe_ix ix_tup (pv 1) pe_int (λ_ _=>rfl)) pe_int) set_list))) pss_nil⟩,?_⟩
  refine seqEI ⟨_,⟨ps_if (pt_cmpR op_eq (pe_ix ix_tup (pv 1) pe_int (λ_ _=>rfl)) pe_str (nomark _)) (pss_one (ps_asg (pe_ix ix_tup (pe_ix ix_tup (pv 4) (pe_ix ix_tup (pv 1) pe_int (λ_ _=>rfl)) (λ_ _=>rfl)) pe_int (λ_ _=>rfl)) (pg_sub (pv 5) (pe_op op_add (pe_ix ix_tup (pv 1) pe_int (λ_ _=>rfl)) pe_int) set_list))) pss_nil⟩,?_⟩
  refine seqE ⟨_,⟨ps_forget 6 (ps_hide 6 ".h" (ps_setCIf (i0:=7) nLbH (defScope lBehind) rfl rfl rfl nd_lbH rfl rfl (pi_range1 (by rfl) B.range (pa_cons (pe_callB call_len_seq (by rfl) B.len PySem.boot_len (pa_cons (pv 4) pa_nil)) pa_nil)) (λcl C fp s₀ H₀=>pt_cmpR op_ne (pv 0) (pe_ix (ixT K rfl) (pv 2) pe_int (λ_ _=>rfl)) (nomark _)) (λcl C fp s₀ H₀=>pe_ix (ixT K rfl) (pv 5) (pv 0) (λ_ _=>rfl))))⟩,?_⟩
  refine lastE ⟨_,⟨ps_ret (pe_tup (Ars2.go (.cons ⟨pv 2⟩ (.cons ⟨pe_ix ix_list (pv 5) (pv 3) (λ_ _=>rfl)⟩ (.cons ⟨pe_callTy call_tuple_of (by rfl) B.tuple PyProof.Rows.boot_tuple (pa_cons (pe_compB nLb (defScope lBehind) rfl rfl rfl scLb.nd (pi_list (pv 7)) (λcl C fp s₀ H₀=>PEb.go ⟨pe_callTy (tupO K rfl) (by rfl) B.tuple PyProof.Rows.boot_tuple (pa_cons (pe_compB nLbR _ rfl rfl rfl nd_lbR (piT K rfl (pv 0)) (λcl2 C2 fp2 s2 H2=>pe_ix (ixL K rfl) (pv 7) (pv 0) (λ_ _=>rfl)) (hfr:=by rfl)) pa_nil)⟩)) pa_nil)⟩ .nil rfl) rfl) rfl)))⟩,?_⟩
  have e1:atI (sVals s) 1=some (.int (s.at:Nat)):=by cases s<;>rfl
  have e0:atI (sVals s) 0=some (.str (sName s)):=by cases s<;>rfl
  refine⟨_,rfl,t,_,rfl,SqT.of ht,rfl,_,_,rfl,_,_,rfl,_,_,rfl,rfl,?_⟩
  refine⟨(by show 2<=sizeLine;decide),λN hN=>?_⟩
  have keepN:∀{H2:Hp}{o:HO},Same H H2->Same H (upd H2 N o):=λs b o e=>by rw[upd_ne (ne_of_none e hN)];exact s _ _ e
  refine⟨_,rfl,p,_,rfl,.inr (SqT.of (keepU hp hN)),_,rfl,?_⟩
  rw[hlb]
  refine⟨by lia,by lia,for_range (lo:=0) (n:=(rows.length:Int).toNat) (λi σ H2=>Same H H2/\H2 N=some (.lst (vN (now0 s.at i)))/\∃v6,σ=[some (.ref t),some (.ref b),some (.int (n:Nat)),some (.int (tp:Nat)),some (.ref p),some (.ref N),v6,none]) ⟨sameU hN,upd_same,none,rfl⟩ ?_ ?_⟩
  ·rintro i σ H2 hi ⟨s2,hn2,v6,rfl⟩
   have hi':i<rows.length:=by simpa using hi
   refine⟨_,rfl,.inl ⟨rfl,_,SqL.of hn2⟩,_,rfl,_,_,rfl,rfl,_,rfl,_,rfl,b,_,1,.int (s.at:Nat),rfl,rfl,SqT.of (s2 _ _ hb),e1,_,_,rfl,rfl,.inr ⟨_,rfl,_,_,rfl,rfl,N,_,_,rfl,rfl,hn2,by rw[vN_len,now0_len];exact smallM (by lia),?_⟩⟩
   refine⟨keepN s2,?_,_,rfl⟩
   rw[upd_same,now0_succ,<- vN_app]
   have e:(0+(i:Int)+2-if decide ((s.at:Int)<0+(i:Int))=true then 1 else 0)=((i+2-if s.at<i then 1 else 0:Nat):Int):=by
    by_cases c:s.at<i
    ·rw[if_pos (by simpa using c),if_pos c];lia
    ·rw[if_neg (by simpa using c),if_neg c];lia
   show some (HO.lst (vN (now0 s.at i)++[V.int (0+(i:Int)+2-if decide ((s.at:Int)<0+(i:Int))=true then 1 else 0)]))=_
   rw[e];rfl
  ·rintro σ H2 ⟨s2,hn2,v6,rfl⟩
   have hn2':H2 N=some (.lst (vN (now0 s.at rows.length))):=by simpa using hn2
   have ixk:∀x:Nat,ixN (vN ((now0 s.at rows.length).set (s.at+2) x)).length ((s.at:Int)+2)=some (s.at+2):=λx=>by
    have:=ixN_at (n:=(vN ((now0 s.at rows.length).set (s.at+2) x)).length) (j:=s.at+2) (by rw[vN_len,List.length_set,now0_len];lia)
    exact this
   have ixk0:ixN (vN (now0 s.at rows.length)).length ((s.at:Int)+2)=some (s.at+2):=by
    have:=ixN_at (n:=(vN (now0 s.at rows.length)).length) (j:=s.at+2) (by rw[vN_len,now0_len];lia)
    exact this
   have put0:(vN (now0 s.at rows.length)).set (s.at+2) (.int 0)=vN ((now0 s.at rows.length).set (s.at+2) 0):=vN_set _ _ 0
   have put:∀x y:Nat,(vN ((now0 s.at rows.length).set (s.at+2) x)).set (s.at+2) (.int (y:Nat))=vN ((now0 s.at rows.length).set (s.at+2) y):=λx y=>by rw[vN_set,List.set_set]
   refine⟨_,rfl,_,rfl,b,_,1,.int (s.at:Nat),rfl,rfl,SqT.of (s2 _ _ hb),e1,_,_,rfl,rfl,N,_,_,s.at+2,rfl,rfl,hn2',ixk0,?_⟩
   rw[put0]
   have s3:Same H (upd H2 N (.lst (vN ((now0 s.at rows.length).set (s.at+2) 0)))):=keepN s2
   have hn3:upd H2 N (.lst (vN ((now0 s.at rows.length).set (s.at+2) 0))) N=some (.lst (vN ((now0 s.at rows.length).set (s.at+2) 0))):=upd_same
   generalize upd H2 N (.lst (vN ((now0 s.at rows.length).set (s.at+2) 0)))=H3 at s3 hn3
   refine⟨λσ' H'=>Same H H'/\H' N=some (.lst (vN ((now0 s.at rows.length).set (s.at+2) (x1 s))))/\σ'=[some (.ref t),some (.ref b),some (.int (n:Nat)),some (.int (tp:Nat)),some (.ref p),some (.ref N),v6,none],?_,?_⟩
   ·refine⟨_,rfl,b,_,0,.str (sName s),rfl,rfl,SqT.of (s3 _ _ hb),e0,rfl,_,rfl,?_⟩
    have n1:¬V.str "gone" = V.str "same":=λz=>absurd (V.str.inj z) (by decide)
    have n2:¬V.str "plain" = V.str "same":=λz=>absurd (V.str.inj z) (by decide)
    cases s with
    |gone k=>
     show if decide (V.str "gone" = V.str "same")=true then _ else _
     rw[decide_eq_false n1]
     exact iteF ⟨s3,hn3,rfl⟩
    |plain k=>
     show if decide (V.str "plain" = V.str "same")=true then _ else _
     rw[decide_eq_false n2]
     exact iteF ⟨s3,hn3,rfl⟩
    |same k j=>
     show if decide (V.str "same" = V.str "same")=true then _ else _
     rw[decide_eq_true rfl]
     refine iteT ⟨_,rfl,b,_,2,.int (j:Nat),rfl,rfl,SqT.of (s3 _ _ hb),rfl,_,_,rfl,rfl,_,rfl,_,rfl,b,_,1,.int (k:Nat),rfl,rfl,SqT.of (s3 _ _ hb),rfl,_,_,rfl,rfl,N,_,_,k+2,rfl,rfl,hn3,ixk 0,keepN s3,?_,rfl⟩
     rw[upd_same]
     exact congrArg (λz=>some (HO.lst z)) (put 0 (j+2))
   ·rintro σ' H4 ⟨s4,hn4,rfl⟩
    refine⟨λσ' H'=>Same H H'/\H' N=some (.lst (vN ((now0 s.at rows.length).set (s.at+2) (nbL rows s))))/\σ'=[some (.ref t),some (.ref b),some (.int (n:Nat)),some (.int (tp:Nat)),some (.ref p),some (.ref N),v6,none],?_,?_⟩
    ·refine⟨_,rfl,b,_,0,.str (sName s),rfl,rfl,SqT.of (s4 _ _ hb),e0,rfl,_,rfl,?_⟩
     have n1:¬V.str "gone" = V.str "plain":=λz=>absurd (V.str.inj z) (by decide)
     have n2:¬V.str "same" = V.str "plain":=λz=>absurd (V.str.inj z) (by decide)
     cases s with
     |gone k=>
      show if decide (V.str "gone" = V.str "plain")=true then _ else _
      rw[decide_eq_false n1]
      exact iteF ⟨s4,hn4,rfl⟩
     |same k j=>
      show if decide (V.str "same" = V.str "plain")=true then _ else _
      rw[decide_eq_false n2]
      exact iteF ⟨s4,hn4,rfl⟩
     |plain k=>
      show if decide (V.str "plain" = V.str "plain")=true then _ else _
      rw[decide_eq_true rfl]
      have hk':k<rows.length:=hk
      have hbk:bs[k]?=some (bs[k]'(by lia)):=by simp[show k<bs.length by lia]
      have hg:=getD_at hk'
      have hbt:=s4 _ _ (hrow k _ _ hbk hg)
      have r4:=(ok k _ hg).1
      have h0:(rows.getD k [])[0]?=some ((rows.getD k []).getD 0 0):=by
       generalize rows.getD k []=r at r4
       match r,r4 with
       |x::_,_=>rfl
      refine iteT ⟨_,rfl,_,rfl,b,_,1,.int (k:Nat),rfl,rfl,SqT.of (s4 _ _ hb),rfl,p,_,(k:Int),.ref (bs[k]'(by lia)),rfl,rfl,SqT.of (s4 _ _ hp),atI_nat (by rw[List.getElem?_map,hbk];rfl),_,_,0,.int ((rows.getD k []).getD 0 0:Nat),rfl,rfl,SqT.of hbt,atI_nat (j:=0) (vN_at h0),?_⟩
      refine⟨_,rfl,_,rfl,b,_,1,.int (k:Nat),rfl,rfl,SqT.of (s4 _ _ hb),rfl,_,_,rfl,rfl,N,_,_,k+2,rfl,rfl,hn4,ixk 0,keepN s4,?_,rfl⟩
      rw[upd_same]
      exact congrArg (λz=>some (HO.lst z)) (put 0 _)
    ·rintro σ' H5 ⟨s5,hn5,rfl⟩
     rw[now0_set hk] at hn5
     generalize hnn:nbL rows s=nb at q hn5
     refine⟨rfl,_,rfl,p,_,rfl,.inr (SqT.of (s5 _ _ hp)),_,rfl,?_⟩
     rw[hlb]
     refine⟨by lia,by lia,λD hD=>compG_walk hD (λi=>decide (i≠s.at)) (λi=>.ref (bs.getD i 0)) goes_rng (smallM (by lia)) ?_ ?_⟩
     ·rintro j x H6 hj rfl s6 os ho Q1 Q2 q1 q2
      match os,ho with
      |[o1],_=>
       have hj':j<rows.length:=by simpa using hj
       have hbj:bs[j]?=some (bs.getD j 0):=by rw[List.getD_eq_getElem?_getD,List.getElem?_eq_getElem (by lia)];rfl
       have s56:=s5.trans s6
       refine⟨_,rfl,_,rfl,b,_,1,.int (s.at:Nat),rfl,rfl,SqT.of (s56 _ _ hb),e1,rfl,_,rfl,?_⟩
       have e:(!decide (V.int (j:Int)=V.int (s.at:Nat)))=decide (j≠s.at):=by
        by_cases c:j=s.at
        ·rw[decide_eq_true (by rw[c]),decide_eq_false (by simpa using c)];rfl
        ·have nn:¬V.int (j:Int)=V.int (s.at:Nat):=λz=>c (by have:=V.int.inj z;lia)
         rw[decide_eq_false nn,decide_eq_true c];rfl
       rw[e]
       refine ite2 (λhc=>?_) (λhc=>?_)
       ·exact⟨_,rfl,_,rfl,p,_,(j:Int),.ref (bs.getD j 0),rfl,rfl,SqT.of (s56 _ _ hp),atI_nat (by rw[List.getElem?_map,hbj];rfl),q2 hc H6 (Same.refl _)⟩
       ·exact q1 (Bool.eq_false_iff.mpr hc) H6 (Same.refl _)
     ·intro H6 s6 hd6
      have eL:(((List.range rows.length).filter λi=>decide (i≠s.at)).map λi=>V.ref (bs.getD i 0))=(bs.take s.at++bs.drop (s.at+1)).map V.ref:=by
       rw[<- hlen,<- filter_left bs 0 s.at,List.map_map];rfl
      have hd6':H6 D=some (.lst ((bs.take s.at++bs.drop (s.at+1)).map V.ref)):=by rw[<- eL];exact hd6
      have S6:=s5.trans s6
      have hn6:=s6 _ _ hn5
      have hcl:(bs.take s.at++bs.drop (s.at+1)).length=(leftR s.at rows).length:=by unfold leftR;simp[hlen]
      have hcr:∀(i:Nat) c r,(bs.take s.at++bs.drop (s.at+1))[i]?=some c->(leftR s.at rows)[i]?=some r->H6 c=some (.tup (vN r)):=λi c r g1 g2=>by
       by_cases c1:i<s.at
       ·rw[left_lo hk c1] at g2
        rw[List.getElem?_append_left (by simp;lia),List.getElem?_take_of_lt c1] at g1
        exact S6 _ _ (hrow i c r g1 g2)
       ·rw[left_hi hk (by lia)] at g2
        rw[List.getElem?_append_right (by simp;lia),List.getElem?_drop] at g1
        refine S6 _ _ (hrow (i+1) c r ?_ g2)
        rw[<- g1];congr 1;simp;lia
      generalize bs.take s.at++bs.drop (s.at+1)=cs at hd6' hcl hcr
      have hll:=left_len hk
      have gat:∀x,x<rows.length+2->((List.range (rows.length+2)).map (ren s.at nb))[x]?=some (ren s.at nb x):=λx hx=>by
       rw[List.getElem?_map,List.getElem?_range hx];rfl
      have xlt:∀(i:Nat) r,(leftR s.at rows)[i]?=some r->r.length=4/\∀x∈r,x<rows.length+2:=λi r e=>by
       by_cases c:i<s.at
       ·rw[left_lo hk c] at e
        have rk:=ok _ _ e
        exact⟨rk.1,λx hx=>by have:=rk.2 x hx;lia⟩
       ·rw[left_hi hk (by lia)] at e
        have rk:=ok _ _ e
        have hi:=(List.getElem?_eq_some_iff.mp e).1
        exact⟨rk.1,λx hx=>by have:=rk.2 x hx;lia⟩
      have hclb:(cs.map V.ref).length=(leftR s.at rows).length:=by rw[List.length_map];exact hcl
      refine⟨rfl,_,rfl,_,rfl,_,rfl,N,_,(tp:Int),.int (ren s.at nb tp:Nat),rfl,rfl,SqL.of hn6,vN_atI (gat tp htp),_,rfl,D,rfl,⟨_,SqL.of hd6'⟩,λD3 hD3=>?_⟩
      refine comp_walk hD3 (λj z H3=>∃c r,z=.ref c/\(leftR s.at rows)[j]?=some r/\H3 c=some (.tup (vN (r.map (ren s.at nb))))) (goes_lst (K:=K) hd6') (by rw[hclb,hll];exact smallM (by lia)) ?_ ?_ ?_
      ·exact λj z H1 H2 _ tk ⟨c,r,h1,h2,h3⟩=>⟨c,r,h1,h2,tk _ _ h3⟩
      ·intro j x H7 hj hx s7 Q' hq
       rw[List.getElem?_map] at hx
       obtain⟨c,hc,rfl⟩:=Option.map_eq_some_iff.mp hx
       have hjl:j<(leftR s.at rows).length:=by rw[<- hcl];exact (List.getElem?_eq_some_iff.mp hc).1
       have hg:(leftR s.at rows)[j]?=some (leftR s.at rows)[j]:=List.getElem?_eq_getElem hjl
       obtain⟨x4,xl⟩:=xlt j _ hg
       have hct:=s7 _ _ (hcr j c _ hc hg)
       generalize (leftR s.at rows)[j]=r at hg x4 xl hct
       refine⟨_,rfl,c,rfl,⟨_,SqT.of hct⟩,λD4 hD4=>comp_walk hD4 (λi z _=>∃m:Nat,r[i]?=some m/\z=.int (ren s.at nb m:Nat)) (goes_tup (K:=K) hct) (by rw[vN_len,x4];decide) (λ_ _ _ _ _ _ h=>h) ?_ ?_⟩
       ·intro i y H8 hi hy s8 Q8 hq8
        obtain⟨m,hm,rfl⟩:=vN_get hy
        exact⟨_,rfl,_,rfl,N,_,(m:Int),.int (ren s.at nb m:Nat),rfl,rfl,SqL.of (s8 _ _ (s7 _ _ hn6)),vN_atI (gat m (xl m (List.mem_of_getElem? hm))),hq8 _ _ (Same.refl _) ⟨m,hm,rfl⟩⟩
       ·intro ys H8 s8 hd8 hly hys
        have ey:ys=vN (r.map (ren s.at nb)):=by
         refine list_ext (by rw[hly,vN_len,vN_len,List.length_map]) λi y hy=>?_
         obtain⟨m,hm,rfl⟩:=hys i y hy
         exact vN_at (by rw[List.getElem?_map,hm];rfl)
        subst ey
        exact⟨D4,_,rfl,.inl ⟨SqL.of hd8,λl hl=>hq _ _ (s8.trans (sameU hl)) ⟨l,r,rfl,hg,upd_same⟩⟩⟩
      ·intro ys H7 s7 hd7 hly hys
       rw[hclb] at hly
       obtain⟨ds,rfl⟩:=refsV (ys:=ys) λj y hy=>by
        obtain⟨c,r,z,_⟩:=hys j y hy
        exact⟨c,z⟩
       refine⟨D3,_,rfl,.inl ⟨SqL.of hd7,λl hl=>⟨(by show 3<=sizeLine;decide),λt' ht'=>?_⟩⟩⟩
       have SE:=((S6.trans s7).trans (sameU (o:=.tup (ds.map V.ref)) hl)).trans (sameU (o:=.tup [.int (n:Nat),.int (ren s.at nb tp:Nat),.ref l]) ht')
       refine q _ t' SE ⟨l,upd_same,ds,keepU upd_same ht',?_,λi c r g1 g2=>?_⟩
       ·rw[List.length_map] at hly
        unfold stepRows
        rw[List.length_map,hly]
       ·obtain⟨c',r',e3,e4,e5⟩:=hys i (.ref c) (by rw[List.getElem?_map,g1];rfl)
        cases e3
        rw[step_get,e4] at g2
        cases g2
        exact keepU (keepU e5 hl) ht'
end
end Pr
namespace Qf
open Tr
end Qf
namespace Pr
open PySem L2 Qf
end Pr
namespace Pr
open PySem L2 Qf
theorem small_show:(List.range 1000).all (λx=>decide ((PyData.shown (.int ((x:Nat):Int))).length<=3))=true:=by decide +kernel
theorem int_show {x:Nat}(h:x<1000):(PyData.shown (.int ((x:Nat):Int))).length<=3:=of_decide_eq_true (List.all_eq_true.mp small_show x (List.mem_range.mpr h))
theorem int_able {x:Nat}(h:x<1000):((x:Nat):Int).natAbs.log2<1920:=by
 rw[Int.natAbs_natCast]
 have:x.log2<=x:=Nat.log2_le_self x
 lia
theorem row_shown:∀(r:Row),(∀x∈r,x<1000)->((PyData.shownAll ((r.map λx:Nat=>(x:Int)).map PyData.int)).map (·.length)).sum<=3*r.length/\(PyData.shownAll ((r.map λx:Nat=>(x:Int)).map PyData.int)).length=r.length
 |[],_=>⟨Nat.le_refl _,rfl⟩
 |x::r,h=>by
  obtain⟨h1,h2⟩:=row_shown r λy hy=>h y (List.mem_cons_of_mem _ hy)
  have h3:=int_show (h x List.mem_cons_self)
  constructor
  ·show (PyData.shown (.int ((x:Nat):Int))).length+((PyData.shownAll ((r.map λx:Nat=>(x:Int)).map PyData.int)).map (·.length)).sum<=3*(r.length+1)
   lia
  ·show (PyData.shownAll ((r.map λx:Nat=>(x:Int)).map PyData.int)).length+1=r.length+1
   rw[h2]
theorem rows_shown:∀(rows:List Row),(∀r∈rows,r.length=4/\∀x∈r,x<1000)->((PyData.shownAll (dRows rows)).map (·.length)).sum<=23*rows.length/\(PyData.shownAll (dRows rows)).length=rows.length
 |[],_=>⟨Nat.le_refl _,rfl⟩
 |r::rows,h=>by
  obtain⟨h1,h2⟩:=rows_shown rows λy hy=>h y (List.mem_cons_of_mem _ hy)
  obtain⟨h4,hx⟩:=h r List.mem_cons_self
  obtain⟨h5,h6⟩:=row_shown r hx
  have h7:(PyData.shown (dT (r.map λx:Nat=>(x:Int)))).length<=23:=by
   have:=tupleText_len_le (PyData.shownAll ((r.map λx:Nat=>(x:Int)).map PyData.int))
   show (tupleText (PyData.shownAll ((r.map λx:Nat=>(x:Int)).map PyData.int))).length<=23
   rw[h6] at this
   lia
  constructor
  ·show (PyData.shown (dT (r.map λx:Nat=>(x:Int)))).length+((PyData.shownAll (dRows rows)).map (·.length)).sum<=23*(rows.length+1)
   lia
  ·show (PyData.shownAll (dRows rows)).length+1=rows.length+1
   rw[h2]
theorem row_able:∀(r:Row),(∀x∈r,x<1000)->PyData.showableAll ((r.map λx:Nat=>(x:Int)).map PyData.int)=true
 |[],_=>rfl
 |x::r,h=>by
  show (decide (((x:Nat):Int).natAbs.log2<1920)&&PyData.showableAll ((r.map λx:Nat=>(x:Int)).map PyData.int))=true
  rw[row_able r λy hy=>h y (List.mem_cons_of_mem _ hy),decide_eq_true (int_able (h x List.mem_cons_self))]
  rfl
theorem rows_able:∀(rows:List Row),(∀r∈rows,∀x∈r,x<1000)->PyData.showableAll (dRows rows)=true
 |[],_=>rfl
 |r::rows,h=>by
  show (PyData.showableAll ((r.map λx:Nat=>(x:Int)).map PyData.int)&&PyData.showableAll (dRows rows))=true
  rw[rows_able rows λy hy=>h y (List.mem_cons_of_mem _ hy),row_able r (h r List.mem_cons_self)]
  rfl
theorem row_nodict:∀(r:List Int),PyData.hasDictAll (r.map PyData.int)=false
 |[]=>rfl
 |x::r=>by
  show (false||PyData.hasDictAll (r.map PyData.int))=false
  rw[row_nodict r];rfl
theorem rows_nodict:∀(rows:List Row),PyData.hasDictAll (dRows rows)=false
 |[]=>rfl
 |r::rows=>by
  show (PyData.hasDictAll ((r.map λx:Nat=>(x:Int)).map PyData.int)||PyData.hasDictAll (dRows rows))=false
  rw[row_nodict,rows_nodict rows];rfl
theorem tell_nodict (n top:Nat) (rows:List Row):(dTell n top rows).hasDict=false:=by
 show (false||(false||(PyData.hasDictAll (dRows rows)||false)))=false
 rw[rows_nodict];rfl
end Pr
namespace Pr
open PySem L2 Qf
theorem ok_lt {n tp:Nat}{rows:List Row}(c:TellOk n tp rows):n<1000/\tp<1000/\∀r∈rows,r.length=4/\∀x∈r,x<1000:=by
 obtain⟨c1,c2,c3,c4,c5⟩:=c
 refine⟨by lia,by lia,λr hm=>?_⟩
 obtain⟨i,hi,e⟩:=List.mem_iff_getElem.mp hm
 obtain⟨h4,hx⟩:=c2 i r (by rw[List.getElem?_eq_getElem hi,e])
 exact⟨h4,λx hm=>by have:=hx x hm;lia⟩
theorem tell_shown2 {n top:Nat}{rows:List Row}(c:TellOk n top rows):(dTell n top rows).shown.length<=sizeLine:=by
 obtain⟨hn,hin,hr⟩:=ok_lt c
 have hl:=c.2.2.1
 obtain⟨h1,h2⟩:=rows_shown rows hr
 have h3:=tupleText_len_le (PyData.shownAll (dRows rows))
 have h4:=tupleText_len_le [PyData.shown (.int ((n:Nat):Int)),PyData.shown (.int ((top:Nat):Int)),tupleText (PyData.shownAll (dRows rows))]
 have h5:=int_show hn
 have h6:=int_show hin
 rw[h2] at h3
 show (tupleText [PyData.shown (.int ((n:Nat):Int)),PyData.shown (.int ((top:Nat):Int)),tupleText (PyData.shownAll (dRows rows))]).length<=sizeLine
 have e:sizeLine=16777216:=by decide
 simp only[List.map_cons,List.map_nil,List.sum_cons,List.sum_nil,List.length_cons,List.length_nil] at h4
 lia
theorem tell_able2 {n top:Nat}{rows:List Row}(c:TellOk n top rows):(dTell n top rows).showable=true:=by
 obtain⟨hn,hin,hr⟩:=ok_lt c
 show (decide (((n:Nat):Int).natAbs.log2<1920)&&(decide (((top:Nat):Int).natAbs.log2<1920)&&(PyData.showableAll (dRows rows)&&true)))=true
 rw[rows_able rows (λr hm=>(hr r hm).2),decide_eq_true (int_able hn),decide_eq_true (int_able hin)]
 rfl
def Few (ss:List Stp):Prop:=∀s∈ss,∀x∈sArgs s,x<1000
theorem few_all {n tp:Nat}{rows:List Row}(c:TellOk n tp rows):Few (srt (allSteps tp rows)):=λs hs x hx=>by
 have m:=all_mem ((srt_perm _).mem_iff.mp hs)
 have hl:=c.2.2.1
 cases s with
 |gone k=>
  have:x=k:=by simpa [sArgs] using hx
  have:=m.1
  lia
 |plain k=>
  have:x=k:=by simpa [sArgs] using hx
  have:=m.1
  lia
 |same k j=>
  have h:x=k\/x=j:=by simpa [sArgs] using hx
  obtain⟨m1,m2,_⟩:=m
  lia
theorem ints_short:∀l:List Nat,(∀x∈l,x<1000)->PyData.leavesShortAll 8 (l.map λn:Nat=>PyData.int (n:Int))=true
 |[],_=>rfl
 |x::l,h=>by
  have e:=int_show (h x List.mem_cons_self)
  show (decide ((PyData.shown (.int ((x:Nat):Int))).length<=8)&&PyData.leavesShortAll 8 (l.map λn:Nat=>PyData.int (n:Int)))=true
  rw[decide_eq_true (by lia),ints_short l λy hy=>h y (List.mem_cons_of_mem _ hy)];rfl
theorem ints_bulk:∀l:List Nat,PyData.bulkAll (l.map λn:Nat=>PyData.int (n:Int))=l.length
 |[]=>rfl
 |x::l=>by
  show 0+1+PyData.bulkAll (l.map λn:Nat=>PyData.int (n:Int))=l.length+1
  rw[ints_bulk l];lia
theorem ints_able:∀l:List Nat,(∀x∈l,x<1000)->PyData.showableAll (l.map λn:Nat=>PyData.int (n:Int))=true
 |[],_=>rfl
 |x::l,h=>by
  show (decide (((x:Nat):Int).natAbs.log2<1920)&&PyData.showableAll (l.map λn:Nat=>PyData.int (n:Int)))=true
  rw[ints_able l λy hy=>h y (List.mem_cons_of_mem _ hy),decide_eq_true (int_able (h x List.mem_cons_self))];rfl
theorem ints_nodict:∀l:List Nat,PyData.hasDictAll (l.map λn:Nat=>PyData.int (n:Int))=false
 |[]=>rfl
 |x::l=>by
  show (false||PyData.hasDictAll (l.map λn:Nat=>PyData.int (n:Int)))=false
  rw[ints_nodict l];rfl
theorem step_short {s:Stp}(h:∀x∈sArgs s,x<1000):(dS s).leavesShort 8=true/\(dS s).bulk<=8/\(dS s).showable=true/\(dS s).hasDict=false:=by
 have e1:(PyData.str (sName s)).leavesShort 8=true/\(PyData.str (sName s)).bulk<=5/\(PyData.str (sName s)).showable=true:=by
  cases s with
  |gone k=>exact⟨(by decide +kernel:(PyData.str "gone").leavesShort 8=true),(by decide +kernel:(PyData.str "gone").bulk<=5),(by decide +kernel:(PyData.str "gone").showable=true)⟩
  |plain k=>exact⟨(by decide +kernel:(PyData.str "plain").leavesShort 8=true),(by decide +kernel:(PyData.str "plain").bulk<=5),(by decide +kernel:(PyData.str "plain").showable=true)⟩
  |same k j=>exact⟨(by decide +kernel:(PyData.str "same").leavesShort 8=true),(by decide +kernel:(PyData.str "same").bulk<=5),(by decide +kernel:(PyData.str "same").showable=true)⟩
 have el:(sArgs s).length<=2:=by cases s<;>simp[sArgs]
 refine⟨?_,?_,?_,?_⟩
 ·show ((PyData.str (sName s)).leavesShort 8&&PyData.leavesShortAll 8 ((sArgs s).map λn:Nat=>PyData.int (n:Int)))=true
  rw[e1.1,ints_short _ h];rfl
 ·show (PyData.str (sName s)).bulk+1+PyData.bulkAll ((sArgs s).map λn:Nat=>PyData.int (n:Int))<=8
  rw[ints_bulk]
  have:=e1.2.1
  lia
 ·show ((PyData.str (sName s)).showable&&PyData.showableAll ((sArgs s).map λn:Nat=>PyData.int (n:Int)))=true
  rw[e1.2.2,ints_able _ h];rfl
 ·show (false||PyData.hasDictAll ((sArgs s).map λn:Nat=>PyData.int (n:Int)))=false
  rw[ints_nodict];rfl
theorem steps_short:∀{ss:List Stp},Few ss->PyData.leavesShortAll 8 (ss.map dS)=true/\PyData.bulkAll (ss.map dS)<=9*ss.length/\PyData.showableAll (ss.map dS)=true/\PyData.hasDictAll (ss.map dS)=false
 |[],_=>⟨rfl,Nat.le_refl _,rfl,rfl⟩
 |s::ss,h=>by
  obtain⟨a1,a2,a3,a4⟩:=step_short (h s List.mem_cons_self)
  obtain⟨b1,b2,b3,b4⟩:=steps_short (ss:=ss) λt ht=>h t (List.mem_cons_of_mem _ ht)
  refine⟨?_,?_,?_,?_⟩
  ·show ((dS s).leavesShort 8&&PyData.leavesShortAll 8 (ss.map dS))=true
   rw[a1,b1];rfl
  ·show (dS s).bulk+1+PyData.bulkAll (ss.map dS)<=9*(ss.length+1)
   lia
  ·show ((dS s).showable&&PyData.showableAll (ss.map dS))=true
   rw[a3,b3];rfl
  ·show ((dS s).hasDict||PyData.hasDictAll (ss.map dS))=false
   rw[a4,b4];rfl
def dSs (ss:List Stp):PyData:=.list (ss.map dS)
theorem dSs_shown {ss:List Stp}(h:Few ss) (hl:ss.length<=100000):(dSs ss).shown.length<=sizeLine:=by
 obtain⟨b1,b2,b3,b4⟩:=steps_short h
 have:=PyData.shown_le_bulk 8 (Nat.le_refl _) (dSs ss) b1
 have e:(dSs ss).bulk=PyData.bulkAll (ss.map dS):=rfl
 rw[e] at this
 have e2:sizeLine=16777216:=by decide
 lia
theorem dSs_able {ss:List Stp}(h:Few ss):(dSs ss).showable=true:=(steps_short h).2.2.1
theorem dSs_nodict {ss:List Stp}(h:Few ss):(dSs ss).hasDict=false:=(steps_short h).2.2.2
theorem dSs_lay (ss:List Stp):(dSs ss).canLay0=true:=lay_steps ss
theorem deep_all:∀ss:List Stp,PyData.depthAll (ss.map dS)<=3
 |[]=>by simp[PyData.depthAll]
 |s::ss=>by
  have a:=deep_all ss
  have b:=dS_depth s
  simp only[List.map_cons,PyData.depthAll]
  lia
theorem dSs_deep (ss:List Stp):(dSs ss).depth<=60:=by
 have:=deep_all ss
 unfold dSs
 simp only[PyData.depth]
 lia
theorem StepsL.data {H:Hp}{p:Addr}{ss:List Stp}(h:StepsL H p ss):DataAt H (.ref p) (dSs ss):=by
 obtain⟨xs,h1,h2⟩:=h.datas
 exact .lst h1 h2
theorem StepsL.but {H H':Hp}{p e:Addr}{ss:List Stp}{o:HO}(h:StepsL H p ss) (b:But e H H') (hpe:p≠e) (he:H e=some o) (no:∀u,o≠.tup u):StepsL H' p ss:=by
 obtain⟨bs,h1,h2,h3⟩:=h
 refine⟨bs,b _ _ h1 hpe,h2,λi c s e1 e2=>b _ _ (h3 i c s e1 e2) λz=>?_⟩
 have:=h3 i c s e1 e2
 rw[z,he] at this
 exact no _ (Option.some.inj this)
theorem step_tell {n tp:Nat}{rows:List Row}{s:Stp}(c:TellOk n tp rows) (h:s∈allSteps tp rows):TellOk n (ren s.at (nbP rows s) tp) (stepRows s.at (nbP rows s) rows):=by
 obtain⟨c1,c2,c3,c4,c5⟩:=c
 have hk:=at_lt h
 obtain⟨b1,b2⟩:=nbP_ok c2 h
 exact⟨c1,step_rok c2 hk b1,by rw[step_len hk];lia,step_top hk b1 c4,Nat.le_trans (step_dp c2 hk b1 b2 tp c4) c5⟩
end Pr
namespace Pr
open PySem L2 Qf
theorem same_but {H H1 H2:Hp}{p:Addr}(s:Same H H1) (hp:H p=none) (b:But p H1 H2):Same H H2:=λc o e=>b _ _ (s _ _ e) (ne_of_none e hp)
theorem TellAt.but {H H':Hp}{t p:Addr}{n tp:Nat}{rows:List Row}{o:HO}(h:TellAt H t n tp rows) (b:But p H H') (hp:H p=some o) (no:∀u,o≠.tup u):TellAt H' t n tp rows:=h.mono (b.tups hp no)
theorem none_of {H H1:Hp}{a:Addr}(s:Same H H1) (h:H1 a=none):H a=none:=by
 cases e:H a with
 |none=>rfl
 |some o=>rw[s _ _ e] at h;cases h
section
variable {P:Program}{w:World}{K:PySem.W.Frag}{mg:Str->Option Value}{base:Heap}
abbrev nLaw:List Str:=["_law_script", "_law_k", "_law_pot_here", "_law_n", "_law_telling_here", "_law_due", "_law_told", "_law_turn", "_law_step", "_law_later"]
theorem scLaw:FnScope nLaw ["_law_script"] (defScope lLaw):=⟨rfl,rfl,rfl,by decide +kernel,rfl,by decide +kernel,by decide +kernel⟩
def spLaw (K:PySem.W.Frag):Sp:=λvs H Q _=>∃(a:Addr) (ns:List Int),vs=[.ref a]/\SqL K H a (ns.map V.int)/\ns.length<=63/\∀H',Q (.bl true) H'
theorem ok_law {f fP fD fT fL fS fB fE fI:Addr}{fd fdP fdD fdT fdL fdS fdB fdE fdI:FuncData}(F:Fun K "law" "law" lLaw f fd) (B:Blt mg) (C:Blt2 mg)
  (hP:mg "_law_pot" = some (.ref fP)) (FP:Fun K "_law_pot" "_law_pot" lPot fP fdP) (bP:Binds K fdP ["_law_script", "_law_k"] [])
  (hD:mg "_law_digit" = some (.ref fD)) (FD:Fun K "_law_digit" "_law_digit" lDigit fD fdD) (bD:Binds K fdD ["_law_pot_here", "_law_many"] [])
  (hT:mg "_law_telling" = some (.ref fT)) (FT:Fun K "_law_telling" "_law_telling" lTelling fT fdT) (bT:Binds K fdT ["_law_pot_here", "_law_n", "_law_most"] []) (GT:FnOk P w K mg base CX0 3 fT fdT ["_law_pot_here", "_law_n", "_law_most"] spTl)
  (hL:mg "_law_steps" = some (.ref fL)) (FL:Fun K "_law_steps" "_law_steps" lSteps fL fdL) (bL:Binds K fdL ["_law_telling_here"] []) (GL:FnOk P w K mg base CX0 7 fL fdL ["_law_telling_here"] spLs)
  (hS:mg "steps_of" = some (.ref fS)) (FS:Fun K "steps_of" "steps_of" sStepsOf fS fdS) (bS:Binds K fdS ["telling"] []) (GS:FnOk P w K mg base CX0 7 fS fdS ["telling"] spStepsOf)
  (hB:mg "_law_behind" = some (.ref fB)) (FB:Fun K "_law_behind" "_law_behind" lBehind fB fdB) (bB:Binds K fdB ["_law_telling_here", "_law_step"] []) (GB:FnOk P w K mg base CX0 1 fB fdB ["_law_telling_here", "_law_step"] spLb)
  (hE:mg "stepped" = some (.ref fE)) (FE:Fun K "stepped" "stepped" sStepped fE fdE) (bE:Binds K fdE ["telling", "step"] []) (GE:FnOk P w K mg base CX0 9 fE fdE ["telling", "step"] spStepped)
  (hI:mg "is_telling" = some (.ref fI)) (FI:Fun K "is_telling" "is_telling" sTelling fI fdI) (bI:Binds K fdI ["thing"] []) (GI:FnOk P w K mg base CX0 5 fI fdI ["thing"] spTelling) :
  FnOk P w K mg base CX0 10 f fd ["_law_script"] (spLaw K):=by
 have GP:FnOk P w K mg base CX0 1 fP fdP ["_law_script", "_law_k"] (spPot K):=ok_pot FP B C
 have GD:FnOk P w K mg base CX0 1 fD fdD ["_law_pot_here", "_law_many"] spDigit:=ok_digit FD
 refine F.ok scLaw (λvs H Q E h=>?_) (λcdv A outer s H vs Q E hr h=>?_)
 ·obtain⟨a,ns,rfl,_⟩:=h
  rfl
 ·obtain⟨a,ns,rfl,hSq,hlen,q⟩:=h
  have hr1:Room 1 _:=hr.mono (by decide)
  have hr3:Room 3 _:=hr.mono (by decide)
  have hr5:Room 5 _:=hr.mono (by decide)
  have hr7:Room 7 _:=hr.mono (by decide)
  refine seqE ⟨_,⟨ps_for PassesOwn.never rfl (pi_range1 (by rfl) B.range (pa_cons (pe_callB (call_max2 rfl) (by rfl) B.max PyProof.Rows.boot_max (pa_cons pe_int (pa_cons (pe_callB (call_min2 rfl) (by rfl) B.min PyProof.Rows.boot_min (pa_cons pe_int (pa_cons (pe_callB call_len_seq (by rfl) B.len PySem.boot_len (pa_cons (pv 0) pa_nil)) pa_nil))) pa_nil))) pa_nil)) (pg_name (i:=1) scLaw.nd rfl (by first|exact Or.inl rfl|exact Or.inr rfl))
    (StI.go (.cons ⟨ps_set (i:=2) scLaw.nd rfl (by first|exact Or.inl rfl|exact Or.inr rfl) (pe_call GP hr1 (by rfl) hP FP.kp bP .nil pass0 (pa_cons (pv 0) (pa_cons (pv 1) pa_nil)))⟩
    (.cons ⟨ps_set (i:=3) scLaw.nd rfl (by first|exact Or.inl rfl|exact Or.inr rfl) (pe_call GD hr1 (by rfl) hD FD.kp bD .nil pass0 (pa_cons (pv 2) (pa_cons pe_int pa_nil)))⟩
    (.cons ⟨ps_set (i:=4) scLaw.nd rfl (by first|exact Or.inl rfl|exact Or.inr rfl) (pe_call GT hr3 (by rfl) hT FT.kp bT .nil pass0 (pa_cons (pv 2) (pa_cons (pv 3) (pa_cons pe_int pa_nil))))⟩
    (.cons ⟨ps_set (i:=5) scLaw.nd rfl (by first|exact Or.inl rfl|exact Or.inr rfl) (pe_call GL hr7 (by rfl) hL FL.kp bL .nil pass0 (pa_cons (pv 4) pa_nil))⟩
    (.cons ⟨ps_set (i:=6) scLaw.nd rfl (by first|exact Or.inl rfl|exact Or.inr rfl) (pe_call GS hr7 (by rfl) hS FS.kp bS .nil pass0 (pa_cons (pv 4) pa_nil))⟩
    (.cons ⟨ps_if (PW.pt (pw_or (pt_not (pt_val (pe_callB call_isi (by rfl) B.isi PyProof.Rows.boot_isinstance (pa_cons (pv 6) (pa_cons (pe_bltn (v:=.ty "list") (by rfl) B.list PyProof.Rows.boot_list rfl) pa_nil))))) (pw_or1 (pt_cmpR op_ne (PEb.go ⟨pe_callB (call_reprD hr) (by rfl) C.repr PyProof.Rows.boot_repr (pa_cons (pv 6) pa_nil)⟩) (PEb.go ⟨pe_callB (call_reprD hr) (by rfl) C.repr PyProof.Rows.boot_repr (pa_cons (pv 5) pa_nil)⟩) (nomark _))))) pss_never pss_nil⟩
    (.cons ⟨ps_expr (pe_bm0 PySem.F.plainAttrs_list PySem.F.slot_list_clear PySem.F.type_list_clear mt_clear (pv 6))⟩
    (.cons ⟨ps_for PassesOwn.never rfl (pi_range1 (by rfl) B.range (pa_cons (pe_callB (call_min2 rfl) (by rfl) B.min PyProof.Rows.boot_min (pa_cons pe_int (pa_cons (pe_callB call_len_seq (by rfl) B.len PySem.boot_len (pa_cons (pv 5) pa_nil)) pa_nil))) pa_nil)) (pg_name (i:=7) scLaw.nd rfl (by first|exact Or.inl rfl|exact Or.inr rfl))
     (StI.go (.cons ⟨ps_set (i:=8) scLaw.nd rfl (by first|exact Or.inl rfl|exact Or.inr rfl) (pe_ix ix_list (pv 5) (pe_call GD hr1 (by rfl) hD FD.kp bD .nil pass0 (pa_cons (pv 2) (pa_cons (pe_callB call_len_seq (by rfl) B.len PySem.boot_len (pa_cons (pv 5) pa_nil)) pa_nil))) (λ_ _=>rfl))⟩
     (.cons ⟨ps_set (i:=9) scLaw.nd rfl (by first|exact Or.inl rfl|exact Or.inr rfl) (pe_call GB hr1 (by rfl) hB FB.kp bB .nil pass0 (pa_cons (pv 4) (pa_cons (pv 8) pa_nil)))⟩
     (.cons ⟨ps_if (PW.pt (pw_or (pt_cmpR op_ne (PEb.go ⟨pe_callB (call_reprD hr) (by rfl) C.repr PyProof.Rows.boot_repr (pa_cons (PEb.go ⟨pe_call GE hr (by rfl) hE FE.kp bE .nil pass0 (pa_cons (pv 4) (pa_cons (pv 8) pa_nil))⟩) pa_nil)⟩) (PEb.go ⟨pe_callB (call_reprD hr) (by rfl) C.repr PyProof.Rows.boot_repr (pa_cons (pv 9) pa_nil)⟩) (nomark _)) (pw_or1 (pt_not (pt_val (pe_call GI hr5 (by rfl) hI FI.kp bI .nil pass0 (pa_cons (pv 9) pa_nil))))))) pss_never pss_nil⟩
     (.one ⟨ps_if (PW.pt (pw_or (pt_cmpR (op_neD hr) (PEb.go ⟨pe_call GE hr (by rfl) hE FE.kp bE .nil pass0 (pa_cons (pv 4) (pa_cons (pv 8) pa_nil))⟩) (pv 9) (nomark _)) (pw_or1 (pt_cmpR op_ne (PEb.go ⟨pe_callB call_len_seq (by rfl) B.len PySem.boot_len (pa_cons (pe_ix ix_tup (pv 9) pe_int (λ_ _=>rfl)) pa_nil)⟩) (PEb.go ⟨pe_op op_sub (pe_callB call_len_seq (by rfl) B.len PySem.boot_len (pa_cons (pe_ix ix_tup (pv 4) pe_int (λ_ _=>rfl)) pa_nil)) pe_int⟩) (nomark _))))) pss_never pss_nil⟩)))))⟩
    (.one ⟨ps_if (pt_cmpR (op_neD hr) (PEb.go ⟨pe_call GS hr7 (by rfl) hS FS.kp bS .nil pass0 (pa_cons (pv 4) pa_nil)⟩) (pv 5) (nomark _)) pss_never pss_nil⟩))))))))))⟩,?_⟩
  refine lastE ⟨_,⟨ps_ret pe_bl⟩,?_⟩
  refine⟨_,rfl,a,_,rfl,.inl hSq,_,_,rfl,_,_,rfl,_,rfl,?_,?_,for_range (λi σ H2=>(i:Int)<=12/\Same H H2/\∃v1 v2 v3 v4 v5 v6 v7 v8 v9,σ=[some (.ref a),v1,v2,v3,v4,v5,v6,v7,v8,v9]) ⟨by decide,Same.refl _,none,none,none,none,none,none,none,none,none,rfl⟩ ?_ ?_⟩
  ·split<;>(try split)<;>lia
  ·split<;>(try split)<;>lia
  ·rintro i σ H2 hi ⟨i1,s2,v1,v2,v3,v4,v5,v6,v7,v8,v9,rfl⟩
   have hi':(i:Int)<12:=by
    revert hi
    split<;>(try split)<;>lia
   refine⟨_,rfl,_,rfl,a,_,ns,rfl,s2.seq hSq,hlen,by lia,by lia,λH3 p s3 hpn hp3=>?_⟩
   have hpH:=none_of s2 hpn
   refine⟨_,rfl,p,13,rfl,hp3,by decide,by decide,λn H4 hn b4 hp4=>?_⟩
   have S4:Same H H4:=same_but (s2.trans s3) hpH b4
   refine⟨_,rfl,_,rfl,p,n,24,rfl,hp4,by lia,by decide,by decide,λH5 t tp rows b5 hp5 hT5 tok hl5=>?_⟩
   have S5:Same H H5:=same_but S4 hpH b5
   refine⟨_,rfl,t,n,tp,rows,rfl,hT5,tok,λH6 due s6 hdn st6=>?_⟩
   have hT6:=hT5.mono s6.tups
   refine⟨_,rfl,t,n,tp,rows,rfl,hT6,tok,λH7 told s7 htn st7=>?_⟩
   have S7:=(S5.trans s6).trans s7
   have hp7:=(hp5.same s6).same s7
   have hT7:=hT6.mono s7.tups
   have st6':=st6.same s7
   have ntd:due≠told:=by
    obtain⟨bs6,h6,_⟩:=st6
    exact ne_of_none h6 htn
   have hpd:due≠p:=by
    obtain⟨a',b',e,_⟩:=hp5
    exact (ne_of_none e hdn).symm
   have hpt:told≠p:=by
    obtain⟨a',b',e,_⟩:=hp5.same s6
    exact (ne_of_none e htn).symm
   have few:=few_all tok
   have hcnt:(srt (allSteps tp rows)).length<=1000:=by
    rw[(srt_perm _).length_eq]
    unfold allSteps
    rw[List.length_append,List.length_append]
    have a1:=same_few rows
    have a2:=plain_few rows
    have a3:=gone_few tp rows
    have a4:rows.length*rows.length<=23*23:=Nat.mul_le_mul (by lia) (by lia)
    lia
   have hmem:∀s∈srt (allSteps tp rows),s∈allSteps tp rows:=λs hs=>(srt_perm _).mem_iff.mp hs
   generalize hss:srt (allSteps tp rows)=ss at st6' st7 few hcnt hmem
   obtain⟨bs7,h7,l7,r7⟩:=id st7
   refine⟨_,rfl,_,_,_,_,true,rfl,rfl,.inl (.lst h7),rfl,_,rfl,iteF ?_⟩
   refine⟨_,rfl,told,dSs ss,rfl,st7.data,dSs_able few,dSs_nodict few,dSs_deep ss,dSs_shown few (by lia),?_⟩
   refine⟨_,rfl,due,dSs ss,rfl,st6'.data,dSs_able few,dSs_nodict few,dSs_deep ss,dSs_shown few (by lia),rfl,_,rfl,?_⟩
   rw[decide_eq_true rfl]
   refine iteF ?_
   refine⟨_,rfl,.inl ⟨rfl,_,SqL.of h7⟩,told,_,rfl,rfl,h7,?_⟩
   have hp8:PurseAt (upd H7 told (.lst [])) p:=by
    obtain⟨a',b',e,r⟩:=hp7
    exact⟨a',b',by rw[upd_ne hpt.symm];exact e,r⟩
   have tk8:Tups H7 (upd H7 told (.lst [])):=λb u e=>by rw[upd_ne (ne_of e h7 (λz=>nomatch z))];exact e
   have hT8:=hT7.mono tk8
   have st8:=st6'.ne h7 ntd (ys:=[])
   have htH:H told=none:=none_of (S5.trans s6) htn
   have S8:Same H (upd H7 told (.lst [])):=λb o e=>by rw[upd_ne (ne_of_none e htH)];exact S7 _ _ e
   generalize upd H7 told (.lst [])=H8 at hp8 hT8 st8 S8
   obtain⟨bs8,h8,l8,r8⟩:=id st8
   refine⟨_,rfl,due,_,rfl,.inl (SqL.of h8),_,_,rfl,_,rfl,?_,?_,for_range (λj σ H'=>Same H H'/\PurseAt H' p/\TellAt H' t n tp rows/\StepsL H' due ss/\∃v1 v6 v7 v8 v9,σ=[some (.ref a),v1,some (.ref p),some (.int (n:Nat)),some (.ref t),some (.ref due),v6,v7,v8,v9]) ⟨S8,hp8,hT8,st8,_,_,_,_,_,rfl⟩ ?_ ?_⟩
   ·split<;>lia
   ·split<;>lia
   ·rintro j σ H9 hj ⟨S9,hp9,hT9,st9,v1,v6,v7,v8,v9,rfl⟩
    obtain⟨bs9,h9,l9,r9⟩:=id st9
    have hpos:0<ss.length:=by
     have:(List.map V.ref bs8).length=ss.length:=by rw[List.length_map];exact l8
     rw[this] at hj
     revert hj
     split<;>lia
    refine⟨_,rfl,_,rfl,_,rfl,due,_,rfl,.inl (SqL.of h9),p,ss.length,by rw[List.length_map,l9];rfl,hp9,hpos,by lia,λd HA hd bA hpA=>?_⟩
    obtain⟨pa,pb,hpe,_⟩:=id hp9
    have hA:=bA _ _ h9 hpd
    have hbd:bs9[d]?=some (bs9[d]'(by lia)):=by simp[show d<bs9.length by lia]
    have hsd:ss[d]?=some ss[d]:=by simp[hd]
    have hb9:=r9 d _ _ hbd hsd
    have hbA:=bA _ _ hb9 (ne_of hb9 hpe (λz=>nomatch z))
    have hTA:=hT9.but bA hpe (λu z=>nomatch z)
    have stA:=st9.but bA hpd hpe (λu z=>nomatch z)
    have SA:Same H HA:=same_but S9 hpH bA
    refine⟨due,_,(d:Int),.ref (bs9[d]'(by lia)),rfl,rfl,SqL.of hA,atI_nat (by rw[List.getElem?_map,hbd];rfl),?_⟩
    have hs:=hmem ss[d] (List.getElem_mem hd)
    generalize bs9[d]'(by lia)=b at hbA
    generalize ss[d]=s at hbA hs
    obtain⟨e1,e2⟩:=step_eq hs
    have tok':=step_tell tok hs
    have hsl:=step_len (nb:=nbP rows s) (at_lt hs)
    have hat:=at_lt hs
    refine⟨_,rfl,_,rfl,t,b,n,tp,rows,s,rfl,hTA,tok,hbA,hs,λHB tl sB hTl=>?_⟩
    rw[e1,e2] at hTl
    generalize htt:ren s.at (nbP rows s) tp=tp' at hTl tok'
    generalize hrr:stepRows s.at (nbP rows s) rows=rows' at hTl tok' hsl
    refine⟨_,rfl,_,rfl,t,b,n,tp,rows,s,rfl,hTA.mono sB.tups,tok,sB _ _ hbA,hs,λHC ts sC hTs=>?_⟩
    rw[htt,hrr] at hTs
    have hTl':=hTl.mono sC.tups
    refine⟨ts,dTell n tp' rows',rfl,tell_data hTs,tell_able2 tok',tell_nodict n tp' rows',tell_depth n tp' rows',tell_shown2 tok',?_⟩
    refine⟨_,rfl,tl,dTell n tp' rows',rfl,tell_data hTl',tell_able2 tok',tell_nodict n tp' rows',tell_depth n tp' rows',tell_shown2 tok',rfl,_,rfl,?_⟩
    rw[decide_eq_true rfl]
    obtain⟨c1,c2,c3,c4,c5⟩:=id tok'
    refine iteF ⟨_,rfl,tl,n,tp',rows',rfl,hTl',c1,c2,c3,c4,c5,λHD sD=>⟨_,rfl,iteF ?_⟩⟩
    have S3:=(sB.trans sC).trans sD
    refine⟨_,rfl,_,rfl,t,b,n,tp,rows,s,rfl,hTA.mono S3.tups,tok,S3 _ _ hbA,hs,λHE ts2 sE hTs2=>?_⟩
    rw[htt,hrr] at hTs2
    have S4':=S3.trans sE
    have hTlE:=(hTl'.mono sD.tups).mono sE.tups
    refine⟨_,rfl,dTell n tp' rows',dTell n tp' rows',tell_data hTs2,tell_data hTlE,tell_lay _ _ _,tell_lay _ _ _,tell_depth _ _ _,_,rfl,?_⟩
    rw[tell_eqv]
    obtain⟨pl,htl,bl,hpl,hll,_⟩:=hTlE
    obtain⟨pr,htr,br,hpr,hlr,_⟩:=hTA.mono S4'.tups
    refine iteF ⟨_,rfl,tl,_,2,.ref pl,rfl,rfl,SqT.of htl,rfl,pl,_,rfl,.inr (SqT.of hpl),_,rfl,t,_,2,.ref pr,rfl,rfl,SqT.of htr,rfl,pr,_,rfl,.inr (SqT.of hpr),_,_,rfl,rfl,rfl,_,rfl,?_⟩
    have el:V.int ((List.map V.ref bl).length:Int)=V.int (((List.map V.ref br).length:Int)-1):=by
     rw[List.length_map,List.length_map,hll,hlr,hsl]
     congr 1
     lia
    rw[decide_eq_true el]
    exact iteF ⟨SA.trans S4',hpA.same S4',hTA.mono S4'.tups,stA.same S4',_,_,_,_,_,rfl⟩
   ·rintro σ H9 ⟨S9,hp9,hT9,st9,v1,v6,v7,v8,v9,rfl⟩
    refine⟨_,rfl,t,n,tp,rows,rfl,hT9,tok,λHA a' sA han stA=>?_⟩
    rw[hss] at stA
    refine⟨_,rfl,dSs ss,dSs ss,stA.data,(st9.same sA).data,dSs_lay ss,dSs_lay ss,dSs_deep ss,_,rfl,?_⟩
    rw[PySem.SeqAt.eqv_refl _ (dSs_lay ss)]
    exact iteF ⟨by lia,S9.trans sA,_,_,_,_,_,_,_,_,_,rfl⟩
  ·rintro σ H2 ⟨i1,s2,v1,v2,v3,v4,v5,v6,v7,v8,v9,rfl⟩
   exact q H2
end
end Pr
namespace Pr
open PySem L2 Qf
def DefIn (K:PySem.W.Frag) (x:Str) (st:Stmt):Prop:=∃(f:Addr) (fd:FuncData),PySem.W.nsIn K mainGlobals x=some (some (.ref f))/\Fun K x x st f fd
theorem d_mk {K:PySem.W.Frag}{x:Str}{st:Stmt}{f:Addr}{od an:Option Addr}{sl:Array (Option Value)}{oc kV dc pm cd ct:Value}(a:PySem.W.nsIn K mainGlobals x=some (some (.ref f)))
  (l:K.lookup f=some ⟨oc,od,.func (PySem.W.fnOf x x (defArgs st) (defBody st) (defScope st) .none kV dc pm an cd ct),sl⟩) (c:PySem.W.codeIn K cd x=true) (k:PySem.W.keepIn K (.ref f)=true):DefIn K x st:=⟨f,_,a,fun_mk l c k⟩
def NoName (K:PySem.W.Frag) (x:Str):Prop:=PySem.W.nsIn K mainGlobals x=some none
theorem all_mk {l:PySem.W.OpenLaw}{w:World}{K:PySem.W.Frag}{h:Heap}{mg:Str->Option Value}{fa fL:Addr}(X:K.In h) (G:h.Ns mainGlobals mg) (hfa:mg "law" = some (.ref fa)){odL anL:Option Addr}{slL:Array (Option Value)}{ocL kVL dcL pmL cdL ctL:Value}{t0 t1:Tok}
  (aL:PySem.W.nsIn K mainGlobals "law" = some (some (.ref fL))) (lL:K.lookup fL=some ⟨ocL,odL,.func (PySem.W.fnOf "law" "law" (defArgs lLaw) (defBody lLaw) (defScope lLaw) .none kVL dcL pmL anL cdL ctL),slL⟩) (cL:PySem.W.codeIn K cdL "law" = true) (kL:PySem.W.keepIn K (.ref fL)=true)
  (g0:PySem.W.nsIn K mainGlobals "FIRST" = some (some (.int 2 t0))) (g1:PySem.W.nsIn K mainGlobals "GREATEST_SIZE" = some (some (.int 12 t1)))
  (d0:DefIn K "is_whole" sWhole) (d1:DefIn K "is_plain" sPlain) (d2:DefIn K "depths_of" sDeps) (d3:DefIn K "renumbered" sRenum) (d4:DefIn K "is_size" sSize) (d5:DefIn K "is_number" sNumber) (d6:DefIn K "is_row" sRow) (d7:DefIn K "are_rows" sRows) (d8:DefIn K "is_telling" sTelling) (d9:DefIn K "want_telling" sWantTl) (d10:DefIn K "same_steps" sSame) (d11:DefIn K "plain_steps" sPlainS) (d12:DefIn K "gone_steps" sGone) (d13:DefIn K "steps_of" sStepsOf) (d14:DefIn K "is_step" sIsStep) (d15:DefIn K "number_behind" sNumB) (d16:DefIn K "stepped" sStepped) (d17:DefIn K "_law_pot" lPot) (d18:DefIn K "_law_digit" lDigit) (d19:DefIn K "_law_row" lRowDr) (d20:DefIn K "_law_depths" lDeps) (d21:DefIn K "_law_telling" lTelling) (d22:DefIn K "_law_steps" lSteps) (d23:DefIn K "_law_behind" lBehind)
  (z0:NoName K "isinstance") (z1:NoName K "int") (z2:NoName K "bool") (z3:NoName K "tuple") (z4:NoName K "list") (z5:NoName K "set") (z6:NoName K "len") (z7:NoName K "all") (z8:NoName K "any") (z9:NoName K "enumerate") (z10:NoName K "range") (z11:NoName K "max") (z12:NoName K "min") (z13:NoName K "abs") (z14:NoName K "repr") (z15:NoName K "str") (z16:NoName K "sorted") :
  ∃fd:FuncData,(∀(s:Shared) (v:Value),BindsTo s fd ⟨[v],[]⟩ [("_law_script",v)])/\∀base:Heap,K.In base->base.Ns mainGlobals mg->FnOk l.prog w K mg base CX0 10 fa fd ["_law_script"] (spLaw K):=by
 have e:=hfa.symm.trans (PySem.W.mg_of X G aL)
 cases e
 have nn:∀{x:Str},NoName K x->mg x=none:=λz=>PySem.W.mg_none_of X G z
 have B:Blt mg:=⟨nn z0,nn z1,nn z2,nn z3,nn z4,nn z5,nn z6,nn z7,nn z8,nn z9,nn z10,nn z11,nn z12⟩
 have C:Blt2 mg:=⟨nn z13,nn z14,nn z15⟩
 have T:Cst mg:=⟨⟨t0,PySem.W.mg_of X G g0⟩,⟨t1,PySem.W.mg_of X G g1⟩⟩
 have FL:=fun_mk (st:=lLaw) lL cL kL
 obtain⟨f0,fd0,a0,F0⟩:=d0
 have h0:=PySem.W.mg_of X G a0
 have b0:=F0.binds (ps:=["thing"]) λ_ _ _ _ _ _ us hl=>match us,hl with|[_],_=>rfl
 obtain⟨f1,fd1,a1,F1⟩:=d1
 have h1:=PySem.W.mg_of X G a1
 have b1:=F1.binds (ps:=["row"]) λ_ _ _ _ _ _ us hl=>match us,hl with|[_],_=>rfl
 obtain⟨f2,fd2,a2,F2⟩:=d2
 have h2:=PySem.W.mg_of X G a2
 have b2:=F2.binds (ps:=["rows"]) λ_ _ _ _ _ _ us hl=>match us,hl with|[_],_=>rfl
 obtain⟨f3,fd3,a3,F3⟩:=d3
 have h3:=PySem.W.mg_of X G a3
 have b3:=F3.binds (ps:=["row", "numbers"]) λ_ _ _ _ _ _ us hl=>match us,hl with|[_,_],_=>rfl
 obtain⟨f4,fd4,a4,F4⟩:=d4
 have h4:=PySem.W.mg_of X G a4
 have b4:=F4.binds (ps:=["thing"]) λ_ _ _ _ _ _ us hl=>match us,hl with|[_],_=>rfl
 obtain⟨f5,fd5,a5,F5⟩:=d5
 have h5:=PySem.W.mg_of X G a5
 have b5:=F5.binds (ps:=["thing", "many"]) λ_ _ _ _ _ _ us hl=>match us,hl with|[_,_],_=>rfl
 obtain⟨f6,fd6,a6,F6⟩:=d6
 have h6:=PySem.W.mg_of X G a6
 have b6:=F6.binds (ps:=["thing", "before"]) λ_ _ _ _ _ _ us hl=>match us,hl with|[_,_],_=>rfl
 obtain⟨f7,fd7,a7,F7⟩:=d7
 have h7:=PySem.W.mg_of X G a7
 have b7:=F7.binds (ps:=["thing"]) λ_ _ _ _ _ _ us hl=>match us,hl with|[_],_=>rfl
 obtain⟨f8,fd8,a8,F8⟩:=d8
 have h8:=PySem.W.mg_of X G a8
 have b8:=F8.binds (ps:=["thing"]) λ_ _ _ _ _ _ us hl=>match us,hl with|[_],_=>rfl
 obtain⟨f9,fd9,a9,F9⟩:=d9
 have h9:=PySem.W.mg_of X G a9
 have b9:=F9.binds (ps:=["telling"]) λ_ _ _ _ _ _ us hl=>match us,hl with|[_],_=>rfl
 obtain⟨f10,fd10,a10,F10⟩:=d10
 have h10:=PySem.W.mg_of X G a10
 have b10:=F10.binds (ps:=["rows"]) λ_ _ _ _ _ _ us hl=>match us,hl with|[_],_=>rfl
 obtain⟨f11,fd11,a11,F11⟩:=d11
 have h11:=PySem.W.mg_of X G a11
 have b11:=F11.binds (ps:=["rows"]) λ_ _ _ _ _ _ us hl=>match us,hl with|[_],_=>rfl
 obtain⟨f12,fd12,a12,F12⟩:=d12
 have h12:=PySem.W.mg_of X G a12
 have b12:=F12.binds (ps:=["top", "rows"]) λ_ _ _ _ _ _ us hl=>match us,hl with|[_,_],_=>rfl
 obtain⟨f13,fd13,a13,F13⟩:=d13
 have h13:=PySem.W.mg_of X G a13
 have b13:=F13.binds (ps:=["telling"]) λ_ _ _ _ _ _ us hl=>match us,hl with|[_],_=>rfl
 obtain⟨f14,fd14,a14,F14⟩:=d14
 have h14:=PySem.W.mg_of X G a14
 have b14:=F14.binds (ps:=["telling", "thing"]) λ_ _ _ _ _ _ us hl=>match us,hl with|[_,_],_=>rfl
 obtain⟨f15,fd15,a15,F15⟩:=d15
 have h15:=PySem.W.mg_of X G a15
 have b15:=F15.binds (ps:=["rows", "step"]) λ_ _ _ _ _ _ us hl=>match us,hl with|[_,_],_=>rfl
 obtain⟨f16,fd16,a16,F16⟩:=d16
 have h16:=PySem.W.mg_of X G a16
 have b16:=F16.binds (ps:=["telling", "step"]) λ_ _ _ _ _ _ us hl=>match us,hl with|[_,_],_=>rfl
 obtain⟨f17,fd17,a17,F17⟩:=d17
 have h17:=PySem.W.mg_of X G a17
 have b17:=F17.binds (ps:=["_law_script", "_law_k"]) λ_ _ _ _ _ _ us hl=>match us,hl with|[_,_],_=>rfl
 obtain⟨f18,fd18,a18,F18⟩:=d18
 have h18:=PySem.W.mg_of X G a18
 have b18:=F18.binds (ps:=["_law_pot_here", "_law_many"]) λ_ _ _ _ _ _ us hl=>match us,hl with|[_,_],_=>rfl
 obtain⟨f19,fd19,a19,F19⟩:=d19
 have h19:=PySem.W.mg_of X G a19
 have b19:=F19.binds (ps:=["_law_pot_here", "_law_rows"]) λ_ _ _ _ _ _ us hl=>match us,hl with|[_,_],_=>rfl
 obtain⟨f20,fd20,a20,F20⟩:=d20
 have h20:=PySem.W.mg_of X G a20
 have b20:=F20.binds (ps:=["_law_rows"]) λ_ _ _ _ _ _ us hl=>match us,hl with|[_],_=>rfl
 obtain⟨f21,fd21,a21,F21⟩:=d21
 have h21:=PySem.W.mg_of X G a21
 have b21:=F21.binds (ps:=["_law_pot_here", "_law_n", "_law_most"]) λ_ _ _ _ _ _ us hl=>match us,hl with|[_,_,_],_=>rfl
 obtain⟨f22,fd22,a22,F22⟩:=d22
 have h22:=PySem.W.mg_of X G a22
 have b22:=F22.binds (ps:=["_law_telling_here"]) λ_ _ _ _ _ _ us hl=>match us,hl with|[_],_=>rfl
 obtain⟨f23,fd23,a23,F23⟩:=d23
 have h23:=PySem.W.mg_of X G a23
 have b23:=F23.binds (ps:=["_law_telling_here", "_law_step"]) λ_ _ _ _ _ _ us hl=>match us,hl with|[_,_],_=>rfl
 refine⟨PySem.W.fnOf "law" "law" (defArgs lLaw) (defBody lLaw) (defScope lLaw) .none kVL dcL pmL anL cdL ctL,λs v=>.of_eq rfl,λbase _ _=>?_⟩
 have hso:mg "sorted" = none:=nn z16
 have gSize:FnOk l.prog w K mg base CX0 2 _ _ _ _:=ok_size F4 B T h0 F0 b0
 have gNum:FnOk l.prog w K mg base CX0 2 _ _ _ _:=ok_number F5 B T h0 F0 b0
 have gRow:FnOk l.prog w K mg base CX0 3 _ _ _ _:=ok_row F6 B h5 F5 b5 gNum
 have gRows:FnOk l.prog w K mg base CX0 4 _ _ _ _:=ok_rows F7 B h6 F6 b6 gRow
 have gTell:FnOk l.prog w K mg base CX0 5 _ _ _ _:=ok_telling F8 B h4 F4 b4 gSize h7 F7 b7 gRows h5 F5 b5 gNum h2 F2 b2
 have gWant:FnOk l.prog w K mg base CX0 6 _ _ _ _:=ok_wantTl F9 h8 F8 b8 gTell
 have gSa:FnOk l.prog w K mg base CX0 1 _ _ _ _:=ok_same F10 B
 have gPs:FnOk l.prog w K mg base CX0 3 _ _ _ _:=ok_plainS F11 B T h1 F1 b1
 have gGo:FnOk l.prog w K mg base CX0 1 _ _ _ _:=ok_gone F12 B T
 have gSt:FnOk l.prog w K mg base CX0 7 _ _ _ _:=ok_stepsOf F13 hso h9 F9 b9 gWant h10 F10 b10 gSa h11 F11 b11 gPs h12 F12 b12 gGo
 have gIs:FnOk l.prog w K mg base CX0 8 _ _ _ _:=ok_isStep F14 B C h0 F0 b0 h13 F13 b13 gSt
 have gSd:FnOk l.prog w K mg base CX0 9 _ _ _ _:=ok_stepped F16 B T h9 F9 b9 gWant h14 F14 b14 gIs h15 F15 b15 h3 F3 b3
 have gTl:FnOk l.prog w K mg base CX0 3 _ _ _ _:=ok_tl F21 B h18 F18 b18 h19 F19 b19 h20 F20 b20
 have gLs:FnOk l.prog w K mg base CX0 7 _ _ _ _:=ok_ls F22 B hso
 have gLb:FnOk l.prog w K mg base CX0 1 _ _ _ _:=ok_lb F23 B
 exact ok_law FL B C h17 F17 b17 h18 F18 b18 h21 F21 b21 gTl h22 F22 b22 gLs h13 F13 b13 gSt h23 F23 b23 gLb h16 F16 b16 gSd h8 F8 b8 gTell
theorem walk {l:PySem.W.OpenLaw}{q:Program}{loose:List Str}{XP:(Str->Option Value)->Heap->Prop}{YP:World->Heap->Prop}{d:DefRec}{K:Params->PySem.W.Frag}(hn:l.most=some 63) (hdf:d.params.defaults=[])
  (hY:∀(w:World) (h:Heap),YP w h->(K w.params).In h)
  (F:∀(w:World) (mg:Str->Option Value) (fa:Addr) (h:Heap),(K w.params).In h->h.Ns mainGlobals mg->mg d.name=some (.ref fa) ->
   ∃fd:FuncData,(∀(s:Shared) (u:Value),BindsTo s fd ⟨[u],[]⟩ [("_law_script",u)])/\∀base:Heap,(K w.params).In base->base.Ns mainGlobals mg->FnOk l.prog w (K w.params) mg base CX0 10 fa fd ["_law_script"] (spLaw (K w.params))) :
  PySem.W.WalkO q loose XP YP l.row.toRowW d [] (λf vs=>PySem.call f vs):=
 L2.walk_of (n:=63) (k:=10) (x:= "_law_script") (CX:=λ_=>CX0) (sp:=λw=>spLaw (K w.params)) hn (by decide) hdf ⟨rfl,by decide,by decide,rfl⟩ hY F (λ_ _ a ns hl _ hS=>⟨a,ns,rfl,hS,hl,λ_=>rfl⟩) λ_ _ _ _ _ z=>z
end Pr
open PySem PySem.W PyProof.Rows
set_option maxRecDepth 100000 in
set_option maxHeartbeats 0 in
theorem PySem.Challenge.cw_quarterfold_k21_steps_done_holds : PySem.Challenge.rw_quarterfold_k21_steps_done.Holds := by
 w_on;o_law
 refine holds_open (q:=Hd.q0) (loose:=[]) (Xt:=Hd.X0) (XP:=XL Hd.q0 []) (YP:=Hook.says (kHook Hd.K0 Hd.as0 Hd.as_K)) (N:=Hd.N0) Hd.left0
  (Hook.of (kHook Hd.K0 Hd.as0 Hd.as_K)) (Hook.keeps (kHook Hd.K0 Hd.as0 Hd.as_K)) (λs e=>xl_of s (Bool.and_eq_true_iff.mp e).1) XL.keeps
  (by rfl) (by rfl) (by rfl) (λs e=>recFacts_of (Bool.and_eq_true_iff.mp e).2)
  (by rfl) (by first|assumption|decide +kernel) (by decide +kernel) ⟨rfl,rfl,rfl,rfl,rfl,by decide +kernel⟩ ?hw ?hc
 case hw=>w_witness2
 k_fill
 refine Pr.walk (l:=PySem.Challenge.rw_quarterfold_k21_steps_done) rfl rfl (λw h Y=>PySem.W.kIn_of Y) ?F
 case F=>
  intro w mg fa h KX G hmg
  refine' Pr.all_mk KX G hmg ?aL ?lL ?cL ?kL ?gc0 ?gc1 ?d0 ?d1 ?d2 ?d3 ?d4 ?d5 ?d6 ?d7 ?d8 ?d9 ?d10 ?d11 ?d12 ?d13 ?d14 ?d15 ?d16 ?d17 ?d18 ?d19 ?d20 ?d21 ?d22 ?d23 ?z0 ?z1 ?z2 ?z3 ?z4 ?z5 ?z6 ?z7 ?z8 ?z9 ?z10 ?z11 ?z12 ?z13 ?z14 ?z15 ?z16
  (case aL=>k_is);(case lL=>k_is);(case cL=>k_is);(case kL=>k_is)
  (case gc0=>k_is)
  (case gc1=>k_is)
  (case z0=>unfold Pr.NoName;k_is)
  (case z1=>unfold Pr.NoName;k_is)
  (case z2=>unfold Pr.NoName;k_is)
  (case z3=>unfold Pr.NoName;k_is)
  (case z4=>unfold Pr.NoName;k_is)
  (case z5=>unfold Pr.NoName;k_is)
  (case z6=>unfold Pr.NoName;k_is)
  (case z7=>unfold Pr.NoName;k_is)
  (case z8=>unfold Pr.NoName;k_is)
  (case z9=>unfold Pr.NoName;k_is)
  (case z10=>unfold Pr.NoName;k_is)
  (case z11=>unfold Pr.NoName;k_is)
  (case z12=>unfold Pr.NoName;k_is)
  (case z13=>unfold Pr.NoName;k_is)
  (case z14=>unfold Pr.NoName;k_is)
  (case z15=>unfold Pr.NoName;k_is)
  (case z16=>unfold Pr.NoName;k_is)
  all_goals (refine' Pr.d_mk ?qa ?ql ?qc ?qk;(case qa=>k_is);(case ql=>k_is);(case qc=>k_is);(case qk=>k_is))
