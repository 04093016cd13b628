import PyProof.Rows.All
import Wide.All
import OpenK.AllK
import Wide.FinOn
import Lean
import PyProof.EqAt
import PyProof.EqKinds
import PyProof.TupleCall
import Open.Row
import PySem.SetOps
import PyProof.SetRoads
import PyProof.Rows.SetFrom
import PyProof.FactsAll.subtypes_4
import PyProof.WalksMore
import OpenK.KOwn
import PyProof.NeData
import PyProof.ReprRoads
import PyProof.WalksEnum
import PyProof.EnumMake
import PyProof.Rows.EnumRows
import KE.KTryMore
import KE.KIntText
import KE.KDictList
import PyProof.ConsumeS
import PyProof.ListRange
import PyProof.ListMulRoad
import PyProof.DictUpdate
import PyProof.Rows.TupDisplay
import PyProof.DictWalks
import PyProof.TupleOfGen
import PyProof.CompUse
import PyProof.CompFree
import PyProof.StrLawsChain
import PyProof.CollectIter
import KE.KxText
import PySem.Challenge.RW_quarterfold_k16_what_is_refused
set_option Elab.async false
set_option linter.all false
set_option maxRecDepth 100000
set_option maxHeartbeats 8000000
namespace L2
open PySem
def defArgs (s:Stmt):Arguments:=match s with
 |.FunctionDef _ a _ _ _ _ _ _ _ _=>a
 |_=>{ posonlyargs:=[],args:=[],vararg:=none,kwonlyargs:=[],kw_defaults:=[],kwarg:=none,defaults:=[] }
def defBody (s:Stmt):List Stmt:=match s with
 |.FunctionDef _ _ b _ _ _ _ _ _ _=>b
 |_=>[]
def defScope (s:Stmt):Scope:=match s with
 |.FunctionDef _ _ _ _ _ _ sc _ _ _=>sc
 |_=>{ kind:=.function,names:=[],isGenerator:=false,isCoroutine:=false }
end L2
namespace Pr
open PySem
def top (i:Nat):Stmt:=PySem.Challenge.pw_quarterfold_k16_what_is_refused.main.body.getD i (.Pass ⟨0,0,0,0⟩)
end Pr
namespace Hd
open PySem PySem.W
abbrev pw:Program:=PySem.Challenge.pw_quarterfold_k16_what_is_refused
def kh (P:Params) (x:Str):Int:=PySem.PyData.keyHash P x
def oF (n:Str) (st:Stmt) (m:Value) (c:Nat):Obj:=⟨.type "function",none,.func (fnOf n n (L2.defArgs st) (L2.defBody st) (L2.defScope st) .none .none .none m none (.ref c) .none),#[]⟩
def oC (n q:Str) (t1 t2 t3 l a r1 r2:Nat) (y z:Value) (r6 k t5:Nat):Obj:=⟨.type "code",none,.fields #[.str n t1,.str q t2,.str "/claim/cut.py" t3,.int l 0,.int a 0,.int 0 0,.int 0 0,.int 3 0,.ref r1,.bool true,.int 181 0,.ref r2,.none,y,z,.ref r6,.int k 0,.int l 0,.str "/claim/cut.py" t5],#[]⟩
def K0 (P:Params):Frag:=
(nat_lit 2,⟨.none,none,(.dict #[] 0),#[]⟩) ::
(nat_lit 3,⟨.type "dict",none,(.dict #[⟨kh P "__name__",.str "__name__" 165,.str "law_quarterfold_k16_what_is_refused" 601⟩,⟨kh P "__doc__",.str "__doc__" 166,.none⟩,⟨kh P "__package__",.str "__package__" 167,.none⟩,⟨kh P "__loader__",.str "__loader__" 168,.builtin "__main__.__loader__#opaque"⟩,⟨kh P "__spec__",.str "__spec__" 169,.none⟩,⟨kh P "__annotations__",.str "__annotations__" 170,.ref 6⟩,⟨kh P "__builtins__",.str "__builtins__" 171,.ref 4⟩,⟨kh P "__file__",.str "__file__" 173,.str "/claim/cut.py" 172⟩,⟨kh P "__cached__",.str "__cached__" 174,.none⟩,⟨kh P "FloorError",.str "FloorError" 206,.ref 24⟩,⟨kh P "NoFloor",.str "NoFloor" 222,.ref 37⟩,⟨kh P "NoAddress",.str "NoAddress" 238,.ref 49⟩,⟨kh P "NoCell",.str "NoCell" 254,.ref 61⟩,⟨kh P "NoShape",.str "NoShape" 270,.ref 73⟩,⟨kh P "NoTelling",.str "NoTelling" 286,.ref 85⟩,⟨kh P "NoText",.str "NoText" 302,.ref 97⟩,⟨kh P "NoStep",.str "NoStep" 318,.ref 109⟩,⟨kh P "NoBox",.str "NoBox" 334,.ref 121⟩,⟨kh P "TooMany",.str "TooMany" 350,.ref 133⟩,⟨kh P "OtherFloor",.str "OtherFloor" 366,.ref 145⟩,⟨kh P "NoTurn",.str "NoTurn" 382,.ref 157⟩,⟨kh P "NoNumber",.str "NoNumber" 398,.ref 169⟩,⟨kh P "NoSide",.str "NoSide" 414,.ref 181⟩,⟨kh P "NotFull",.str "NotFull" 430,.ref 193⟩,⟨kh P "NoWay",.str "NoWay" 446,.ref 205⟩,⟨kh P "NoLoop",.str "NoLoop" 462,.ref 217⟩,⟨kh P "EMPTY",.str "EMPTY" 466,.int 0 465⟩,⟨kh P "FULL",.str "FULL" 468,.int 1 467⟩,⟨kh P "FIRST",.str "FIRST" 470,.int 2 469⟩,⟨kh P "is_whole",.str "is_whole" 477,.ref 226⟩,⟨kh P "is_plain",.str "is_plain" 484,.ref 233⟩,⟨kh P "depths_of",.str "depths_of" 490,.ref 238⟩,⟨kh P "end_rows",.str "end_rows" 500,.ref 245⟩,⟨kh P "places_as_ended",.str "places_as_ended" 509,.ref 252⟩,⟨kh P "GREATEST_SIZE",.str "GREATEST_SIZE" 513,.int 12 512⟩,⟨kh P "is_size",.str "is_size" 520,.ref 259⟩,⟨kh P "want_floor",.str "want_floor" 527,.ref 266⟩,⟨kh P "is_number",.str "is_number" 537,.ref 273⟩,⟨kh P "is_row",.str "is_row" 543,.ref 278⟩,⟨kh P "are_rows",.str "are_rows" 549,.ref 283⟩,⟨kh P "is_telling",.str "is_telling" 559,.ref 290⟩,⟨kh P "is_shape",.str "is_shape" 565,.ref 295⟩,⟨kh P "want_shape",.str "want_shape" 572,.ref 302⟩,⟨kh P "empty",.str "empty" 579,.ref 309⟩,⟨kh P "full",.str "full" 586,.ref 316⟩,⟨kh P "line_of",.str "line_of" 594,.ref 321⟩,⟨kh P "shape_text",.str "shape_text" 600,.ref 326⟩,⟨kh P "_law_pot",.str "_law_pot" 611,.ref 333⟩,⟨kh P "_law_digit",.str "_law_digit" 620,.ref 340⟩,⟨kh P "_law_cells",.str "_law_cells" 626,.ref 345⟩,⟨kh P "_law_box",.str "_law_box" 641,.ref 352⟩,⟨kh P "_law_boxes",.str "_law_boxes" 647,.ref 357⟩,⟨kh P "_law_meets",.str "_law_meets" 657,.ref 364⟩,⟨kh P "_law_has",.str "_law_has" 667,.ref 371⟩,⟨kh P "_law_number",.str "_law_number" 673,.ref 376⟩,⟨kh P "_law_shape",.str "_law_shape" 683,.ref 383⟩,⟨kh P "_law_kinds",.str "_law_kinds" 689,.ref 388⟩,⟨kh P "_law_asked",.str "_law_asked" 699,.ref 395⟩,⟨kh P "_law_made",.str "_law_made" 705,.ref 400⟩,⟨kh P "_law_odd",.str "_law_odd" 711,.ref 407⟩,⟨kh P "_law_odd_sizes",.str "_law_odd_sizes" 717,.ref 414⟩,⟨kh P "_law_no_shapes",.str "_law_no_shapes" 728,.ref 421⟩,⟨kh P "law",.str "law" 734,.ref 426⟩] 63),#[]⟩) ::
(nat_lit 23,⟨.type "dict",none,(.dict #[⟨kh P "__module__",.str "__module__" 196,.str "quarterfold.errors" 187⟩,⟨kh P "__firstlineno__",.str "__firstlineno__" 200,.int 2 199⟩,⟨kh P "__static_attributes__",.str "__static_attributes__" 201,.ref 22⟩,⟨kh P "__weakref__",.str "__weakref__" 203,.ref 25⟩,⟨kh P "__doc__",.str "__doc__" 204,.none⟩] 3),#[]⟩) ::
(nat_lit 24,⟨.type "type",none,(.cls ⟨"FloorError",[.type "ValueError"],[.ref 24,.type "ValueError",.type "Exception",.type "BaseException",.type "object"],23, "FloorError",true,[],[.ref 37,.ref 49,.ref 61,.ref 73,.ref 85,.ref 97,.ref 109,.ref 121,.ref 133,.ref 145,.ref 157,.ref 169,.ref 181,.ref 193,.ref 205,.ref 217],false,none,false⟩),#[some (.ref 15),none,some (.str "FloorError" 189),some (.str "FloorError" 197),some (.builtin "ValueError.__new__"),some (.bool true)]⟩) ::
(nat_lit 25,⟨.type "getset_descriptor",none,(.fields #[.str "__weakref__" 202,.ref 24,.builtin "ExceptionGroup.__weakref__",.none]),#[]⟩) ::
(nat_lit 36,⟨.type "dict",none,(.dict #[⟨kh P "__module__",.str "__module__" 214,.str "quarterfold.errors" 187⟩,⟨kh P "__firstlineno__",.str "__firstlineno__" 218,.int 4 217⟩,⟨kh P "__static_attributes__",.str "__static_attributes__" 219,.ref 35⟩,⟨kh P "__doc__",.str "__doc__" 220,.none⟩] 2),#[]⟩) ::
(nat_lit 37,⟨.type "type",none,(.cls ⟨"NoFloor",[.ref 24],[.ref 37,.ref 24,.type "ValueError",.type "Exception",.type "BaseException",.type "object"],36, "NoFloor",true,[],[],false,none,false⟩),#[some (.ref 28),none,some (.str "NoFloor" 207),some (.str "NoFloor" 215),some (.builtin "ValueError.__new__"),some (.bool true)]⟩) ::
(nat_lit 48,⟨.type "dict",none,(.dict #[⟨kh P "__module__",.str "__module__" 230,.str "quarterfold.errors" 187⟩,⟨kh P "__firstlineno__",.str "__firstlineno__" 234,.int 6 233⟩,⟨kh P "__static_attributes__",.str "__static_attributes__" 235,.ref 47⟩,⟨kh P "__doc__",.str "__doc__" 236,.none⟩] 2),#[]⟩) ::
(nat_lit 49,⟨.type "type",none,(.cls ⟨"NoAddress",[.ref 24],[.ref 49,.ref 24,.type "ValueError",.type "Exception",.type "BaseException",.type "object"],48, "NoAddress",true,[],[],false,none,false⟩),#[some (.ref 40),none,some (.str "NoAddress" 223),some (.str "NoAddress" 231),some (.builtin "ValueError.__new__"),some (.bool true)]⟩) ::
(nat_lit 60,⟨.type "dict",none,(.dict #[⟨kh P "__module__",.str "__module__" 246,.str "quarterfold.errors" 187⟩,⟨kh P "__firstlineno__",.str "__firstlineno__" 250,.int 8 249⟩,⟨kh P "__static_attributes__",.str "__static_attributes__" 251,.ref 59⟩,⟨kh P "__doc__",.str "__doc__" 252,.none⟩] 2),#[]⟩) ::
(nat_lit 61,⟨.type "type",none,(.cls ⟨"NoCell",[.ref 24],[.ref 61,.ref 24,.type "ValueError",.type "Exception",.type "BaseException",.type "object"],60, "NoCell",true,[],[],false,none,false⟩),#[some (.ref 52),none,some (.str "NoCell" 239),some (.str "NoCell" 247),some (.builtin "ValueError.__new__"),some (.bool true)]⟩) ::
(nat_lit 72,⟨.type "dict",none,(.dict #[⟨kh P "__module__",.str "__module__" 262,.str "quarterfold.errors" 187⟩,⟨kh P "__firstlineno__",.str "__firstlineno__" 266,.int 10 265⟩,⟨kh P "__static_attributes__",.str "__static_attributes__" 267,.ref 71⟩,⟨kh P "__doc__",.str "__doc__" 268,.none⟩] 2),#[]⟩) ::
(nat_lit 73,⟨.type "type",none,(.cls ⟨"NoShape",[.ref 24],[.ref 73,.ref 24,.type "ValueError",.type "Exception",.type "BaseException",.type "object"],72, "NoShape",true,[],[],false,none,false⟩),#[some (.ref 64),none,some (.str "NoShape" 255),some (.str "NoShape" 263),some (.builtin "ValueError.__new__"),some (.bool true)]⟩) ::
(nat_lit 84,⟨.type "dict",none,(.dict #[⟨kh P "__module__",.str "__module__" 278,.str "quarterfold.errors" 187⟩,⟨kh P "__firstlineno__",.str "__firstlineno__" 282,.int 12 281⟩,⟨kh P "__static_attributes__",.str "__static_attributes__" 283,.ref 83⟩,⟨kh P "__doc__",.str "__doc__" 284,.none⟩] 2),#[]⟩) ::
(nat_lit 85,⟨.type "type",none,(.cls ⟨"NoTelling",[.ref 24],[.ref 85,.ref 24,.type "ValueError",.type "Exception",.type "BaseException",.type "object"],84, "NoTelling",true,[],[],false,none,false⟩),#[some (.ref 76),none,some (.str "NoTelling" 271),some (.str "NoTelling" 279),some (.builtin "ValueError.__new__"),some (.bool true)]⟩) ::
(nat_lit 96,⟨.type "dict",none,(.dict #[⟨kh P "__module__",.str "__module__" 294,.str "quarterfold.errors" 187⟩,⟨kh P "__firstlineno__",.str "__firstlineno__" 298,.int 14 297⟩,⟨kh P "__static_attributes__",.str "__static_attributes__" 299,.ref 95⟩,⟨kh P "__doc__",.str "__doc__" 300,.none⟩] 2),#[]⟩) ::
(nat_lit 97,⟨.type "type",none,(.cls ⟨"NoText",[.ref 24],[.ref 97,.ref 24,.type "ValueError",.type "Exception",.type "BaseException",.type "object"],96, "NoText",true,[],[],false,none,false⟩),#[some (.ref 88),none,some (.str "NoText" 287),some (.str "NoText" 295),some (.builtin "ValueError.__new__"),some (.bool true)]⟩) ::
(nat_lit 108,⟨.type "dict",none,(.dict #[⟨kh P "__module__",.str "__module__" 310,.str "quarterfold.errors" 187⟩,⟨kh P "__firstlineno__",.str "__firstlineno__" 314,.int 16 313⟩,⟨kh P "__static_attributes__",.str "__static_attributes__" 315,.ref 107⟩,⟨kh P "__doc__",.str "__doc__" 316,.none⟩] 2),#[]⟩) ::
(nat_lit 109,⟨.type "type",none,(.cls ⟨"NoStep",[.ref 24],[.ref 109,.ref 24,.type "ValueError",.type "Exception",.type "BaseException",.type "object"],108, "NoStep",true,[],[],false,none,false⟩),#[some (.ref 100),none,some (.str "NoStep" 303),some (.str "NoStep" 311),some (.builtin "ValueError.__new__"),some (.bool true)]⟩) ::
(nat_lit 120,⟨.type "dict",none,(.dict #[⟨kh P "__module__",.str "__module__" 326,.str "quarterfold.errors" 187⟩,⟨kh P "__firstlineno__",.str "__firstlineno__" 330,.int 18 329⟩,⟨kh P "__static_attributes__",.str "__static_attributes__" 331,.ref 119⟩,⟨kh P "__doc__",.str "__doc__" 332,.none⟩] 2),#[]⟩) ::
(nat_lit 121,⟨.type "type",none,(.cls ⟨"NoBox",[.ref 24],[.ref 121,.ref 24,.type "ValueError",.type "Exception",.type "BaseException",.type "object"],120, "NoBox",true,[],[],false,none,false⟩),#[some (.ref 112),none,some (.str "NoBox" 319),some (.str "NoBox" 327),some (.builtin "ValueError.__new__"),some (.bool true)]⟩) ::
(nat_lit 132,⟨.type "dict",none,(.dict #[⟨kh P "__module__",.str "__module__" 342,.str "quarterfold.errors" 187⟩,⟨kh P "__firstlineno__",.str "__firstlineno__" 346,.int 20 345⟩,⟨kh P "__static_attributes__",.str "__static_attributes__" 347,.ref 131⟩,⟨kh P "__doc__",.str "__doc__" 348,.none⟩] 2),#[]⟩) ::
(nat_lit 133,⟨.type "type",none,(.cls ⟨"TooMany",[.ref 24],[.ref 133,.ref 24,.type "ValueError",.type "Exception",.type "BaseException",.type "object"],132, "TooMany",true,[],[],false,none,false⟩),#[some (.ref 124),none,some (.str "TooMany" 335),some (.str "TooMany" 343),some (.builtin "ValueError.__new__"),some (.bool true)]⟩) ::
(nat_lit 144,⟨.type "dict",none,(.dict #[⟨kh P "__module__",.str "__module__" 358,.str "quarterfold.errors" 187⟩,⟨kh P "__firstlineno__",.str "__firstlineno__" 362,.int 22 361⟩,⟨kh P "__static_attributes__",.str "__static_attributes__" 363,.ref 143⟩,⟨kh P "__doc__",.str "__doc__" 364,.none⟩] 2),#[]⟩) ::
(nat_lit 145,⟨.type "type",none,(.cls ⟨"OtherFloor",[.ref 24],[.ref 145,.ref 24,.type "ValueError",.type "Exception",.type "BaseException",.type "object"],144, "OtherFloor",true,[],[],false,none,false⟩),#[some (.ref 136),none,some (.str "OtherFloor" 351),some (.str "OtherFloor" 359),some (.builtin "ValueError.__new__"),some (.bool true)]⟩) ::
(nat_lit 156,⟨.type "dict",none,(.dict #[⟨kh P "__module__",.str "__module__" 374,.str "quarterfold.errors" 187⟩,⟨kh P "__firstlineno__",.str "__firstlineno__" 378,.int 24 377⟩,⟨kh P "__static_attributes__",.str "__static_attributes__" 379,.ref 155⟩,⟨kh P "__doc__",.str "__doc__" 380,.none⟩] 2),#[]⟩) ::
(nat_lit 157,⟨.type "type",none,(.cls ⟨"NoTurn",[.ref 24],[.ref 157,.ref 24,.type "ValueError",.type "Exception",.type "BaseException",.type "object"],156, "NoTurn",true,[],[],false,none,false⟩),#[some (.ref 148),none,some (.str "NoTurn" 367),some (.str "NoTurn" 375),some (.builtin "ValueError.__new__"),some (.bool true)]⟩) ::
(nat_lit 168,⟨.type "dict",none,(.dict #[⟨kh P "__module__",.str "__module__" 390,.str "quarterfold.errors" 187⟩,⟨kh P "__firstlineno__",.str "__firstlineno__" 394,.int 26 393⟩,⟨kh P "__static_attributes__",.str "__static_attributes__" 395,.ref 167⟩,⟨kh P "__doc__",.str "__doc__" 396,.none⟩] 2),#[]⟩) ::
(nat_lit 169,⟨.type "type",none,(.cls ⟨"NoNumber",[.ref 24],[.ref 169,.ref 24,.type "ValueError",.type "Exception",.type "BaseException",.type "object"],168, "NoNumber",true,[],[],false,none,false⟩),#[some (.ref 160),none,some (.str "NoNumber" 383),some (.str "NoNumber" 391),some (.builtin "ValueError.__new__"),some (.bool true)]⟩) ::
(nat_lit 180,⟨.type "dict",none,(.dict #[⟨kh P "__module__",.str "__module__" 406,.str "quarterfold.errors" 187⟩,⟨kh P "__firstlineno__",.str "__firstlineno__" 410,.int 28 409⟩,⟨kh P "__static_attributes__",.str "__static_attributes__" 411,.ref 179⟩,⟨kh P "__doc__",.str "__doc__" 412,.none⟩] 2),#[]⟩) ::
(nat_lit 181,⟨.type "type",none,(.cls ⟨"NoSide",[.ref 24],[.ref 181,.ref 24,.type "ValueError",.type "Exception",.type "BaseException",.type "object"],180, "NoSide",true,[],[],false,none,false⟩),#[some (.ref 172),none,some (.str "NoSide" 399),some (.str "NoSide" 407),some (.builtin "ValueError.__new__"),some (.bool true)]⟩) ::
(nat_lit 192,⟨.type "dict",none,(.dict #[⟨kh P "__module__",.str "__module__" 422,.str "quarterfold.errors" 187⟩,⟨kh P "__firstlineno__",.str "__firstlineno__" 426,.int 30 425⟩,⟨kh P "__static_attributes__",.str "__static_attributes__" 427,.ref 191⟩,⟨kh P "__doc__",.str "__doc__" 428,.none⟩] 2),#[]⟩) ::
(nat_lit 193,⟨.type "type",none,(.cls ⟨"NotFull",[.ref 24],[.ref 193,.ref 24,.type "ValueError",.type "Exception",.type "BaseException",.type "object"],192, "NotFull",true,[],[],false,none,false⟩),#[some (.ref 184),none,some (.str "NotFull" 415),some (.str "NotFull" 423),some (.builtin "ValueError.__new__"),some (.bool true)]⟩) ::
(nat_lit 204,⟨.type "dict",none,(.dict #[⟨kh P "__module__",.str "__module__" 438,.str "quarterfold.errors" 187⟩,⟨kh P "__firstlineno__",.str "__firstlineno__" 442,.int 32 441⟩,⟨kh P "__static_attributes__",.str "__static_attributes__" 443,.ref 203⟩,⟨kh P "__doc__",.str "__doc__" 444,.none⟩] 2),#[]⟩) ::
(nat_lit 205,⟨.type "type",none,(.cls ⟨"NoWay",[.ref 24],[.ref 205,.ref 24,.type "ValueError",.type "Exception",.type "BaseException",.type "object"],204, "NoWay",true,[],[],false,none,false⟩),#[some (.ref 196),none,some (.str "NoWay" 431),some (.str "NoWay" 439),some (.builtin "ValueError.__new__"),some (.bool true)]⟩) ::
(nat_lit 216,⟨.type "dict",none,(.dict #[⟨kh P "__module__",.str "__module__" 454,.str "quarterfold.errors" 187⟩,⟨kh P "__firstlineno__",.str "__firstlineno__" 458,.int 34 457⟩,⟨kh P "__static_attributes__",.str "__static_attributes__" 459,.ref 215⟩,⟨kh P "__doc__",.str "__doc__" 460,.none⟩] 2),#[]⟩) ::
(nat_lit 217,⟨.type "type",none,(.cls ⟨"NoLoop",[.ref 24],[.ref 217,.ref 24,.type "ValueError",.type "Exception",.type "BaseException",.type "object"],216, "NoLoop",true,[],[],false,none,false⟩),#[some (.ref 208),none,some (.str "NoLoop" 447),some (.str "NoLoop" 455),some (.builtin "ValueError.__new__"),some (.bool true)]⟩) ::
(nat_lit 225,oC "is_whole" "is_whole" 471 472 473 40 1 220 221 (.ref 222) (.ref 223) 224 475 476) ::
(nat_lit 226,oF "is_whole" (Pr.top 22) (.str "quarterfold.rows" 463) 225) ::
(nat_lit 232,oC "is_plain" "is_plain" 478 479 480 42 1 227 228 (.ref 229) (.ref 230) 231 482 483) ::
(nat_lit 233,oF "is_plain" (Pr.top 23) (.str "quarterfold.rows" 463) 232) ::
(nat_lit 237,oC "depths_of" "depths_of" 485 486 487 44 1 234 235 .none .none 236 488 489) ::
(nat_lit 238,oF "depths_of" (Pr.top 24) (.str "quarterfold.rows" 463) 237) ::
(nat_lit 244,oC "end_rows" "end_rows" 491 492 493 49 3 239 240 (.ref 241) (.ref 242) 243 498 499) ::
(nat_lit 245,oF "end_rows" (Pr.top 25) (.str "quarterfold.rows" 463) 244) ::
(nat_lit 251,oC "places_as_ended" "places_as_ended" 501 502 503 55 2 246 247 (.ref 248) (.ref 249) 250 507 508) ::
(nat_lit 252,oF "places_as_ended" (Pr.top 26) (.str "quarterfold.rows" 463) 251) ::
(nat_lit 258,oC "is_size" "is_size" 514 515 516 61 1 253 254 (.ref 255) (.ref 256) 257 518 519) ::
(nat_lit 259,oF "is_size" (Pr.top 29) (.str "quarterfold.floors" 510) 258) ::
(nat_lit 265,oC "want_floor" "want_floor" 521 522 523 63 1 260 261 (.ref 262) (.ref 263) 264 525 526) ::
(nat_lit 266,oF "want_floor" (Pr.top 30) (.str "quarterfold.floors" 510) 265) ::
(nat_lit 272,oC "is_number" "is_number" 530 531 532 67 2 267 268 (.ref 269) (.ref 270) 271 535 536) ::
(nat_lit 273,oF "is_number" (Pr.top 32) (.str "quarterfold.tellings" 528) 272) ::
(nat_lit 277,oC "is_row" "is_row" 538 539 540 69 2 274 275 .none .none 276 541 542) ::
(nat_lit 278,oF "is_row" (Pr.top 33) (.str "quarterfold.tellings" 528) 277) ::
(nat_lit 282,oC "are_rows" "are_rows" 544 545 546 73 1 279 280 .none .none 281 547 548) ::
(nat_lit 283,oF "are_rows" (Pr.top 34) (.str "quarterfold.tellings" 528) 282) ::
(nat_lit 289,oC "is_telling" "is_telling" 550 551 552 75 1 284 285 (.ref 286) (.ref 287) 288 557 558) ::
(nat_lit 290,oF "is_telling" (Pr.top 35) (.str "quarterfold.tellings" 528) 289) ::
(nat_lit 294,oC "is_shape" "is_shape" 560 561 562 82 1 291 292 .none .none 293 563 564) ::
(nat_lit 295,oF "is_shape" (Pr.top 36) (.str "quarterfold.tellings" 528) 294) ::
(nat_lit 301,oC "want_shape" "want_shape" 566 567 568 89 1 296 297 (.ref 298) (.ref 299) 300 570 571) ::
(nat_lit 302,oF "want_shape" (Pr.top 37) (.str "quarterfold.tellings" 528) 301) ::
(nat_lit 308,oC "empty" "empty" 573 574 575 92 1 303 304 (.ref 305) (.ref 306) 307 577 578) ::
(nat_lit 309,oF "empty" (Pr.top 38) (.str "quarterfold.tellings" 528) 308) ::
(nat_lit 315,oC "full" "full" 580 581 582 95 1 310 311 (.ref 312) (.ref 313) 314 584 585) ::
(nat_lit 316,oF "full" (Pr.top 39) (.str "quarterfold.tellings" 528) 315) ::
(nat_lit 320,oC "line_of" "line_of" 589 590 591 99 1 317 318 .none .none 319 592 593) ::
(nat_lit 321,oF "line_of" (Pr.top 41) (.str "quarterfold.shapetexts" 587) 320) ::
(nat_lit 325,oC "shape_text" "shape_text" 595 596 597 101 1 322 323 .none .none 324 598 599) ::
(nat_lit 326,oF "shape_text" (Pr.top 42) (.str "quarterfold.shapetexts" 587) 325) ::
(nat_lit 332,oC "_law_pot" "_law_pot" 603 604 605 106 2 327 328 (.ref 329) (.ref 330) 331 609 610) ::
(nat_lit 333,oF "_law_pot" (Pr.top 44) (.str "law_quarterfold_k16_what_is_refused" 601) 332) ::
(nat_lit 339,oC "_law_digit" "_law_digit" 612 613 614 111 2 334 335 (.ref 336) (.ref 337) 338 618 619) ::
(nat_lit 340,oF "_law_digit" (Pr.top 45) (.str "law_quarterfold_k16_what_is_refused" 601) 339) ::
(nat_lit 344,oC "_law_cells" "_law_cells" 621 622 623 118 2 341 342 .none .none 343 624 625) ::
(nat_lit 345,oF "_law_cells" (Pr.top 46) (.str "law_quarterfold_k16_what_is_refused" 601) 344) ::
(nat_lit 351,oC "_law_box" "_law_box" 627 628 629 121 3 346 347 (.ref 348) (.ref 349) 350 639 640) ::
(nat_lit 352,oF "_law_box" (Pr.top 47) (.str "law_quarterfold_k16_what_is_refused" 601) 351) ::
(nat_lit 356,oC "_law_boxes" "_law_boxes" 642 643 644 133 2 353 354 .none .none 355 645 646) ::
(nat_lit 357,oF "_law_boxes" (Pr.top 48) (.str "law_quarterfold_k16_what_is_refused" 601) 356) ::
(nat_lit 363,oC "_law_meets" "_law_meets" 648 649 650 137 4 358 359 (.ref 360) (.ref 361) 362 655 656) ::
(nat_lit 364,oF "_law_meets" (Pr.top 49) (.str "law_quarterfold_k16_what_is_refused" 601) 363) ::
(nat_lit 370,oC "_law_has" "_law_has" 658 659 660 141 4 365 366 (.ref 367) (.ref 368) 369 665 666) ::
(nat_lit 371,oF "_law_has" (Pr.top 50) (.str "law_quarterfold_k16_what_is_refused" 601) 370) ::
(nat_lit 375,oC "_law_number" "_law_number" 668 669 670 145 5 372 373 .none .none 374 671 672) ::
(nat_lit 376,oF "_law_number" (Pr.top 51) (.str "law_quarterfold_k16_what_is_refused" 601) 375) ::
(nat_lit 382,oC "_law_shape" "_law_shape" 674 675 676 156 2 377 378 (.ref 379) (.ref 380) 381 681 682) ::
(nat_lit 383,oF "_law_shape" (Pr.top 52) (.str "law_quarterfold_k16_what_is_refused" 601) 382) ::
(nat_lit 387,oC "_law_kinds" "_law_kinds" 684 685 686 160 1 384 385 .none .none 386 687 688) ::
(nat_lit 388,oF "_law_kinds" (Pr.top 53) (.str "law_quarterfold_k16_what_is_refused" 601) 387) ::
(nat_lit 394,oC "_law_asked" "_law_asked" 690 691 692 167 2 389 390 (.ref 391) (.ref 392) 393 697 698) ::
(nat_lit 395,oF "_law_asked" (Pr.top 54) (.str "law_quarterfold_k16_what_is_refused" 601) 394) ::
(nat_lit 399,oC "_law_made" "_law_made" 700 701 702 179 0 396 397 .none .none 398 703 704) ::
(nat_lit 400,oF "_law_made" (Pr.top 55) (.str "law_quarterfold_k16_what_is_refused" 601) 399) ::
(nat_lit 406,oC "_law_odd" "_law_odd" 706 707 708 184 0 401 402 (.ref 403) (.ref 404) 405 709 710) ::
(nat_lit 407,oF "_law_odd" (Pr.top 56) (.str "law_quarterfold_k16_what_is_refused" 601) 406) ::
(nat_lit 413,oC "_law_odd_sizes" "_law_odd_sizes" 712 713 714 186 0 408 409 (.ref 410) (.ref 411) 412 715 716) ::
(nat_lit 414,oF "_law_odd_sizes" (Pr.top 57) (.str "law_quarterfold_k16_what_is_refused" 601) 413) ::
(nat_lit 420,oC "_law_no_shapes" "_law_no_shapes" 718 719 720 188 1 415 416 (.ref 417) (.ref 418) 419 726 727) ::
(nat_lit 421,oF "_law_no_shapes" (Pr.top 58) (.str "law_quarterfold_k16_what_is_refused" 601) 420) ::
(nat_lit 425,oC "law" "law" 729 730 731 197 1 422 423 .none .none 424 732 733) ::
(nat_lit 426,oF "law" (Pr.top 59) (.str "law_quarterfold_k16_what_is_refused" 601) 425)::[]
def as0:List Addr:=[2,3,23,24,25,36,37,48,49,60,61,72,73,84,85,96,97,108,109,120,121,132,133,144,145,156,157,168,169,180,181,192,193,204,205,216,217,225,226,232,233,237,238,244,245,251,252,258,259,265,266,272,273,277,278,282,283,289,290,294,295,301,302,308,309,315,316,320,321,325,326,332,333,339,340,344,345,351,352,356,357,363,364,370,371,375,376,382,383,387,388,394,395,399,400,406,407,413,414,420,421,425,426]
def keep0:List Nat:=[1,2,3,4,5,6,7,8,9,10,11,12,13,14,15,16,17,19,20,21,22,23,24,25,26,28,29,30,32,33,34,35,36,37,38,39,41,42,44,45,46,47,48,49,50,51,52,53,54,55,56,57,58,59]
def N0:Nat:=9406
noncomputable def bx (P:Params) (a t l:Nat) (x:Str):List Obj:=[⟨.type "tuple",none,(.seq #[.ref 24] 0),#[]⟩,
⟨.type "builtin_function_or_method",none,(.fields #[.builtin "type.__prepare__",.type "type"]),#[]⟩,
⟨.type "dict",none,(.dict #[⟨kh P "__module__",.str "__module__" (t+7),.str "quarterfold.errors" 187⟩,⟨kh P "__qualname__",.str "__qualname__" (t+9),.str x (t+8)⟩,⟨kh P "__firstlineno__",.str "__firstlineno__" (t+11),.int l (t+10)⟩,⟨kh P "__static_attributes__",.str "__static_attributes__" (t+12),.ref (a+7)⟩] 4),#[]⟩,
⟨.type "tuple",none,(.seq #[] 0),#[]⟩,
⟨.none,none,(.fields #[]),#[]⟩,
⟨.type "code",none,(.fields #[.str x (t+2),.str x (t+3),.str "/claim/cut.py" (t+4),.int l 0,.int 0 0,.int 0 0,.int 0 0,.int 0 0,.ref (a+3),.bool false,.int 181 0,.ref (a+4),.none,.none,.none,.none,.int (t+5) 0,.int l 0,.str "/claim/cut.py" (t+6)]),#[]⟩,
⟨.type "frame",none,.plain,#[some (.ref (a+5)),some (.ref 3),some (.ref (a+2)),none,some (.str "quarterfold.errors" 187),none,some (.ref 0)]⟩,
⟨.type "tuple",none,(.seq #[] 0),#[]⟩,
⟨.type "dict",none,(.dict #[⟨kh P "__module__",.str "__module__" (t+7),.str "quarterfold.errors" 187⟩,⟨kh P "__firstlineno__",.str "__firstlineno__" (t+11),.int l (t+10)⟩,⟨kh P "__static_attributes__",.str "__static_attributes__" (t+12),.ref (a+7)⟩,⟨kh P "__doc__",.str "__doc__" (t+13),.none⟩] 2),#[]⟩,
⟨.type "type",none,(.cls ⟨x,[.ref 24],[.ref (a+9),.ref 24,.type "ValueError",.type "Exception",.type "BaseException",.type "object"],(a+8),x,true,[],[],false,none,false⟩),#[some (.ref a),none,some (.str x t),some (.str x (t+8)),some (.builtin "ValueError.__new__"),some (.bool true)]⟩,
⟨.type "super",none,(.fields #[.ref (a+9),.ref (a+9),.ref (a+9)]),#[]⟩,
⟨.type "builtin_function_or_method",none,(.fields #[.builtin "object.__init_subclass__",.ref (a+9)]),#[]⟩]
noncomputable def ob (P:Params):List Obj:=[boot_o_0 P,boot_o_1 P,boot_o_2 P,⟨.type "dict",none,(.dict #[⟨kh P "__name__",.str "__name__" 165,.str "quarterfold.errors" 187⟩,⟨kh P "__doc__",.str "__doc__" 166,.none⟩,⟨kh P "__package__",.str "__package__" 167,.none⟩,⟨kh P "__loader__",.str "__loader__" 168,.builtin "__main__.__loader__#opaque"⟩,⟨kh P "__spec__",.str "__spec__" 169,.none⟩,⟨kh P "__annotations__",.str "__annotations__" 170,.ref 6⟩,⟨kh P "__builtins__",.str "__builtins__" 171,.ref 4⟩,⟨kh P "__file__",.str "__file__" 173,.str "/claim/cut.py" 172⟩,⟨kh P "__cached__",.str "__cached__" 174,.none⟩,⟨kh P "FloorError",.str "FloorError" 206,.ref 24⟩,⟨kh P "NoFloor",.str "NoFloor" 222,.ref 37⟩,⟨kh P "NoAddress",.str "NoAddress" 238,.ref 49⟩,⟨kh P "NoCell",.str "NoCell" 254,.ref 61⟩,⟨kh P "NoShape",.str "NoShape" 270,.ref 73⟩,⟨kh P "NoTelling",.str "NoTelling" 286,.ref 85⟩,⟨kh P "NoText",.str "NoText" 302,.ref 97⟩,⟨kh P "NoStep",.str "NoStep" 318,.ref 109⟩,⟨kh P "NoBox",.str "NoBox" 334,.ref 121⟩,⟨kh P "TooMany",.str "TooMany" 350,.ref 133⟩,⟨kh P "OtherFloor",.str "OtherFloor" 366,.ref 145⟩,⟨kh P "NoTurn",.str "NoTurn" 382,.ref 157⟩,⟨kh P "NoNumber",.str "NoNumber" 398,.ref 169⟩,⟨kh P "NoSide",.str "NoSide" 414,.ref 181⟩,⟨kh P "NotFull",.str "NotFull" 430,.ref 193⟩,⟨kh P "NoWay",.str "NoWay" 446,.ref 205⟩,⟨kh P "NoLoop",.str "NoLoop" 462,.ref 217⟩] 26),#[]⟩,boot_o_4 P,boot_o_5 P,boot_o_6 P,boot_o_7 P,boot_o_8 P,boot_o_9 P,boot_o_10 P,⟨.type "tuple",none,(.seq #[] 0),#[]⟩,⟨.none,none,(.fields #[.int 2 0,.int 0 0,.ref 20,.int 4 0,.int 0 0,.ref 33,.int 6 0,.int 0 0,.ref 45,.int 8 0,.int 0 0,.ref 57,.int 10 0,.int 0 0,.ref 69,.int 12 0,.int 0 0,.ref 81,.int 14 0,.int 0 0,.ref 93,.int 16 0,.int 0 0,.ref 105,.int 18 0,.int 0 0,.ref 117,.int 20 0,.int 0 0,.ref 129,.int 22 0,.int 0 0,.ref 141,.int 24 0,.int 0 0,.ref 153,.int 26 0,.int 0 0,.ref 165,.int 28 0,.int 0 0,.ref 177,.int 30 0,.int 0 0,.ref 189,.int 32 0,.int 0 0,.ref 201,.int 34 0,.int 0 0,.ref 213]),#[]⟩,⟨.type "code",none,(.fields #[.str "<module>" 182,.str "<module>" 183,.str "/claim/cut.py" 184,.int 1 0,.int 0 0,.int 0 0,.int 0 0,.int 0 0,.ref 11,.bool false,.int 181 0,.ref 12,.none,.none,.none,.none,.int 185 0,.int 1 0,.str "/claim/cut.py" 186]),#[]⟩,⟨.type "frame",none,.plain,#[some (.ref 13),some (.ref 3),some (.ref 3),none,some (.str "__main__" 164),none,some (.ref 0)]⟩,⟨.type "tuple",none,(.seq #[.type "ValueError"] 0),#[]⟩,⟨.type "builtin_function_or_method",none,(.fields #[.builtin "type.__prepare__",.type "type"]),#[]⟩,⟨.type "dict",none,(.dict #[⟨kh P "__module__",.str "__module__" 196,.str "quarterfold.errors" 187⟩,⟨kh P "__qualname__",.str "__qualname__" 198,.str "FloorError" 197⟩,⟨kh P "__firstlineno__",.str "__firstlineno__" 200,.int 2 199⟩,⟨kh P "__static_attributes__",.str "__static_attributes__" 201,.ref 22⟩] 4),#[]⟩,⟨.type "tuple",none,(.seq #[] 0),#[]⟩,⟨.none,none,(.fields #[]),#[]⟩,⟨.type "code",none,(.fields #[.str "FloorError" 191,.str "FloorError" 192,.str "/claim/cut.py" 193,.int 2 0,.int 0 0,.int 0 0,.int 0 0,.int 0 0,.ref 18,.bool false,.int 181 0,.ref 19,.none,.none,.none,.none,.int 194 0,.int 2 0,.str "/claim/cut.py" 195]),#[]⟩,⟨.type "frame",none,.plain,#[some (.ref 20),some (.ref 3),some (.ref 17),none,some (.str "quarterfold.errors" 187),none,some (.ref 0)]⟩,⟨.type "tuple",none,(.seq #[] 0),#[]⟩,⟨.type "dict",none,(.dict #[⟨kh P "__module__",.str "__module__" 196,.str "quarterfold.errors" 187⟩,⟨kh P "__firstlineno__",.str "__firstlineno__" 200,.int 2 199⟩,⟨kh P "__static_attributes__",.str "__static_attributes__" 201,.ref 22⟩,⟨kh P "__weakref__",.str "__weakref__" 203,.ref 25⟩,⟨kh P "__doc__",.str "__doc__" 204,.none⟩] 3),#[]⟩,⟨.type "type",none,(.cls ⟨"FloorError",[.type "ValueError"],[.ref 24,.type "ValueError",.type "Exception",.type "BaseException",.type "object"],23, "FloorError",true,[],[.ref 37,.ref 49,.ref 61,.ref 73,.ref 85,.ref 97,.ref 109,.ref 121,.ref 133,.ref 145,.ref 157,.ref 169,.ref 181,.ref 193,.ref 205,.ref 217],false,none,false⟩),#[some (.ref 15),none,some (.str "FloorError" 189),some (.str "FloorError" 197),some (.builtin "ValueError.__new__"),some (.bool true)]⟩,⟨.type "getset_descriptor",none,(.fields #[.str "__weakref__" 202,.ref 24,.builtin "ExceptionGroup.__weakref__",.none]),#[]⟩,⟨.type "super",none,(.fields #[.ref 24,.ref 24,.ref 24]),#[]⟩,⟨.type "builtin_function_or_method",none,(.fields #[.builtin "object.__init_subclass__",.ref 24]),#[]⟩]++(bx P 28 207 4 "NoFloor" ++ (bx P 40 223 6 "NoAddress" ++ (bx P 52 239 8 "NoCell" ++ (bx P 64 255 10 "NoShape" ++ (bx P 76 271 12 "NoTelling" ++ (bx P 88 287 14 "NoText" ++ (bx P 100 303 16 "NoStep" ++ (bx P 112 319 18 "NoBox" ++ (bx P 124 335 20 "TooMany" ++ (bx P 136 351 22 "OtherFloor" ++ (bx P 148 367 24 "NoTurn" ++ (bx P 160 383 26 "NoNumber" ++ (bx P 172 399 28 "NoSide" ++ (bx P 184 415 30 "NotFull" ++ (bx P 196 431 32 "NoWay" ++ (bx P 208 447 34 "NoLoop"))))))))))))))))
noncomputable def hA (P:Params):Heap:=⟨⟨((((ob P).take 15).set 3 (boot_o_3 P)).set 12 (⟨.none,none,(.fields #[]),#[]⟩))⟩,(boot_heap P).life⟩
noncomputable def h1 (P:Params):Heap:=⟨⟨(((((ob P).take 112).set 3 (⟨.type "dict",none,(.dict #[⟨kh P "__name__",.str "__name__" 165,.str "quarterfold.errors" 187⟩,⟨kh P "__doc__",.str "__doc__" 166,.none⟩,⟨kh P "__package__",.str "__package__" 167,.none⟩,⟨kh P "__loader__",.str "__loader__" 168,.builtin "__main__.__loader__#opaque"⟩,⟨kh P "__spec__",.str "__spec__" 169,.none⟩,⟨kh P "__annotations__",.str "__annotations__" 170,.ref 6⟩,⟨kh P "__builtins__",.str "__builtins__" 171,.ref 4⟩,⟨kh P "__file__",.str "__file__" 173,.str "/claim/cut.py" 172⟩,⟨kh P "__cached__",.str "__cached__" 174,.none⟩,⟨kh P "FloorError",.str "FloorError" 206,.ref 24⟩,⟨kh P "NoFloor",.str "NoFloor" 222,.ref 37⟩,⟨kh P "NoAddress",.str "NoAddress" 238,.ref 49⟩,⟨kh P "NoCell",.str "NoCell" 254,.ref 61⟩,⟨kh P "NoShape",.str "NoShape" 270,.ref 73⟩,⟨kh P "NoTelling",.str "NoTelling" 286,.ref 85⟩,⟨kh P "NoText",.str "NoText" 302,.ref 97⟩,⟨kh P "NoStep",.str "NoStep" 318,.ref 109⟩] 17),#[]⟩)).set 12 (⟨.none,none,(.fields #[.int 2 0,.int 0 0,.ref 20,.int 4 0,.int 0 0,.ref 33,.int 6 0,.int 0 0,.ref 45,.int 8 0,.int 0 0,.ref 57,.int 10 0,.int 0 0,.ref 69,.int 12 0,.int 0 0,.ref 81,.int 14 0,.int 0 0,.ref 93,.int 16 0,.int 0 0,.ref 105]),#[]⟩)).set 24 (⟨.type "type",none,(.cls ⟨"FloorError",[.type "ValueError"],[.ref 24,.type "ValueError",.type "Exception",.type "BaseException",.type "object"],23, "FloorError",true,[],[.ref 37,.ref 49,.ref 61,.ref 73,.ref 85,.ref 97,.ref 109],false,none,false⟩),#[some (.ref 15),none,some (.str "FloorError" 189),some (.str "FloorError" 197),some (.builtin "ValueError.__new__"),some (.bool true)]⟩))⟩,(boot_heap P).life⟩
noncomputable def h2 (P:Params):Heap:=⟨⟨(ob P)⟩,(boot_heap P).life⟩
noncomputable def bd:List Stmt:=behindTheImports pw
noncomputable def ev:Env:={ scope:=pw.main.scope,locals:=mainNs,globals:=mainNs,cells:=[],code:=.ref 13,frame:=some 14 }
noncomputable def cE:Code:=.body bd ev
noncomputable abbrev sh (h:Params->Heap) (k:Nat) (w:World) (os:OsState):Shared:=⟨h w.params,Array.mk [],boot_drawn,k,os⟩
noncomputable abbrev fr:List Frame:=[topFrame ⟨0,0,0,0⟩]
theorem pre0 (w:World) (os:OsState):topGo treeTable pw w 11 (some (.ref 6)) 12 (sh boot_heap boot_toks w os) (topStub pw)=some (sh hA 187 w os,⟨denote treeTable cE,cE,⟨0,0,0,0⟩,fr⟩):=by kernel_rfl
theorem blk0 (w:World) (os:OsState):segRun treeTable pw w 11 (some (.ref 6)) 1 1 (sh hA 187 w os) (blockOf bd ev cE ⟨0,0,0,0⟩ fr)=some (.next,sh hA 187 w os,cE,⟨0,0,0,0⟩):=by kernel_rfl
theorem piece_split {tb:String->Option Builtin}{p:Program}{w:World}{n₀:Nat}{ann:Option Value}{env:Env}{q:Pos}{n N j:Nat}{s s' r:Shared}{l:List Stmt}{c:Code}{pos p':Pos}(h:segRun tb p w n₀ ann 1 n s (piecesOf (l.take j) env c pos [topFrame q])=some (.next,s',c,p'))
  (k:topRun tb p w n₀ ann N s' (restOf (l.drop j) env c p' [topFrame q])=some r):topRun tb p w n₀ ann (n+N) s (restOf l env c pos [topFrame q])=some r:=by
 have:=piece_app (l:=l.take j) (rest:=l.drop j) h k
 rwa [List.take_append_drop] at this
theorem left_mid {p q:Program}{loose:List Str}{Xt:Shared->Bool}{α:Type}{Yf:Shared->α}{Ya:World->α}{N:Nat}{g0:Bool}{H₀:Params->Heap}{gs₀:Array GenState}{d₀:Drawn}{k₀ m₀ M N2:Nat}{ann:Option Value}{Z:World->OsState->Shared}{T:Thread}
  (open_:∀w:World,(fencedOpening treeTable p w N).map (λs=>(s.heap,s.gens,s.drawn,s.toks))=some (H₀ w.params,gs₀,d₀,k₀))
  (size:∀w:World,((H₀ w.params).isNs mainGlobals&&gs₀.size==0,(H₀ w.params).objs.size,(H₀ w.params).nsMap mainGlobals "__annotations__")=(true,m₀,ann))
  (run:∀(w:World) (os:OsState) (r:Shared),topRun treeTable p w m₀ ann N2 (Z w os) T=some r->topRun treeTable p w m₀ ann M ⟨H₀ w.params,gs₀,d₀,k₀,os⟩ (topStub p)=some r) (le:Nat.ble M N=true)
  (fin:∀(w:World) (os:OsState),(topRun treeTable p w m₀ ann N2 (Z w os) T).map (λs=>(staticsOk (importedModules p.main.body) (H₀ w.params) s.heap&&namesBound p s.heap&&gensDone s&&laidKept (H₀ w.params) s.heap,openSeen q loose (importedModules p.main.body) Xt g0 s,Yf s))=some (true,openGood q loose,Ya w)):LeftO p q loose Xt Yf Ya N g0:=λw=>by
 obtain⟨⟨h,gs,d,k,os⟩,e,e'⟩:=Option.map_eq_some_iff.mp (open_ w)
 obtain⟨rfl,rfl,rfl,rfl⟩:h=H₀ w.params/\gs=gs₀/\d=d₀/\k=k₀:=by simpa using e'
 obtain⟨z1,z2,z3⟩:_/\_/\_:=by simpa only [Prod.mk.injEq] using size w
 obtain⟨r,hr,e2⟩:=Option.map_eq_some_iff.mp (fin w os)
 obtain⟨l1,l2,l3⟩:_/\_/\_:=by simpa only [Prod.mk.injEq] using e2
 have r1:=topRun_mono (N-M) _ _ _ _ (run w os r hr)
 rw[show M+(N-M)=N by have:=Nat.le_of_ble_eq_true le;lia] at r1
 have t:topFrom treeTable p w N ⟨H₀ w.params,gs,d,k,os⟩=some r:=by
  unfold topFrom
  dsimp only
  rw[z1,z2,z3,r1]
  show (match staticsOk (importedModules p.main.body) (H₀ w.params) r.heap&&namesBound p r.heap&&gensDone r&&laidKept (H₀ w.params) r.heap with|true=>_|false=>_)=_
  rw[l1]
 unfold openEnds
 rw[e]
 show (topFrom treeTable p w N ⟨H₀ w.params,gs,d,k,os⟩).map _=_
 rw[t]
 show some (_,_)=some (_,_)
 rw[l2,l3]
theorem seg1 (w:World) (os:OsState):segRun treeTable pw w 11 (some (.ref 6)) 1 1736 (sh hA 187 w os) (piecesOf (bd.take 9) ev cE ⟨0,0,0,0⟩ fr)=some (.next,sh h1 319 w os,cE,⟨16,0,17,8⟩):=by kernel_rfl
theorem seg2 (w:World) (os:OsState):segRun treeTable pw w 11 (some (.ref 6)) 1 1967 (sh h1 319 w os) (piecesOf ((bd.drop 9).take 9) ev cE ⟨16,0,17,8⟩ fr)=some (.next,sh h2 463 w os,cE,⟨34,0,35,8⟩):=by kernel_rfl
theorem run0 (w:World) (os:OsState) (r:Shared) (h:topRun treeTable pw w 11 (some (.ref 6)) 1098 (sh h2 463 w os) (restOf ((bd.drop 9).drop 9) ev cE ⟨34,0,35,8⟩ fr)=some r):topRun treeTable pw w 11 (some (.ref 6)) (12+(1+(1736+(1967+1098)))) (sh boot_heap boot_toks w os) (topStub pw)=some r:=go_top (pre0 w os) (piece_block (blk0 w os) (piece_split (seg1 w os) (piece_split (seg2 w os) h)))
theorem opn0:opening pw=plainProg pw.main.scope.names:=by kernel_rfl
theorem fen0 (s:Shared):fenceModules? pw s=some s:=by kernel_rfl
def q0:Program:={ pw with main:={ pw.main with body:=keep0.map Pr.top } }
theorem as_K:∀P,as0=(K0 P).map (·.1):=λ_=>by kernel_rfl
abbrev X0:Shared->Bool:=λs=>xlAt q0 [] s&&recOk (RowW.records (OpenRow.toRowW (OpenLaw.row PySem.Challenge.rw_quarterfold_k16_what_is_refused))) s
set_option maxHeartbeats 0 in
theorem fin0 (w:World) (os:OsState):(topRun treeTable pw w 11 (some (.ref 6)) 1098 (sh h2 463 w os) (restOf ((bd.drop 9).drop 9) ev cE ⟨34,0,35,8⟩ fr)).map (λs=>(staticsOk (importedModules pw.main.body) (boot_heap w.params) s.heap&&namesBound pw s.heap&&gensDone s&&laidKept (boot_heap w.params) s.heap,openSeen q0 [] (importedModules pw.main.body) X0 true s,Hook.obs (kHook Hd.K0 Hd.as0 Hd.as_K) s))=some (true,openGood q0 [],Hook.val (kHook Hd.K0 Hd.as0 Hd.as_K) w):=by kernel_rfl
theorem left0:LeftO pw q0 [] X0 (Hook.obs (kHook Hd.K0 Hd.as0 Hd.as_K)) (Hook.val (kHook Hd.K0 Hd.as0 Hd.as_K)) N0:=left_mid (boot_open opn0 rfl fen0) (λw=>by kernel_rfl) run0 (by rfl) fin0
end Hd
namespace L2
open PySem PySem.Spec PyProof.Rows
abbrev Key:=Sum Int Str
def keyIs:Key->Value->Bool
 |.inl k,v=>Value.isInt k v
 |.inr x,v=>Value.isStrOf x v
def keyH (w:World):Key->Int
 |.inl k=>hashInt k
 |.inr x=>hashStr w x
theorem keyIs_shape:∀{k:Key}{v:Value},keyIs k v=true->(∃i t,k=Sum.inl i/\v=Value.int i t)\/(∃x t,k=Sum.inr x/\v=Value.str x t)
 |.inl i,v,h=>by
  obtain⟨t,e⟩:=Value.isInt_shape (k:=i) (v:=v) h
  exact .inl ⟨i,t,rfl,e⟩
 |.inr x,v,h=>by
  obtain⟨t,e⟩:=Value.isStrOf_shape (x:=x) (v:=v) h
  exact .inr ⟨x,t,rfl,e⟩
theorem keyIs_int (i:Int) (t:Tok):keyIs (.inl i) (.int i t)=true:=by simp[keyIs,Value.isInt]
theorem keyIs_str (x:Str) (t:Tok):keyIs (.inr x) (.str x t)=true:=by simp[keyIs,Value.isStrOf]
theorem key_ll (a b:Int):decide ((Sum.inl a:Key)=Sum.inl b)=(a==b):=by
 by_cases e:a=b
 ·subst e;simp
 ·have h:¬(Sum.inl a:Key)=Sum.inl b:=λq=>e (Sum.inl.inj q)
  rw[decide_eq_false h]
  exact (beq_eq_false_iff_ne.mpr e).symm
theorem key_rr (a b:Str):decide ((Sum.inr a:Key)=Sum.inr b)=decide (a=b):=by
 by_cases e:a=b
 ·subst e;simp
 ·have h:¬(Sum.inr a:Key)=Sum.inr b:=λq=>e (Sum.inr.inj q)
  rw[decide_eq_false h,decide_eq_false e]
theorem key_lr (a:Int) (b:Str):decide ((Sum.inl a:Key)=Sum.inr b)=false:=decide_eq_false (λq=>nomatch q)
theorem key_rl (a:Str) (b:Int):decide ((Sum.inr a:Key)=Sum.inl b)=false:=decide_eq_false (λq=>nomatch q)
def mixKind (prog:Program) (w:World):PySem.KeyKind prog w Key where
 is:=keyIs
 hash:=keyH w
 inj:=λv a b ha hb=>by
  rcases keyIs_shape ha with ⟨i,t,rfl,rfl⟩|⟨x,t,rfl,rfl⟩
  ·rcases keyIs_shape hb with ⟨j,u,rfl,e⟩|⟨y,u,rfl,e⟩
   ·injection e with e1 _;rw[e1]
   ·exact nomatch e
  ·rcases keyIs_shape hb with ⟨j,u,rfl,e⟩|⟨y,u,rfl,e⟩
   ·exact nomatch e
   ·injection e with e1 _;rw[e1]
 byValue:=λk v h=>by
  rcases keyIs_shape h with ⟨i,t,rfl,rfl⟩|⟨x,t,rfl,rfl⟩<;>rfl
 pyHash:=λhv h=>by
  rcases keyIs_shape hv with ⟨i,t,rfl,rfl⟩|⟨x,t,rfl,rfl⟩
  ·exact wpAny_pyHash_int h
  ·exact wpAny_pyHash_str h
 eqBool:=λhu hv h=>by
  rcases keyIs_shape hu with ⟨i,t,rfl,rfl⟩|⟨x,t,rfl,rfl⟩
  ·rcases keyIs_shape hv with ⟨j,u,rfl,rfl⟩|⟨y,u,rfl,rfl⟩
   ·rw[key_ll] at h;exact wpAny_eqBool_int h
   ·rw[key_lr] at h;exact SeqAt.EqAt.int_str i t y u _ _ _ _ h
  ·rcases keyIs_shape hv with ⟨j,u,rfl,rfl⟩|⟨y,u,rfl,rfl⟩
   ·rw[key_rl] at h;exact SeqAt.EqAt.str_int x t j u _ _ _ _ h
   ·rw[key_rr] at h;exact wpAny_eqBool_str h
 «strs»:=λk x t v h=>by
  rcases keyIs_shape h with ⟨i,u,rfl,e⟩|⟨y,u,rfl,e⟩
  ·exact nomatch e
  ·injection e with e1 _
   subst e1
   cases v<;>rfl
theorem mixKind_int (prog:Program) (w:World) (i:Int) (t:Tok):(mixKind prog w).is (.inl i) (.int i t)=true:=keyIs_int i t
theorem mixKind_str (prog:Program) (w:World) (x:Str) (t:Tok):(mixKind prog w).is (.inr x) (.str x t)=true:=keyIs_str x t
end L2
namespace L2
open PySem PySem.Spec PyProof.Rows
inductive V where
 |non|bl (b:Bool)|int (i:Int)|str (x:Str)|byt (b:Array UInt8)|flt (b:UInt64)|ref (a:Addr)|ty (n:String)
 deriving DecidableEq
def RelV:V->Value->Prop
 |.non,u=>u=Value.none
 |.bl b,u=>u=Value.bool b
 |.int i,u=>∃t,u=Value.int i t
 |.str x,u=>∃t,u=Value.str x t
 |.byt b,u=>∃t,u=Value.bytes b t
 |.flt b,u=>∃t,u=Value.float b t
 |.ref a,u=>u=Value.ref a
 |.ty n,u=>u=Value.type n
abbrev Vals:List V->List Value->Prop:=Paired RelV
theorem Vals.length {xs:List V}{us:List Value}(r:Vals xs us):xs.length=us.length:=Paired.length r
theorem Vals.get:∀{xs:List V}{us:List Value}{i:Nat}{x:V},Vals xs us->xs[i]?=some x->∃u,us[i]?=some u/\RelV x u
 |_,_,_,_,.nil,e=>by simp at e
 |_,_,0,_,.cons r _,e=>by simp at e;subst e;exact⟨_,rfl,r⟩
 |_,_,i+1,x,.cons _ t,e=>by
  obtain⟨u,h1,h2⟩:=Vals.get (i:=i) (x:=x) t (by simpa using e)
  exact⟨u,by simpa using h1,h2⟩
theorem Vals.set {x:V}{u:Value}(r:RelV x u):∀{xs:List V}{us:List Value}(i:Nat),Vals xs us->Vals (xs.set i x) (us.set i u)
 |_,_,_,.nil=>.nil
 |_,_,0,.cons _ t=>.cons r t
 |_,_,i+1,.cons q t=>.cons q (Vals.set r i t)
theorem Vals.append:∀{xs ys:List V}{us ws:List Value},Vals xs us->Vals ys ws->Vals (xs++ys) (us++ws)
 |_,_,_,_,.nil,s=>s
 |_,_,_,_,.cons r t,s=>.cons r (Vals.append t s)
theorem Vals.take:∀{xs:List V}{us:List Value}(n:Nat),Vals xs us->Vals (xs.take n) (us.take n)
 |_,_,0,_=>.nil
 |_,_,_+1,.nil=>.nil
 |_,_,n+1,.cons r t=>.cons r (Vals.take n t)
theorem Vals.drop:∀{xs:List V}{us:List Value}(n:Nat),Vals xs us->Vals (xs.drop n) (us.drop n)
 |_,_,0,r=>r
 |_,_,_+1,.nil=>.nil
 |_,_,n+1,.cons _ t=>Vals.drop n t
theorem Vals.none_of:∀{xs:List V}{us:List Value}{i:Nat},Vals xs us->xs[i]?=none->us[i]?=none:=λ{xs us i} r e=>by
 have h1:=r.length
 have h2:xs.length<=i:=List.getElem?_eq_none_iff.mp e
 exact List.getElem?_eq_none_iff.mpr (by lia)
def RelO:Option V->Option Value->Prop
 |some v,some u=>RelV v u
 |none,none=>True
 |_,_=>False
def KV {κ:Type}:List (κ×V)->List (κ×Value)->Prop:=Paired λ(p:κ×V) (q:κ×Value)=>p.1=q.1/\RelV p.2 q.2
def kV:Key->V
 |.inl i=>.int i
 |.inr x=>.str x
inductive HO where
 |lst (xs:List V)
 |tup (xs:List V)
 |dK (kvs:List (Key×V))|dT (kvs:List (List Key×V))
 |set (S:Int->Bool) (n:Nat)
 |ins (C dx:Addr) (fs:List (Str×V))
 |own (x:Addr)
 |xd (fs:List (Str×V))
 |met (f x:Addr)
 |rng (lo hi:Int)
 |frz (o:Obj) (u:HO)
 |tbl (ps:Array Value)
 |ext (φ:Heap->Prop)
abbrev Hp:=Addr->Option HO
def upd (H:Hp) (a:Addr) (o:HO):Hp:=λb=>if b=a then some o else H b
theorem upd_same {H:Hp}{a:Addr}{o:HO}:upd H a o a=some o:=by unfold upd;rw[if_pos rfl]
theorem upd_ne {H:Hp}{a b:Addr}{o:HO}(h:b≠a):upd H a o b=H b:=by unfold upd;rw[if_neg h]
theorem ne_of {H:Hp}{a b:Addr}{o u:HO}(h:H a=some o) (h':H b=some u) (d:o≠u):a≠b:=by
 intro e;subst e;rw[h] at h';exact d (Option.some.inj h')
theorem ne_of_none {H:Hp}{a b:Addr}{o:HO}(h:H a=some o) (h':H b=none):a≠b:=by
 intro e;subst e;rw[h] at h';cases h'
def IsTupX (h:Heap) (a:Addr) (items:Array Value):Prop:=∃o,h.get? a=some o/\o.cls=.type "tuple" /\ ∃n:{n:Nat // o.dict=none},o.data=.seq items n.1
theorem IsTupX.is {h:Heap}{a:Addr}{items:Array Value}(x:IsTupX h a items):IsTup h a items:=let ⟨o,h1,h2,n,h3⟩:=x;⟨o,h1,h2,n.1,h3⟩
theorem IsTupX.new (h:Heap) (items:Array Value):IsTupX (h.push { cls:=.type "tuple",data:=.seq items }) h.objs.size items:=⟨_,Heap.get?_push_size _ rfl,rfl,⟨_,rfl⟩,rfl⟩
instance {h:Heap}{a:Addr}{items:Array Value}:Coe (IsTupX h a items) (IsTup h a items):=⟨IsTupX.is⟩
instance {h:Heap}{a:Addr}{items:Array Value}:Coe (IsTupX h a items) (h.IsTuple a items):=⟨IsTupX.is⟩
section
variable (P:Program) (w:World)
def ObjOk (H:Hp) (h:Heap) (a:Addr):HO->Prop
 |.lst xs=>xs.length<=sizeLine/\∃(its:List Value) (n:Nat),Vals xs its/\h.get? a=some { cls:=.type "list",data:=.seq its.toArray n }
 |.tup xs=>xs.length<=sizeLine/\∃its:List Value,Vals xs its/\IsTupX h a its.toArray
 |.dK kvs=>kvs.length<=sizeLine/\(a==sysModules)=false/\∃vs,KV kvs vs/\h.DictOf (mixKind P w) a vs
 |.dT kvs=>kvs.length<=sizeLine/\(a==sysModules)=false/\∃xs:List (List Key×Addr×Value),
   Paired (λ(p:List Key×V) (q:List Key×Addr×Value)=>p.1=q.1/\H q.2.1=some (.tup (p.1.map kV))/\RelV p.2 q.2.2) kvs xs /\
   ∃o es ep,h.get? a=some o/\o.ExactDict/\o.data=.dict es ep/\es.toList=xs.map (entryOfKey (tupleKind (mixKind P w)))/\(xs.map (·.1)).Nodup
 |.set S n=>h.SetOf (intKind P w) a S n
 |.ins C dx fs=>H dx=some (.own a)/\fs.length<=1000/\dx≠a/\h.get? a=some (PySem.W.instObj C dx) /\
   ∃mA,h.Ns1 dx mA/\(∀f,RelO (fs.lookup f) (mA f))/\PySem.Within mA (fs.map (·.1))
 |.own _=>∃o,h.get? a=some o
 |.xd fs=>∃mA,h.Ns1 a mA/\∀f,RelO (fs.lookup f) (mA f)
 |.rng lo hi=>∃t u v,h.get? a=some { cls:=.type "range",data:=.fields #[.int lo t,.int hi u,.int 1 v] }
 |.frz o u=>h.get? a=some o/\ObjOk H h a u
 |.tbl ps=>h.get? a=some { cls:=.none,data:=.fields ps }
 |.met f x=>h.get? a=some (PySem.W.methodObj (.ref f) (.ref x))
 |.ext φ=>φ h/\(∃o,h.get? a=some o)/\∀h1 h2:Heap,φ h1->(∀o,h1.get? a=some o->h2.get? a=some o)->φ h2
def HOk (H:Hp) (h:Heap):Prop:=∀a o,H a=some o->ObjOk P w H h a o
end
section
variable {P:Program}{w:World}{H H':Hp}{h h':Heap}{a:Addr}{o:HO}
theorem ObjOk.lt (x:ObjOk P w H h a o):a<h.objs.size:=by
 cases o with
 |lst xs=>obtain⟨_,_,_,_,e⟩:=x;exact Heap.lt_size e
 |tup xs=>obtain⟨_,_,_,p⟩:=x;exact (IsTupX.is p).lt
 |dK kvs=>obtain⟨_,_,_,_,o,_,_,e,_⟩:=x;exact Heap.lt_size e
 |dT kvs=>obtain⟨_,_,_,_,o,_,_,e,_⟩:=x;exact Heap.lt_size e
 |set S n=>obtain⟨o,_,_,_,e,_⟩:=x;exact Heap.lt_size e
 |ins C dx fs=>obtain⟨_,_,_,e,_⟩:=x;exact Heap.lt_size e
 |own y=>obtain⟨_,e⟩:=x;exact Heap.lt_size e
 |xd fs=>obtain⟨_,⟨_,_,_,e,_⟩,_⟩:=x;exact Heap.lt_size e
 |rng lo hi=>obtain⟨_,_,_,e⟩:=x;exact Heap.lt_size e
 |frz ob u=>obtain⟨e,_⟩:=x;exact Heap.lt_size e
 |tbl ps=>exact Heap.lt_size (show h.get? a=some _ from x)
 |met f y=>exact Heap.lt_size (show h.get? a=some _ from x)
 |ext φ=>obtain⟨_,⟨_,e⟩,_⟩:=x;exact Heap.lt_size e
theorem Paired.mapP {α β:Type}{F G:α->β->Prop}:∀{l₁:List α}{l₂:List β},Paired F l₁ l₂->(∀a b,F a b->G a b)->Paired G l₁ l₂
 |_,_,.nil,_=>.nil
 |_,_,.cons r t,f=>.cons (f _ _ r) (Paired.mapP t f)
theorem ObjOk.stay (x:ObjOk P w H h a o) (k:∀b u,(b=a\/H b=some (.own a))->h.get? b=some u->h'.get? b=some u)
  (ho:∀b,H b=some (.own a)->H' b=some (.own a)) (ht:∀b xs,H b=some (.tup xs)->H' b=some (.tup xs)):ObjOk P w H' h' a o:=by
 induction o with
 |lst xs=>obtain⟨z,its,n,r,e⟩:=x;exact⟨z,its,n,r,k _ _ (.inl rfl) e⟩
 |tup xs=>obtain⟨z,its,r,ob,e,c⟩:=x;exact⟨z,its,r,ob,k _ _ (.inl rfl) e,c⟩
 |dK kvs=>obtain⟨z,y,vs,r,ob,es,ep,e,c⟩:=x;exact⟨z,y,vs,r,ob,es,ep,k _ _ (.inl rfl) e,c⟩
 |dT kvs=>
  obtain⟨z,y,xs,r,ob,es,ep,e,c⟩:=x
  exact⟨z,y,xs,Paired.mapP r λp q z=>⟨z.1,ht _ _ z.2.1,z.2.2⟩,ob,es,ep,k _ _ (.inl rfl) e,c⟩
 |set S n=>obtain⟨ob,es,ep,t,e,c⟩:=x;exact⟨ob,es,ep,t,k _ _ (.inl rfl) e,c⟩
 |ins C dx fs=>
  obtain⟨d,z,ne,e,mA,⟨od,es,ep,e2,c⟩,r⟩:=x
  exact⟨ho _ d,z,ne,k _ _ (.inl rfl) e,mA,⟨od,es,ep,k _ _ (.inr d) e2,c⟩,r⟩
 |own y=>obtain⟨ob,e⟩:=x;exact⟨ob,k _ _ (.inl rfl) e⟩
 |xd fs=>obtain⟨mA,⟨od,es,ep,e,c⟩,r⟩:=x;exact⟨mA,⟨od,es,ep,k _ _ (.inl rfl) e,c⟩,r⟩
 |rng lo hi=>obtain⟨t,u,v,e⟩:=x;exact⟨t,u,v,k _ _ (.inl rfl) e⟩
 |frz ob u ih=>obtain⟨e,q⟩:=x;exact⟨k _ _ (.inl rfl) e,ih q⟩
 |tbl ps=>
  have e:h.get? a=some { cls:=.none,data:=.fields ps }:=x
  show h'.get? a=some { cls:=.none,data:=.fields ps }
  exact k a _ (.inl rfl) e
 |met f y=>
  have e:h.get? a=some (PySem.W.methodObj (.ref f) (.ref y)):=x
  show h'.get? a=some (PySem.W.methodObj (.ref f) (.ref y))
  exact k a _ (.inl rfl) e
 |ext φ=>obtain⟨p,⟨o,e⟩,st⟩:=x;exact⟨st _ _ p λo q=>k _ _ (.inl rfl) q,⟨o,k _ _ (.inl rfl) e⟩,st⟩
theorem HOk.lt (x:HOk P w H h) (e:H a=some o):a<h.objs.size:=(x a o e).lt
theorem HOk.fresh (x:HOk P w H h) (e:h.objs.size<=a):H a=none:=by
 cases q:H a with
 |none=>rfl
 |some u=>exact absurd (Nat.lt_of_lt_of_le (x.lt q) e) (Nat.lt_irrefl _)
theorem HOk.kept (x:HOk P w H h) (k:∀b u,h.get? b=some u->h'.get? b=some u):HOk P w H h':=λa o e=>
 (x a o e).stay (λb u _ q=>k b u q) (λ_ q=>q) λ_ _ q=>q
theorem HOk.laid (x:HOk P w H h) (k:∀b u,h.get? b=some u->h'.get? b=some u) (hp:h.objs.size<=a) (new:ObjOk P w (upd H a o) h' a o):HOk P w (upd H a o) h':=λb u e=>by
 have hn:=x.fresh hp
 by_cases hb:b=a
 ·subst hb;rw[upd_same] at e;cases e;exact new
 ·rw[upd_ne hb] at e
  exact (x b u e).stay (λc v _ q=>k c v q) (λc q=>by rw[upd_ne (ne_of_none q hn)];exact q) λc xs q=>by rw[upd_ne (ne_of_none q hn)];exact q
end
def Rd (H:Hp) (a:Addr) (u:HO):Prop:=H a=some u\/∃o,H a=some (.frz o u)
theorem Rd.of {H:Hp}{a:Addr}{u:HO}(h:H a=some u):Rd H a u:=.inl h
theorem Rd.ok {P:Program}{w:World}{H:Hp}{h:Heap}{a:Addr}{u:HO}(r:Rd H a u) (x:HOk P w H h):ObjOk P w H h a u:=by
 rcases r with r|⟨o,r⟩
 ·exact x a u r
 ·obtain⟨_,q⟩:=x a _ r
  exact q
def Mut:Option HO->Prop
 |some (.lst _)=>True
 |some (.dK _)=>True
 |some (.dT _)=>True
 |some (.set _ _)=>True
 |some (.ins _ _ _)=>True
 |some (.ext _)=>True
 |_=>False
section
variable {P:Program}{w:World}{H:Hp}{h h':Heap}{x e:Addr}{o':HO}
theorem HOk.write (ok:HOk P w H h) (mu:Mut (H x)) (he:e=x\/H e=some (.own x)) (k:∀b u,b≠e->h.get? b=some u->h'.get? b=some u) (heo:∃u,h'.get? e=some u)
  (new:ObjOk P w (upd H x o') h' x o'):HOk P w (upd H x o') h':=λb u q=>by
 have nown:∀c y,H c=some (.own y)->c≠x:=λc y r z=>by subst z;rw[r] at mu;exact mu
 have ntup:∀c xs,H c=some (.tup xs)->c≠x:=λc xs r z=>by subst z;rw[r] at mu;exact mu
 by_cases hb:b=x
 ·subst hb;rw[upd_same] at q;cases q;exact new
 ·rw[upd_ne hb] at q
  by_cases hbe:b=e
  ·have q':H b=some (.own x):=by
    rcases he with z|z
    ·exact absurd (hbe.trans z) hb
    ·rw[hbe];exact z
   rw[q] at q';cases q'
   obtain⟨v,hv⟩:=heo
   exact⟨v,by rw[hbe];exact hv⟩
  ·refine (ok b u q).stay (λc v hc r=>k c v ?_ r) (λc r=>by rw[upd_ne (nown c b r)];exact r) λc xs r=>by rw[upd_ne (ntup c xs r)];exact r
   rcases hc with rfl|hc
   ·exact hbe
   ·rintro rfl
    rcases he with z|z
    ·exact nown c b hc z
    ·rw[hc] at z;cases z;exact hb rfl
end
structure Un (fs ex:List Addr) (H H':Hp) (h h':Heap):Prop where
 keep:∀b o,h.get? b=some o->H b=none->b∉fs->b∉ex->h'.get? b=some o
 slot:∀b o,h.get? b=some o->H b=none->b∈fs->b∉ex->∃sl,h'.get? b=some { o with slots:=sl }
 free:∀b o,h.get? b=some o->H b=none->b∉ex->H' b=none
 there:∀b o,h.get? b=some o->b∉ex->∃o',h'.get? b=some o'
 tups:∀b xs,H b=some (.tup xs)->H' b=some (.tup xs)
 frzs:∀b o u,H b=some (.frz o u)->H' b=some (.frz o u)
 tbls:∀b ps,H b=some (.tbl ps)->∃more,H' b=some (.tbl (ps++more))
section
variable {fs fs' ex ex':List Addr}{H H1 H2:Hp}{h h1 h2 h':Heap}{a x e:Addr}{o:HO}
theorem Un.any (u:Un fs ex H H1 h h1){b:Addr}{ob:Obj}(q:h.get? b=some ob) (n:H b=none) (hx:b∉ex):∃sl,h1.get? b=some { ob with slots:=sl }:=by
 by_cases hb:b∈fs
 ·exact u.slot b ob q n hb hx
 ·exact⟨ob.slots,u.keep b ob q n hb hx⟩
theorem Un.trans (a:Un fs ex H H1 h h1) (b:Un fs ex H1 H2 h1 h2):Un fs ex H H2 h h2 where
 keep:=λc ob q n hc hx=>b.keep c ob (a.keep c ob q n hc hx) (a.free c ob q n hx) hc hx
 slot:=λc ob q n hc hx=>by
  obtain⟨sl,e1⟩:=a.slot c ob q n hc hx
  obtain⟨sl',e2⟩:=b.slot c _ e1 (a.free c ob q n hx) hc hx
  exact⟨sl',e2⟩
 free:=λc ob q n hx=>by
  obtain⟨o',e1⟩:=a.there c ob q hx
  exact b.free c o' e1 (a.free c ob q n hx) hx
 there:=λc ob q hx=>by
  obtain⟨o',e1⟩:=a.there c ob q hx
  exact b.there c o' e1 hx
 tups:=λc xs q=>b.tups c xs (a.tups c xs q)
 frzs:=λc ob xs q=>b.frzs c ob xs (a.frzs c ob xs q)
 tbls:=λc ps q=>by
  obtain⟨m1,e1⟩:=a.tbls c ps q
  obtain⟨m2,e2⟩:=b.tbls c _ e1
  exact⟨m1++m2,by rw[e2,Array.append_assoc]⟩
theorem Un.kept (k:∀b u,h.get? b=some u->h'.get? b=some u):Un fs ex H H h h':=
 ⟨λb ob q _ _ _=>k b ob q,λb ob q _ _ _=>⟨ob.slots,k b ob q⟩,λ_ _ _ n _=>n,λb ob q _=>⟨ob,k b ob q⟩,λ_ _ q=>q,λ_ _ _ q=>q,λ_ ps q=>⟨#[],by rw[q];simp⟩⟩
theorem Un.refl:Un fs ex H H h h:=Un.kept λ_ _ q=>q
theorem Un.laid (k:∀b u,h.get? b=some u->h'.get? b=some u) (hp:h.objs.size<=a) (hn:H a=none):Un fs ex H (upd H a o) h h' where
 keep:=λb u q _ _ _=>k b u q
 slot:=λb u q _ _ _=>⟨u.slots,k b u q⟩
 free:=λb u q n _=>by rw[upd_ne (Nat.ne_of_lt (Nat.lt_of_lt_of_le (Heap.lt_size q) hp))];exact n
 there:=λb u q _=>⟨u,k b u q⟩
 tups:=λb xs q=>by rw[upd_ne (ne_of_none q hn)];exact q
 frzs:=λb u xs q=>by rw[upd_ne (ne_of_none q hn)];exact q
 tbls:=λb ps q=>⟨#[],by rw[upd_ne (ne_of_none q hn),q];simp⟩
theorem Un.write (mu:Mut (H x)) (he:e=x\/H e=some (.own x)) (k:∀b u,b≠e->h.get? b=some u->h'.get? b=some u) (heo:∃u,h'.get? e=some u):Un fs ex H (upd H x o) h h':=by
 have hx:∀b,H b=none->b≠x:=λb n z=>by subst z;rw[n] at mu;exact mu
 have hb:∀b,H b=none->b≠e:=λb n z=>by
  subst z
  rcases he with r|r
  ·exact hx b n r
  ·rw[n] at r;cases r
 have hm:∀b u,H b=some u->¬Mut (some u)->b≠x:=λb u q nm z=>by subst z;rw[q] at mu;exact nm mu
 refine⟨λb u q n _ _=>k b u (hb b n) q,λb u q n _ _=>⟨u.slots,k b u (hb b n) q⟩,λb u q n _=>by rw[upd_ne (hx b n)];exact n,λb u q _=>?_,
  λb xs q=>by rw[upd_ne (hm b _ q λz=>z)];exact q,λb u xs q=>by rw[upd_ne (hm b _ q λz=>z)];exact q,λb ps q=>⟨#[],by rw[upd_ne (hm b _ q λz=>z),q];simp⟩⟩
 by_cases hbe:b=e
 ·subst hbe;exact heo
 ·exact⟨u,k b u hbe q⟩
theorem Un.mono (u:Un fs ex H H1 h h1) (hs:∀b∈fs,b∈fs') (hx:∀b∈ex,b∈ex'):Un fs' ex' H H1 h h1:=
 ⟨λb ob q n hb he=>u.keep b ob q n (λz=>hb (hs b z)) λz=>he (hx b z),λ_ _ q n _ he=>u.any q n λz=>he (hx _ z),λb ob q n he=>u.free b ob q n λz=>he (hx b z),λb ob q he=>u.there b ob q λz=>he (hx b z),u.tups,u.frzs,u.tbls⟩
end
def trk (h:Heap) (H:Hp):List Addr:=(List.range h.objs.size).filter λa=>(H a).isSome
def hidT (h:Heap) (H:Hp):Heap:=PySem.W.hideAll h (trk h H)
theorem hidT_size (h:Heap) (H:Hp):(hidT h H).objs.size=h.objs.size:=PySem.W.hideAll_size _ _
theorem hidT_get {h:Heap}{H:Hp}{b:Addr}{o:Obj}(e:h.get? b=some o) (n:H b=none):(hidT h H).get? b=some o:=
 PySem.W.hideAll_get _ e λhm=>by
  have q:(H b).isSome=true:=(List.mem_filter.mp hm).2
  rw[n] at q;simp at q
theorem of_hidT {h:Heap}{H:Hp}{b:Addr}{o:Obj}(e:(hidT h H).get? b=some o):h.get? b=some o/\H b=none:=by
 have e':h.get? b=some o:=PySem.W.of_hideAll (trk h H) e
 refine⟨e',?_⟩
 cases q:H b with
 |none=>rfl
 |some x=>
  have hm:b∈trk h H:=List.mem_filter.mpr ⟨List.mem_range.mpr (Heap.lt_size e'),by simp[q]⟩
  have z:(hidT h H).get? b=none:=PySem.W.hideAll_none (trk h H) hm
  rw[z] at e;cases e
def allNews (g h:Heap) (L:Addr):List (Addr×Obj):=(List.range h.objs.size).filterMap λa=>if a=L\/(g.get? a).isSome=true then none else (h.get? a).map λo=>(a,o)
def rest (g h:Heap) (L d:Addr):List (Addr×Obj):=(allNews g h L).filter λp=>decide (p.1≠d)
end L2
namespace L2
open PySem PySem.Spec PyProof.Rows
structure Mod (K:PySem.W.Frag) (mg:Str->Option Value) (base:Heap):Prop where
 kin:K.In base
 glob:base.Ns mainGlobals mg
 blt:∃mb,base.Ns builtinsNs mb/\∀x:Str,x ≠ "__name__" -> mb x=bootBuiltins x
 nolimit:base.NoLimit
structure Cx where
 prog:Program
 w:World
 K:PySem.W.Frag
 mg:Str->Option Value
 base:Heap
 A:Around
 N:List Str
 s₀:Shared
 H₀:Hp
 env:Env
 outer:List Env
 stack:List Env
 ex:List Addr
 fn:Str->Bool
 calm:Bool
 pn:List (Addr×Obj)
 xe:Value->Shared->Prop
def frs (l:List Env):List Addr:=l.filterMap (·.frame)
abbrev Cx.fs (X:Cx):List Addr:=frs X.outer
def Vis (sc:Scope) (x:Str):Prop:=sc.names.lookup x=some .local\/sc.names.lookup x=some .cell\/sc.names.lookup x=some .free
def Loc (sc:Scope) (x:Str):Prop:=sc.names.lookup x=some .local\/sc.names.lookup x=some .cell
def Look (env:Env) (h:Heap) (m:Str->Option Value) (x:Str) (u:Value):Prop:=
 (env.kindOf x=some .local/\m x=some u)\/((env.kindOf x=some .cell\/env.kindOf x=some .free)/\∃c,env.cells.lookup x=some c/\h.IsCell c (some u))
structure Cx.Ok (X:Cx):Prop where
 mod:Mod X.K X.mg X.base
 kind:X.env.scope.kind=.function
 glob:X.env.globals=mainGlobals
 blt:X.env.builtins=builtinsNs
 above:X.s₀.heap.objs.size<=X.env.locals
 inj:∀x y c,X.env.cells.lookup x=some c->X.env.cells.lookup y=some c->x=y
 has:∀x,(X.env.kindOf x=some .cell\/X.env.kindOf x=some .free)->∃c,X.env.cells.lookup x=some c
 cab:∀x c,X.fn x=true->X.env.cells.lookup x=some c->X.s₀.heap.objs.size<=c
 hd:X.calm=true->X.A.handled=none
 frames:X.A.frames=some X.stack
 stk:X.stack=X.outer\/(X.stack=X.env::X.outer/\X.env.frame=some X.env.locals)
 exf:∀b∈X.ex,b≠X.env.locals/\∀x c,X.env.cells.lookup x=some c->c≠b
 bs:∀b o,X.base.get? b=some o->X.s₀.heap.get? b=some o/\X.H₀ b=none
 bsz:X.base.objs.size<=X.s₀.heap.objs.size
 noex:∀b o,X.base.get? b=some o->b∉X.ex
 exfs:∀b∈X.ex,b∉X.fs
 funs:X.s₀.heap.FunFrames X.base X.outer
 frf:∀b∈X.fs,X.H₀ b=none
structure Inv (X:Cx) (pins:List (Addr×Obj)) (σ:List (Option V)) (H:Hp) (s:Shared):Prop where
 ok:X.Ok
 os:s.os=X.s₀.os
 bare:AllBare s.gens
 base:Un X.fs X.ex X.H₀ H X.s₀.heap s.heap
 loc:∃m,s.heap.Ns X.env.locals m/\∀(i:Nat) (x:Str) (v:V),X.N[i]?=some x->σ[i]?=some (some v)->Vis X.env.scope x->∃u,RelV v u/\Look X.env s.heap m x u
 cell:∀x c,X.env.cells.lookup x=some c->∃v,s.heap.IsCell c v
 free:H X.env.locals=none
 freeC:∀x c,X.env.cells.lookup x=some c->H c=none
 pin:∀p∈X.pn++pins,s.heap.get? p.1=some p.2/\H p.1=none/\p.1≠X.env.locals/\p.1∉X.fs/\∀v,p.2.data≠.cell v
 hok:HOk X.prog X.w H s.heap
 len:σ.length=X.N.length
section
variable {X:Cx}{pins:List (Addr×Obj)}{σ:List (Option V)}{H H':Hp}{s:Shared}{h':Heap}
theorem Cx.Ok.nofr (ok:X.Ok){b:Addr}{o:Obj}(e:X.base.get? b=some o):b∉X.fs:=λhb=>by
 have:=(ok.funs.mem hb).1
 rw[e] at this;cases this
theorem Inv.bs (I:Inv X pins σ H s):∀b o,X.base.get? b=some o->s.heap.get? b=some o/\H b=none:=λb o e=>
 ⟨I.base.keep b o (I.ok.bs b o e).1 (I.ok.bs b o e).2 (I.ok.nofr e) (I.ok.noex b o e),I.base.free b o (I.ok.bs b o e).1 (I.ok.bs b o e).2 (I.ok.noex b o e)⟩
theorem Inv.bk (I:Inv X pins σ H s):∀b o,X.base.get? b=some o->s.heap.get? b=some o:=λb o e=>(I.bs b o e).1
theorem Inv.mod (I:Inv X pins σ H s):Mod X.K X.mg X.base:=I.ok.mod
theorem Inv.kIn (I:Inv X pins σ H s):X.K.In s.heap:=I.ok.mod.kin.keeps I.bk
theorem Inv.nolimit (I:Inv X pins σ H s):s.heap.NoLimit:=I.ok.mod.nolimit.keeps I.bk
theorem Inv.fr (I:Inv X pins σ H s):∃m,Fr X.base X.env.locals s.heap m:=
 let ⟨m,hn,_⟩:=I.loc
 ⟨m,hn,I.bk,Nat.le_trans I.ok.bsz I.ok.above⟩
theorem Inv.lt (I:Inv X pins σ H s):X.env.locals<s.heap.objs.size:=let ⟨_,hn,_⟩:=I.loc;hn.lt
theorem Inv.sz (I:Inv X pins σ H s):X.s₀.heap.objs.size<=s.heap.objs.size:=Nat.le_trans I.ok.above (Nat.le_of_lt I.lt)
theorem Inv.nofs (I:Inv X pins σ H s){a:Addr}(h:s.heap.objs.size<=a):a∉X.fs:=λhb=>by
 obtain⟨_,o,ho,_⟩:=I.ok.funs.mem hb
 exact absurd (Nat.lt_of_lt_of_le (Heap.lt_size ho) (Nat.le_trans I.sz h)) (Nat.lt_irrefl _)
theorem Inv.cne (I:Inv X pins σ H s):∀x c,X.env.cells.lookup x=some c->c≠X.env.locals:=λx c e z=>by
 obtain⟨v,o,ho,hd⟩:=I.cell x c e
 obtain⟨m,⟨o',es,ep,ho',hd',_⟩,_⟩:=I.loc
 rw[z,ho'] at ho;cases ho;rw[hd'] at hd;cases hd
theorem Inv.funs (I:Inv X pins σ H s):s.heap.FunFrames X.base X.outer:=by
 have all:∀(l:List Env),(∀b∈frs l,b∈X.fs)->X.s₀.heap.FunFrames X.base l->s.heap.FunFrames X.base l:=by
  intro l
  induction l with
  |nil=>intro _ _;trivial
  |cons env r ih=>
   intro hs hl
   obtain⟨hk,⟨L,o,hf,hn,ho,hd⟩,hr⟩:=hl
   have hL:L∈X.fs:=hs L (by unfold frs;rw[List.filterMap_cons,hf];exact List.mem_cons_self)
   obtain⟨sl,e⟩:=I.base.slot L o ho (I.ok.frf L hL) hL λz=>I.ok.exfs L z hL
   exact⟨hk,⟨L,_,hf,hn,e,hd⟩,ih (λb hb=>hs b (by unfold frs;rw[List.filterMap_cons,hf];exact List.mem_cons_of_mem _ hb)) hr⟩
 exact all X.outer (λ_ hb=>hb) I.ok.funs
theorem Inv.stack (I:Inv X pins σ H s):s.heap.FunFrames X.base X.stack:=by
 rcases I.ok.stk with e|⟨e,hf⟩
 ·rw[e];exact I.funs
 ·rw[e]
  obtain⟨m,hn,_⟩:=I.loc
  refine .cons (by rw[I.ok.kind];decide) hf hn ?_ I.funs
  exact Heap.get?_none_of_le (Nat.le_trans I.ok.bsz I.ok.above)
theorem Inv.stkSub (I:Inv X pins σ H s):∀b∈frs X.stack,b∈X.env.locals::X.fs:=λb hb=>by
 rcases I.ok.stk with e|⟨e,hf⟩
 ·rw[e] at hb;exact List.mem_cons_of_mem _ hb
 ·rw[e] at hb
  unfold frs at hb
  rw[List.filterMap_cons,hf] at hb
  exact hb
theorem Inv.stkFree (I:Inv X pins σ H s):∀b∈frs X.stack,H b=none:=λb hb=>by
 rcases List.mem_cons.mp (I.stkSub b hb) with e|hb
 ·rw[e];exact I.free
 ·obtain⟨_,o,ho,_⟩:=I.ok.funs.mem hb
  exact I.base.free b o ho (I.ok.frf b hb) λz=>I.ok.exfs b z hb
theorem Inv.step {g':Array GenState}{t':Nat}{d':Drawn}{ch:List Addr}(I:Inv X pins σ H s)
  (hch:∀b∈ch,(b∈X.ex\/X.s₀.heap.objs.size<=b)/\b≠X.env.locals/\(∀x c,X.env.cells.lookup x=some c->c≠b)/\∀p∈X.pn++pins,p.1≠b)
  (keep:∀b o,b≠X.env.locals->b∉X.fs->b∉ch->s.heap.get? b=some o->H b=none->h'.get? b=some o)
  (slot:∀b o,b≠X.env.locals->b∈X.fs->b∉ch->s.heap.get? b=some o->H b=none->∃sl,h'.get? b=some { o with slots:=sl }) (free:∀b o,b∉ch->s.heap.get? b=some o->H b=none->H' b=none)
  (there:∀b o,b∉ch->s.heap.get? b=some o->∃o',h'.get? b=some o')
  (tups:∀b xs,H b=some (.tup xs)->H' b=some (.tup xs)) (frzs:∀b o u,H b=some (.frz o u)->H' b=some (.frz o u)) (tbls:∀b ps,H b=some (.tbl ps)->∃more,H' b=some (.tbl (ps++more)))
  (ns:∀m,s.heap.Ns X.env.locals m->h'.Ns X.env.locals m) (hok:HOk X.prog X.w H' h') (hg:AllBare g') :
  Inv X pins σ H' { s with heap:=h',gens:=g',drawn:=d',toks:=t' }:=by
 have neL:∀b o,X.s₀.heap.get? b=some o->b≠X.env.locals:=λb o e=>Nat.ne_of_lt (Nat.lt_of_lt_of_le (Heap.lt_size e) I.ok.above)
 have neC:∀b o,X.s₀.heap.get? b=some o->b∉X.ex->b∉ch:=λb o e hx hb=>by
  rcases (hch b hb).1 with z|z
  ·exact hx z
  ·exact absurd (Nat.lt_of_lt_of_le (Heap.lt_size e) z) (Nat.lt_irrefl _)
 have cellK:∀x c,X.env.cells.lookup x=some c->∀v,s.heap.IsCell c v->h'.IsCell c v:=λx c e v ⟨o,ho,hd⟩=>by
  have nch:c∉ch:=λz=>(hch c z).2.2.1 x c e rfl
  by_cases hc:c∈X.fs
  ·obtain⟨sl,q⟩:=slot c o (I.cne x c e) hc nch ho (I.freeC x c e)
   exact⟨_,q,hd⟩
  ·exact⟨o,keep c o (I.cne x c e) hc nch ho (I.freeC x c e),hd⟩
 refine⟨I.ok,I.os,hg,⟨λb o e n hb hx=>?_,λb o e n hb hx=>?_,λb o e n hx=>?_,λb o e hx=>?_,λb xs e=>tups b xs (I.base.tups b xs e),λb o xs e=>frzs b o xs (I.base.frzs b o xs e),λb ps e=>?_⟩,?_,λx c e=>?_,?_,λx c e=>?_,λp hp=>?_,hok,I.len⟩
 ·exact keep b o (neL b o e) hb (neC b o e hx) (I.base.keep b o e n hb hx) (I.base.free b o e n hx)
 ·obtain⟨sl,e1⟩:=I.base.slot b o e n hb hx
  obtain⟨sl',e2⟩:=slot b _ (neL b o e) hb (neC b o e hx) e1 (I.base.free b o e n hx)
  exact⟨sl',e2⟩
 ·obtain⟨o',e1⟩:=I.base.there b o e hx
  exact free b o' (neC b o e hx) e1 (I.base.free b o e n hx)
 ·obtain⟨o',e1⟩:=I.base.there b o e hx
  exact there b o' (neC b o e hx) e1
 ·obtain⟨m1,e1⟩:=I.base.tbls b ps e
  obtain⟨m2,e2⟩:=tbls b _ e1
  exact⟨m1++m2,by rw[e2,Array.append_assoc]⟩
 ·obtain⟨m,hn,hl⟩:=I.loc
  refine⟨m,ns m hn,λi x v e1 e2 e3=>?_⟩
  obtain⟨u,r,l⟩:=hl i x v e1 e2 e3
  refine⟨u,r,?_⟩
  rcases l with l|⟨k,c,e,z⟩
  ·exact .inl l
  ·exact .inr ⟨k,c,e,cellK x c e _ z⟩
 ·obtain⟨v,z⟩:=I.cell x c e
  exact⟨v,cellK x c e v z⟩
 ·obtain⟨m,⟨o,_,_,ho,_⟩,_⟩:=I.loc
  exact free _ o (λz=>(hch _ z).2.1 rfl) ho I.free
 ·obtain⟨v,o,ho,hd⟩:=I.cell x c e
  exact free c o (λz=>(hch c z).2.2.1 x c e rfl) ho (I.freeC x c e)
 ·obtain⟨e,n,ne,nf,d⟩:=I.pin p hp
  have nch:p.1∉ch:=λz=>(hch p.1 z).2.2.2 p hp rfl
  exact⟨keep p.1 p.2 ne nf nch e n,free p.1 p.2 nch e n,ne,nf,d⟩
theorem Inv.un {t':Nat}(I:Inv X pins σ H s) (u:Un X.fs [] H H' s.heap h') (hok:HOk X.prog X.w H' h'):Inv X pins σ H' { s with heap:=h',toks:=t' }:=by
 obtain⟨m,⟨o,es,ep,ho,r⟩,_⟩:=id I.loc
 obtain⟨sl,hL⟩:=u.any ho I.free (by simp)
 exact I.step (g':=s.gens) (d':=s.drawn) (ch:=[]) (λ_ z=>nomatch z) (λb o _ hb _ e n=>u.keep b o e n hb (by simp)) (λb o _ hb _ e n=>u.slot b o e n hb (by simp)) (λb o _ e n=>u.free b o e n (by simp)) (λb o _ e=>u.there b o e (by simp)) u.tups u.frzs u.tbls (λm' hm=>by
  obtain⟨o',es',ep',ho',r'⟩:=hm
  rw[ho] at ho';cases ho'
  exact⟨_,es',ep',hL,r'⟩) hok I.bare
theorem Inv.call {g':Array GenState}{t':Nat}{d':Drawn}{ch:List Addr}(I:Inv X pins σ H s) (u:Un (frs X.stack) ch H H' s.heap h') (hok:HOk X.prog X.w H' h') (hg:AllBare g')
  (hch:∀b∈ch,(b∈X.ex\/X.s₀.heap.objs.size<=b)/\b≠X.env.locals/\(∀x c,X.env.cells.lookup x=some c->c≠b)/\∀p∈X.pn++pins,p.1≠b) :
  Inv X pins σ H' { s with heap:=h',gens:=g',drawn:=d',toks:=t' }:=by
 obtain⟨m,⟨o,es,ep,ho,r⟩,_⟩:=id I.loc
 obtain⟨sl,hL⟩:=u.any ho I.free λz=>(hch _ z).2.1 rfl
 exact I.step (ch:=ch) hch (λb o hL hb hc e n=>u.keep b o e n (λz=>(List.mem_cons.mp (I.stkSub b z)).elim hL hb) hc) (λb o _ _ hc e n=>u.any e n hc) (λb o hc e n=>u.free b o e n hc) (λb o hc e=>u.there b o e hc) u.tups u.frzs u.tbls (λm' hm=>by
  obtain⟨o',es',ep',ho',r'⟩:=hm
  rw[ho] at ho';cases ho'
  exact⟨_,es',ep',hL,r'⟩) hok hg
theorem Inv.turned {t':Nat}{it:Addr}(I:Inv X pins σ H s) (k:∀b o,b≠it->s.heap.get? b=some o->h'.get? b=some o) (hn:H it=none) (hL:it≠X.env.locals)
  (h1:it∈X.ex\/X.s₀.heap.objs.size<=it) (h2:∀x c,X.env.cells.lookup x=some c->c≠it) (h3:∀p∈X.pn++pins,p.1≠it):Inv X pins σ H { s with heap:=h',toks:=t' }:=by
 have nit:∀b u,H b=some u->b≠it:=λb u e z=>by rw[z,hn] at e;cases e
 refine I.step (g':=s.gens) (d':=s.drawn) (ch:=[it]) (λb hb=>?_) (λb o _ _ hc e _=>k b o (λz=>hc (by simp[z])) e) (λb o _ _ hc e _=>⟨o.slots,k b o (λz=>hc (by simp[z])) e⟩) (λ_ _ _ _ n=>n)
  (λb o hc e=>⟨o,k b o (λz=>hc (by simp[z])) e⟩) (λ_ _ e=>e) (λ_ _ _ e=>e) (λb ps e=>⟨#[],by rw[e];simp⟩) (λm hm=>?_) (λb u e=>?_) I.bare
 ·have e:b=it:=by simpa using hb
  subst e
  exact⟨h1,hL,h2,h3⟩
 ·obtain⟨o,es,ep,ho,r⟩:=hm
  exact⟨o,es,ep,k _ o (Ne.symm hL) ho,r⟩
 ·refine (I.hok b u e).stay (λc v hc q=>k c v ?_ q) (λ_ q=>q) λ_ _ q=>q
  rcases hc with z|z
  ·rw[z];exact nit b u e
  ·exact nit c _ z
theorem Inv.tok (I:Inv X pins σ H s) (t:Nat):Inv X pins σ H { s with toks:=t }:=I.un (h':=s.heap) (t':=t) Un.refl I.hok
theorem Inv.kept {t':Nat}(I:Inv X pins σ H s) (k:∀b u,s.heap.get? b=some u->h'.get? b=some u):Inv X pins σ H { s with heap:=h',toks:=t' }:=I.un (Un.kept k) (I.hok.kept k)
theorem Inv.laid {a:Addr}{o:HO}{t':Nat}(I:Inv X pins σ H s) (k:∀b u,s.heap.get? b=some u->h'.get? b=some u) (hp:s.heap.objs.size<=a) (new:ObjOk X.prog X.w (upd H a o) h' a o) :
  Inv X pins σ (upd H a o) { s with heap:=h',toks:=t' }:=I.un (Un.laid k hp (I.hok.fresh hp)) (I.hok.laid k hp new)
theorem Inv.write {x e:Addr}{o:HO}{t':Nat}(I:Inv X pins σ H s) (mu:Mut (H x)) (he:e=x\/H e=some (.own x)) (k:∀b u,b≠e->s.heap.get? b=some u->h'.get? b=some u) (heo:∃u,h'.get? e=some u)
  (new:ObjOk X.prog X.w (upd H x o) h' x o):Inv X pins σ (upd H x o) { s with heap:=h',toks:=t' }:=I.un (Un.write mu he k heo) (I.hok.write mu he k heo new)
theorem Inv.weak {σ':List (Option V)}(I:Inv X pins σ H s) (hl:σ'.length=σ.length) (w:∀(i:Nat) v,σ'[i]?=some (some v)->σ[i]?=some (some v)):Inv X pins σ' H s:=
 ⟨I.ok,I.os,I.bare,I.base,let ⟨m,hn,hl'⟩:=I.loc;⟨m,hn,λi x v e1 e2 e3=>hl' i x v e1 (w i v e2) e3⟩,I.cell,I.free,I.freeC,I.pin,I.hok,hl.trans I.len⟩
theorem Inv.pins_of {pins':List (Addr×Obj)}(I:Inv X pins σ H s) (h:∀p∈pins',s.heap.get? p.1=some p.2/\H p.1=none/\p.1≠X.env.locals/\p.1∉X.fs/\∀v,p.2.data≠.cell v):Inv X pins' σ H s:=
 ⟨I.ok,I.os,I.bare,I.base,I.loc,I.cell,I.free,I.freeC,λp hp=>(List.mem_append.mp hp).elim (λz=>I.pin p (List.mem_append_left _ z)) (h p),I.hok,I.len⟩
theorem nodup_ix {N:List Str}(hN:N.Nodup){i j:Nat}{x:Str}(a:N[i]?=some x) (b:N[j]?=some x):i=j:=by
 obtain⟨h1,e1⟩:=List.getElem?_eq_some_iff.mp a
 obtain⟨h2,e2⟩:=List.getElem?_eq_some_iff.mp b
 exact (List.getElem_inj hN).mp (e1.trans e2.symm)
theorem store_ok2 {M:Model}{A:Around}{E:Value->Shared->Prop}{i:Nat}{x:Str}{v:V}{u:Value}{Q:Unit->Shared->Prop}(I:Inv X pins σ H s) (hN:X.N.Nodup) (hi:X.N[i]?=some x) (hx:Loc X.env.scope x) (r:RelV v u)
  (h:∀s',Inv X pins (σ.set i (some v)) H s'->(∃a,Heap.SameBut a s.heap s'.heap/\(a=X.env.locals\/X.env.cells.lookup x=some a))->Q () s') (hf:X.fn x=true\/X.env.scope.names.lookup x=some .local:=by first|exact .inl rfl|exact .inr rfl|assumption):wpAny M A (storeName X.env x u) Q E s:=by
 obtain⟨m,hn,hl⟩:=id I.loc
 have hcls:(X.env.scope.kind==.class||(X.env.scope.kind==.module&&X.env.locals != X.env.globals))=false:=by rw[I.ok.kind];rfl
 have hiσ:i<σ.length:=by rw[I.len];exact (List.getElem?_eq_some_iff.mp hi).1
 have cne:=I.cne
 have tracked:∀{a:Addr}{h':Heap},(∃o,s.heap.get? a=some o/\H a=none)->Heap.SameBut a s.heap h'->HOk X.prog X.w H h':=λ{a h'} ha hs b ob e=>by
  obtain⟨_,_,hfree⟩:=ha
  refine (I.hok b ob e).stay (λc w' hc q=>(hs.2 c ?_).trans q) (λ_ q=>q) λ_ _ q=>q
  rintro rfl
  rcases hc with rfl|hc
  ·rw[hfree] at e;cases e
  ·rw[hfree] at hc;cases hc
 rcases hx with hk|hk
 ·refine wpAny_storeName_local hk hn (λh' hn' hs=>?_) hcls
  obtain⟨oL,_,_,hoL,_⟩:=id hn
  refine h _ ⟨I.ok,I.os,I.bare,⟨λb o e n hb hx=>?_,λb o e n hb hx=>?_,I.base.free,λb o e hx=>?_,I.base.tups,I.base.frzs,I.base.tbls⟩,⟨_,hn',λj y v' e1 e2 e3=>?_⟩,λy c e=>?_,I.free,I.freeC,λp hp=>?_,tracked ⟨oL,hoL,I.free⟩ hs,by simpa using I.len⟩ ⟨_,hs,.inl rfl⟩
  ·exact (hs.2 b (Nat.ne_of_lt (Nat.lt_of_lt_of_le (Heap.lt_size e) I.ok.above))).trans (I.base.keep b o e n hb hx)
  ·obtain⟨sl,e1⟩:=I.base.slot b o e n hb hx
   exact⟨sl,(hs.2 b (Nat.ne_of_lt (Nat.lt_of_lt_of_le (Heap.lt_size e) I.ok.above))).trans e1⟩
  ·obtain⟨o',e1⟩:=I.base.there b o e hx
   exact⟨o',(hs.2 b (Nat.ne_of_lt (Nat.lt_of_lt_of_le (Heap.lt_size e) I.ok.above))).trans e1⟩
  ·by_cases hj:j=i
   ·subst hj
    rw[hi] at e1;cases e1
    rw[List.getElem?_set_self hiσ] at e2
    cases e2
    exact⟨u,r,.inl ⟨hk,by simp⟩⟩
   ·rw[List.getElem?_set_ne (Ne.symm hj)] at e2
    obtain⟨u',r',q⟩:=hl j y v' e1 e2 e3
    refine⟨u',r',?_⟩
    rcases q with ⟨k,e⟩|⟨k,c,e,z⟩
    ·refine .inl ⟨k,?_⟩
     have:y≠x:=λe=>hj (nodup_ix hN e1 (e▸hi))
     simp[this,e]
    ·exact .inr ⟨k,c,e,z.sameBut hs (cne y c e)⟩
  ·obtain⟨w',z⟩:=I.cell y c e
   exact⟨w',z.sameBut hs (cne y c e)⟩
  ·obtain⟨e,n,ne,nf,d⟩:=I.pin p hp
   exact⟨(hs.2 p.1 ne).trans e,n,ne,nf,d⟩
 ·have hfn:X.fn x=true:=by
   rcases hf with z|z
   ·exact z
   ·rw[z] at hk;cases hk
  obtain⟨c,hc⟩:=I.ok.has x (.inl hk)
  obtain⟨w',z⟩:=I.cell x c hc
  refine wpAny_storeName_cell I.ok.kind hk hc z (λh' hc' hs=>?_)
  obtain⟨oc,hoc,hocd⟩:=id z
  refine h { s with heap:=h' } ⟨I.ok,I.os,I.bare,⟨λb o e n hb hx=>?_,λb o e n hb hx=>?_,I.base.free,λb o e hx=>?_,I.base.tups,I.base.frzs,I.base.tbls⟩,⟨m,hn.sameBut hs (Ne.symm (cne x c hc)),λj y v' e1 e2 e3=>?_⟩,λy c' e=>?_,I.free,I.freeC,λp hp=>?_,tracked ⟨oc,hoc,I.freeC x c hc⟩ hs,by simpa using I.len⟩ ⟨c,hs,.inr hc⟩
  ·exact (hs.2 b (Nat.ne_of_lt (Nat.lt_of_lt_of_le (Heap.lt_size e) (I.ok.cab x c hfn hc)))).trans (I.base.keep b o e n hb hx)
  ·obtain⟨sl,e1⟩:=I.base.slot b o e n hb hx
   exact⟨sl,(hs.2 b (Nat.ne_of_lt (Nat.lt_of_lt_of_le (Heap.lt_size e) (I.ok.cab x c hfn hc)))).trans e1⟩
  ·obtain⟨o',e1⟩:=I.base.there b o e hx
   exact⟨o',(hs.2 b (Nat.ne_of_lt (Nat.lt_of_lt_of_le (Heap.lt_size e) (I.ok.cab x c hfn hc)))).trans e1⟩
  ·by_cases hj:j=i
   ·subst hj
    rw[hi] at e1;cases e1
    rw[List.getElem?_set_self hiσ] at e2
    cases e2
    exact⟨u,r,.inr ⟨.inl hk,c,hc,hc'⟩⟩
   ·rw[List.getElem?_set_ne (Ne.symm hj)] at e2
    obtain⟨u',r',q⟩:=hl j y v' e1 e2 e3
    refine⟨u',r',?_⟩
    rcases q with q|⟨k,c',e,z'⟩
    ·exact .inl q
    ·refine .inr ⟨k,c',e,z'.sameBut hs ?_⟩
     rintro rfl
     exact hj (nodup_ix hN e1 (I.ok.inj _ _ _ e hc▸hi))
  ·by_cases hcc:c'=c
   ·subst hcc;exact⟨_,hc'⟩
   ·obtain⟨w2,z2⟩:=I.cell y c' e
    exact⟨w2,z2.sameBut hs hcc⟩
  ·obtain⟨e,n,ne,nf,d⟩:=I.pin p hp
   refine⟨(hs.2 p.1 ?_).trans e,n,ne,nf,d⟩
   intro q
   rw[q,hoc] at e
   have q':oc=p.2:=Option.some.inj e
   exact d w' (by rw[<- q'];exact hocd)
theorem store_ok {M:Model}{A:Around}{E:Value->Shared->Prop}{i:Nat}{x:Str}{v:V}{u:Value}{Q:Unit->Shared->Prop}(I:Inv X pins σ H s) (hN:X.N.Nodup) (hi:X.N[i]?=some x) (hx:Loc X.env.scope x) (r:RelV v u)
  (h:∀s',Inv X pins (σ.set i (some v)) H s'->Q () s') (hf:X.fn x=true\/X.env.scope.names.lookup x=some .local:=by first|exact .inl rfl|exact .inr rfl|assumption):wpAny M A (storeName X.env x u) Q E s:=
 store_ok2 I hN hi hx r (λs' I' _=>h s' I') hf
theorem Inv.call' {s':Shared}{ch:List Addr}(I:Inv X pins σ H s) (ho:s'.os=s.os) (u:Un (frs X.stack) ch H H' s.heap s'.heap) (hok:HOk X.prog X.w H' s'.heap) (hg:AllBare s'.gens)
  (hch:∀b∈ch,(b∈X.ex\/X.s₀.heap.objs.size<=b)/\b≠X.env.locals/\(∀x c,X.env.cells.lookup x=some c->c≠b)/\∀p∈X.pn++pins,p.1≠b):Inv X pins σ H' s':=by
 obtain⟨h',g',d',t',o'⟩:=s'
 have e:o'=s.os:=ho
 subst e
 exact I.call (g':=g') (t':=t') (d':=d') u hok hg hch
end
abbrev XK:=Value->Option Addr->Hp->Prop
abbrev St:=List (Option V)
abbrev VK:=V->Hp->Prop
abbrev TE:=St->Hp->VK->Prop
abbrev TT:=St->Hp->(Bool->Hp->Prop)->Prop
abbrev TA:=St->Hp->(List V->Hp->Prop)->Prop
structure Ends where
 nx:St->Hp->Prop
 rt:VK
 bk:St->Hp->Prop:=λ_ _=>False
 ct:St->Hp->Prop:=λ_ _=>False
abbrev TS:=Ends->St->Hp->Prop
def EP (X:Cx) (pins:List (Addr×Obj)) (σ:St) (Q:VK) (u:Value) (s':Shared):Prop:=∃v H',Inv X pins σ H' s'/\RelV v u/\Q v H'
def TP (X:Cx) (pins:List (Addr×Obj)) (σ:St) (Q:Bool->Hp->Prop) (b:Bool) (s':Shared):Prop:=∃H',Inv X pins σ H' s'/\Q b H'
def AP (X:Cx) (pins:List (Addr×Obj)) (σ:St) (Q:List V->Hp->Prop) (us:List Value) (s':Shared):Prop:=∃vs H',Inv X pins σ H' s'/\Vals vs us/\Q vs H'
def SP (X:Cx) (pins:List (Addr×Obj)) (D:Ends) (f:Flow) (s':Shared):Prop:=
 match f with
 |.next=>∃σ' H',Inv X pins σ' H' s'/\D.nx σ' H'
 |.brk=>∃σ' H',Inv X pins σ' H' s'/\D.bk σ' H'
 |.cont=>∃σ' H',Inv X pins σ' H' s'/\D.ct σ' H'
 |.ret u=>∃v σ' H',Inv X pins σ' H' s'/\RelV v u/\D.rt v H'
def PE (X:Cx) (e:Expr) (t:TE):Prop:=
 ∀(pins:List (Addr×Obj)) (s:Shared) (σ:St) (H:Hp) (Q:VK),Inv X pins σ H s->t σ H Q->wpAny (model X.prog X.w) X.A (eval e X.env) (EP X pins σ Q) X.xe s
def PT (X:Cx) (e:Expr) (t:TT):Prop:=
 ∀(pins:List (Addr×Obj)) (s:Shared) (σ:St) (H:Hp) (Q:Bool->Hp->Prop),Inv X pins σ H s->t σ H Q->wpAny (model X.prog X.w) X.A (isTrue e X.env (eval e X.env)) (TP X pins σ Q) X.xe s
def PW (X:Cx) (e:Expr) (t:TT):Prop:=
 ∀(whole:Sem Value) (pins:List (Addr×Obj)) (s:Shared) (σ:St) (H:Hp) (Q:Bool->Hp->Prop),Inv X pins σ H s->t σ H Q->wpAny (model X.prog X.w) X.A (isTrue e X.env whole) (TP X pins σ Q) X.xe s
theorem PW.pt {X:Cx}{e:Expr}{t:TT}(h:PW X e t):PT X e t:=h _
def PA (X:Cx) (es:List Expr) (t:TA):Prop:=
 ∀(pos:Pos) (pins:List (Addr×Obj)) (s:Shared) (σ:St) (H:Hp) (Q:List V->Hp->Prop),Inv X pins σ H s->t σ H Q->wpAny (model X.prog X.w) X.A (spliced (backTo pos (starEach es X.env))) (AP X pins σ Q) X.xe s
def PS (X:Cx) (st:Stmt) (t:TS):Prop:=
 ∀(pins:List (Addr×Obj)) (s:Shared) (σ:St) (H:Hp) (D:Ends),Inv X pins σ H s->t D σ H->wpAny (model X.prog X.w) X.A (exec st X.env) (SP X pins D) X.xe s
def PSs (X:Cx) (st:List Stmt) (t:TS):Prop:=
 ∀(pins:List (Addr×Obj)) (s:Shared) (σ:St) (H:Hp) (D:Ends),Inv X pins σ H s->t D σ H->wpAny (model X.prog X.w) X.A (execs st X.env) (SP X pins D) X.xe s
theorem thn {α:Type}{t:Sem α}{Q Q':α->Shared->Prop}{M:Model}{A:Around}{E:Value->Shared->Prop}{s:Shared}(h:wpAny M A t Q E s) (hQ:∀a s,Q a s->Q' a s):wpAny M A t Q' E s:=wpAny_mono h hQ λ_ _ x=>x
end L2
namespace L2
open PySem PySem.Spec PyProof.Rows
section
variable {X:Cx}
def tVar (i:Nat):TE:=λσ H Q=>∃v,σ[i]?=some (some v)/\Q v H
def tC (v:V):TE:=λ_ H Q=>Q v H
theorem pe_var {i:Nat}{x:Str}{pos:Pos}(hN:X.N[i]?=some x) (hv:Vis X.env.scope x) (hd:(x==("__debug__" : Str))=false:=by decide) (hcd:(x==("__classdict__" : Str))=false:=by decide):PE X (.Name x pos) (tVar i):=by
 intro pins s σ H Q I h
 obtain⟨v,e,h⟩:=h
 obtain⟨m,hn,hl⟩:=I.loc
 obtain⟨u,r,l⟩:=hl i x v hN e hv
 have fin:EP X pins σ Q u s:=⟨v,H,I,r,h⟩
 rcases l with ⟨hk,hm⟩|⟨hk,c,hc,hcell⟩
 ·exact wpAny_Name (wpAny_loadName_local I.ok.kind hk hn hm fin) hd
 ·rcases hk with hk|hk
  ·exact wpAny_Name (wpAny_loadName_cell I.ok.kind hk hc hcell fin) hd
  ·exact wpAny_Name (wpAny_loadName_free I.ok.kind hk hc hcell fin hcd) hd
theorem pe_int {i j pos}:PE X (.Constant (.int i) j pos) (tC (.int i)):=λ_ _ _ H _ I h=>wpAny_Constant_int ⟨.int i,H,I.tok _,⟨_,rfl⟩,h⟩
theorem pe_bl {b j pos}:PE X (.Constant (.bool b) j pos) (tC (.bl b)):=λ_ _ _ H _ I h=>Constant_bool ⟨.bl b,H,I,rfl,h⟩
theorem pe_non {j pos}:PE X (.Constant .none j pos) (tC .non):=λ_ _ _ H _ I h=>Constant_none ⟨.non,H,I,rfl,h⟩
theorem pe_str {x j pos}:PE X (.Constant (.str x) j pos) (tC (.str x)):=λ_ _ _ H _ I h=>Calls.Constant_str ⟨.str x,H,I.tok _,⟨_,rfl⟩,h⟩
def Gl (X:Cx) (x:Str):Prop:=X.env.kindOf x=some .globalImplicit
theorem ld_glob {E:Value->Shared->Prop}{pins:List (Addr×Obj)}{s:Shared}{σ:St}{H:Hp}{x:Str}{u:Value}{pos:Pos}{Q:Value->Shared->Prop}(I:Inv X pins σ H s) (hg:Gl X x) (hm:X.mg x=some u) (h:Q u s)
  (hd:(x==("__debug__" : Str))=false:=by decide):wpAny (model X.prog X.w) X.A (eval (.Name x pos) X.env) Q E s:=
 Calls.Name_function_global I.ok.kind hg (Calls.loadGlobal_global (by rw[I.ok.glob];exact I.mod.glob.keeps I.bk) hm h) hd
theorem ld_blt {E:Value->Shared->Prop}{pins:List (Addr×Obj)}{s:Shared}{σ:St}{H:Hp}{x:Str}{u:Value}{pos:Pos}{Q:Value->Shared->Prop}(I:Inv X pins σ H s) (hg:Gl X x) (hm:X.mg x=none) (hv:bootBuiltins x=some u) (h:Q u s)
  (hn:x ≠ "__name__":=by decide) (hd:(x==("__debug__" : Str))=false:=by decide):wpAny (model X.prog X.w) X.A (eval (.Name x pos) X.env) Q E s:=by
 obtain⟨mb,h1,h2⟩:=I.mod.blt
 exact Calls.Name_function_global I.ok.kind hg (Calls.loadGlobal_builtin (by rw[I.ok.glob];exact I.mod.glob.keeps I.bk) hm (by rw[I.ok.blt];exact h1.keeps I.bk) ((h2 x hn).trans hv) h) hd
theorem pe_glob {x:Str}{v:V}{u:Value}{pos:Pos}(hg:Gl X x) (hm:X.mg x=some u) (r:RelV v u) (hd:(x==("__debug__" : Str))=false:=by decide):PE X (.Name x pos) (tC v):=
 λ_ _ _ H _ I h=>ld_glob I hg hm ⟨v,H,I,r,h⟩ hd
theorem pe_bltn {x:Str}{v:V}{u:Value}{pos:Pos}(hg:Gl X x) (hm:X.mg x=none) (hv:bootBuiltins x=some u) (r:RelV v u) (hn:x ≠ "__name__":=by decide) (hd:(x==("__debug__" : Str))=false:=by decide):PE X (.Name x pos) (tC v):=
 λ_ _ _ H _ I h=>ld_blt I hg hm hv ⟨v,H,I,r,h⟩ hn hd
variable {a b:Expr}{ta tb:TE}{pos:Pos}
def PC (X:Cx) (op:CmpOp) (a b:Expr) (t:TE):Prop:=
 ∀(pins:List (Addr×Obj)) (s:Shared) (σ:St) (H:Hp) (Q:VK),Inv X pins σ H s->t σ H Q ->
  wpAny (model X.prog X.w) X.A (eval a X.env) (λv s₁=>wpAny (model X.prog X.w) X.A (eval b X.env) (λu s₂=>wpAny (model X.prog X.w) X.A (compareOp op v u) (EP X pins σ Q) X.xe s₂) X.xe s₁) X.xe s
theorem nobehind (b:Expr){op:CmpOp}(h:op≠.In) (h2:op≠.NotIn):behindInMarks op b=false:=by
 have e1:(op==CmpOp.In)=false:=by cases op<;>first|rfl|exact absurd rfl h
 have e2:(op==CmpOp.NotIn)=false:=by cases op<;>first|rfl|exact absurd rfl h2
 cases b<;>simp[behindInMarks,e1,e2]
def tB (t:TE):TT:=λσ H Q=>t σ H λx H1=>∃c,x=.bl c/\Q c H1
theorem pt_cmp {op:CmpOp}{t:TE}(h:PC X op a b t) (h1:behindInMarks op b=false:=by first|exact nobehind _ (by decide) (by decide)|rfl):PT X (.Compare a [op] [b] pos) (tB t):=by
 intro pins s σ H Q I hw
 refine wpAny_isTrue_Compare1 (thn (h pins s σ H _ I hw) λv s1 h1=>thn h1 λu s2 h2=>thn h2 λc s3 ⟨x,H1,I1,r1,q1⟩=>?_) h1
 obtain⟨d,rfl,q⟩:=q1
 cases r1
 exact wpAny_truthy_bool ⟨H1,I1,q⟩
theorem pt_val {e:Expr}{t:TE}(h:PE X e t) (he:∀whole,isTrue e X.env whole=(do let v <- whole;standAt e.pos;holding [v] (truthy v)):=by intro _;rfl):PT X e (tB t):=by
 intro pins s σ H Q I hw
 refine isTrue_plain (thn (h pins s σ H _ I hw) λv s1 ⟨x,H1,I1,r1,q1⟩=>?_) (he _)
 obtain⟨d,rfl,q⟩:=q1
 cases r1
 exact wpAny_truthy_bool ⟨H1,I1,q⟩
variable {tA tB':TT}{rest:List Expr}
def tAnd (t u:TT):TT:=λσ H Q=>t σ H λc H1=>if c=true then u σ H1 Q else Q false H1
def tOr (t u:TT):TT:=λσ H Q=>t σ H λc H1=>if c=true then Q true H1 else u σ H1 Q
def tNot (t:TT):TT:=λσ H Q=>t σ H λc H1=>Q (!c) H1
theorem pw_and1 (ha:PT X a tA):PW X (.BoolOp .And [a] pos) tA:=by
 intro wh pins s σ H Q I h
 refine isTrue_and (thn (ha pins s σ H Q I h) λc s1 e=>?_)
 cases c with
 |true=>exact isTrue_and_nil e
 |false=>exact e
theorem pw_or1 (ha:PT X a tA):PW X (.BoolOp .Or [a] pos) tA:=by
 intro wh pins s σ H Q I h
 refine isTrue_or (thn (ha pins s σ H Q I h) λc s1 e=>?_)
 cases c with
 |false=>exact isTrue_or_nil e
 |true=>exact e
theorem pw_and (ha:PT X a tA) (hb:PW X (.BoolOp .And (b::rest) pos) tB'):PW X (.BoolOp .And (a::b::rest) pos) (tAnd tA tB'):=by
 intro wh pins s σ H Q I h
 refine isTrue_and (thn (ha pins s σ H _ I h) λc s1 ⟨H1,I1,q1⟩=>?_)
 cases c with
 |true=>exact hb wh pins s1 σ H1 Q I1 q1
 |false=>exact⟨H1,I1,q1⟩
theorem pw_or (ha:PT X a tA) (hb:PW X (.BoolOp .Or (b::rest) pos) tB'):PW X (.BoolOp .Or (a::b::rest) pos) (tOr tA tB'):=by
 intro wh pins s σ H Q I h
 refine isTrue_or (thn (ha pins s σ H _ I h) λc s1 ⟨H1,I1,q1⟩=>?_)
 cases c with
 |true=>exact⟨H1,I1,q1⟩
 |false=>exact hb wh pins s1 σ H1 Q I1 q1
theorem pt_not (ha:PT X a tA):PT X (.UnaryOp .Not a pos) (tNot tA):=by
 intro pins s σ H Q I h
 exact isTrue_not (ha pins s σ H (λc H1=>Q (!c) H1) I h)
def tAndV (ta tb:TE):TE:=λσ H Q=>ta σ H λx H1=>∃c,x=.bl c/\if c=true then tb σ H1 Q else Q (.bl false) H1
def tNotV (ta:TE):TE:=λσ H Q=>ta σ H λx H1=>∃c,x=.bl c/\Q (.bl (!c)) H1
theorem pe_one {op}{t:TE}(h:PE X a t):PE X (.BoolOp op [a] pos) t:=λpins s σ H Q I hw=>BoolOp_one (h pins s σ H Q I hw)
theorem pe_and (ha:PE X a ta) (hb:PE X (.BoolOp .And (b::rest) pos) tb):PE X (.BoolOp .And (a::b::rest) pos) (tAndV ta tb):=by
 intro pins s σ H Q I h
 refine BoolOp_and (thn (ha pins s σ H _ I h) λv s1 ⟨x,H1,I1,r1,q1⟩=>?_)
 obtain⟨c,rfl,q1⟩:=q1
 cases r1
 refine wpAny_truthy_bool ?_
 cases c with
 |true=>exact hb pins s1 σ H1 Q I1 q1
 |false=>exact⟨.bl false,H1,I1,rfl,q1⟩
theorem pe_not (ha:PE X a ta):PE X (.UnaryOp .Not a pos) (tNotV ta):=by
 intro pins s σ H Q I h
 refine UnaryOp_ (thn (ha pins s σ H _ I h) λv s1 ⟨x,H1,I1,r1,q1⟩=>?_)
 obtain⟨c,rfl,q1⟩:=q1
 cases r1
 exact not_of (wpAny_truthy_bool ⟨.bl (!c),H1,I1,rfl,q1⟩)
end
end L2
namespace L2
open PySem PySem.Spec PyProof.Rows
def SqL (K:PySem.W.Frag) (H:Hp) (a:Addr) (xs:List V):Prop:=
 Rd H a (.lst xs) \/
  ∃(o:Obj) (its:Array Value) (n:Nat),K.lookup a=some o/\o.cls=.type "list" /\ o.dict=none/\o.data=.seq its n/\its.size<=sizeLine/\Vals xs its.toList
def SqT (K:PySem.W.Frag) (H:Hp) (a:Addr) (xs:List V):Prop:=
 Rd H a (.tup xs) \/
  ∃(o:Obj) (its:Array Value) (n:Nat),K.lookup a=some o/\o.cls=.type "tuple" /\ o.data=.seq its n/\its.size<=sizeLine/\Vals xs its.toList
def absV:Value->Option V
 |.none=>some .non
 |.bool b=>some (.bl b)
 |.int i _=>some (.int i)
 |.str x _=>some (.str x)
 |.bytes b _=>some (.byt b)
 |.float b _=>some (.flt b)
 |.ref a=>some (.ref a)
 |.type n=>some (.ty n)
 |_=>none
theorem RelV.abs {x:V}{u:Value}(r:RelV x u):absV u=some x:=by
 cases x with
 |non=>cases r;rfl
 |bl _=>cases r;rfl
 |int _=>obtain⟨t,rfl⟩:=r;rfl
 |str _=>obtain⟨t,rfl⟩:=r;rfl
 |byt _=>obtain⟨t,rfl⟩:=r;rfl
 |flt _=>obtain⟨t,rfl⟩:=r;rfl
 |ref _=>cases r;rfl
 |ty _=>cases r;rfl
theorem RelV.inj {x y:V}{u:Value}(r:RelV x u) (q:RelV y u):x=y:=Option.some.inj (r.abs.symm.trans q.abs)
theorem Vals.inj:∀{xs ys:List V}{us:List Value},Vals xs us->Vals ys us->xs=ys
 |_,_,_,.nil,.nil=>rfl
 |_,_,_,.cons r t,.cons r' t'=>by rw[r.inj r',Vals.inj t t']
section
variable {X:Cx}{pins:List (Addr×Obj)}{σ:St}{H:Hp}{s:Shared}{a:Addr}{xs ys:List V}
theorem SqL.of {K:PySem.W.Frag}(h:H a=some (.lst xs)):SqL K H a xs:=.inl (.inl h)
theorem SqT.of {K:PySem.W.Frag}(h:H a=some (.tup xs)):SqT K H a xs:=.inl (.inl h)
theorem Inv.list (I:Inv X pins σ H s) (h:SqL X.K H a xs):∃its:List Value,Vals xs its/\PlainL s.heap a its.toArray/\xs.length<=sizeLine:=by
 rcases h with h|⟨o,its,n,hk,hc,hd,hs,hz,r⟩
 ·obtain⟨z,its,n,r,e⟩:=h.ok I.hok
  exact⟨its,r,⟨_,n,e,rfl,rfl,rfl⟩,z⟩
 ·refine⟨its.toList,r,⟨o,n,I.kIn a o hk,hc,hd,by simpa using hs⟩,?_⟩
  have e:=r.length
  simp only[Array.length_toList] at e
  lia
theorem Inv.tuple (I:Inv X pins σ H s) (h:SqT X.K H a xs):∃its:List Value,Vals xs its/\IsTup s.heap a its.toArray/\xs.length<=sizeLine:=by
 rcases h with h|⟨o,its,n,hk,hc,hs,hz,r⟩
 ·obtain⟨z,its,r,p⟩:=h.ok I.hok
  exact⟨its,r,p,z⟩
 ·refine⟨its.toList,r,⟨o,I.kIn a o hk,hc,n,by simpa using hs⟩,?_⟩
  have e:=r.length
  simp only[Array.length_toList] at e
  lia
theorem Inv.list_inj (I:Inv X pins σ H s) (h:SqL X.K H a xs) (h':SqL X.K H a ys):xs=ys:=by
 obtain⟨its,r,⟨o,n,e,_,_,d⟩,_⟩:=I.list h
 obtain⟨its',r',⟨o',n',e',_,_,d'⟩,_⟩:=I.list h'
 rw[e] at e';cases e'
 rw[d] at d'
 injection d' with d1 _
 have:its=its':=by simpa using congrArg Array.toList d1
 subst this
 exact r.inj r'
theorem Inv.tuple_inj (I:Inv X pins σ H s) (h:SqT X.K H a xs) (h':SqT X.K H a ys):xs=ys:=by
 obtain⟨its,r,⟨o,e,_,n,d⟩,_⟩:=I.tuple h
 obtain⟨its',r',⟨o',e',_,n',d'⟩,_⟩:=I.tuple h'
 rw[e] at e';cases e'
 rw[d] at d'
 injection d' with d1 _
 have:its=its':=by simpa using congrArg Array.toList d1
 subst this
 exact r.inj r'
end
abbrev Cx.wish (X:Cx) (E:Value->Shared->Prop):Cx:={ X with xe:=E }
abbrev Cx.nox (X:Cx):Cx:=X.wish λ_ _=>False
theorem Cx.Ok.wish {X:Cx}(ok:X.Ok) (E:Value->Shared->Prop):(X.wish E).Ok:=
 ⟨ok.mod,ok.kind,ok.glob,ok.blt,ok.above,ok.inj,ok.has,ok.cab,ok.hd,ok.frames,ok.stk,ok.exf,ok.bs,ok.bsz,ok.noex,ok.exfs,ok.funs,ok.frf⟩
theorem Cx.Ok.unwish {X:Cx}{E:Value->Shared->Prop}(ok:(X.wish E).Ok):X.Ok:=
 ⟨ok.mod,ok.kind,ok.glob,ok.blt,ok.above,ok.inj,ok.has,ok.cab,ok.hd,ok.frames,ok.stk,ok.exf,ok.bs,ok.bsz,ok.noex,ok.exfs,ok.funs,ok.frf⟩
section
variable {X:Cx}{pins:List (Addr×Obj)}{σ:St}{H:Hp}{s:Shared}{E:Value->Shared->Prop}
theorem Inv.wish (I:Inv X pins σ H s) (E:Value->Shared->Prop):Inv (X.wish E) pins σ H s:=⟨I.ok.wish E,I.os,I.bare,I.base,I.loc,I.cell,I.free,I.freeC,I.pin,I.hok,I.len⟩
theorem Inv.unwish (I:Inv (X.wish E) pins σ H s):Inv X pins σ H s:=⟨I.ok.unwish,I.os,I.bare,I.base,I.loc,I.cell,I.free,I.freeC,I.pin,I.hok,I.len⟩
theorem SP.unwish {D:Ends}{f:Flow}{s':Shared}(h:SP (X.wish E) pins D f s'):SP X pins D f s':=by
 cases f with
 |next=>obtain⟨σ',H',I,q⟩:=h;exact⟨σ',H',I.unwish,q⟩
 |brk=>obtain⟨σ',H',I,q⟩:=h;exact⟨σ',H',I.unwish,q⟩
 |cont=>obtain⟨σ',H',I,q⟩:=h;exact⟨σ',H',I.unwish,q⟩
 |ret u=>obtain⟨v,σ',H',I,r,q⟩:=h;exact⟨v,σ',H',I.unwish,r,q⟩
theorem PE.nox {e:Expr}{t:TE}(h:PE X.nox e t):PE X e t:=λpins s σ H Q I hw=>
 wpAny_mono (h pins s σ H Q (I.wish _) hw) (λ_ _ ⟨v,H',I',r,q⟩=>⟨v,H',I'.unwish,r,q⟩) λ_ _ z=>False.elim z
theorem PT.nox {e:Expr}{t:TT}(h:PT X.nox e t):PT X e t:=λpins s σ H Q I hw=>
 wpAny_mono (h pins s σ H Q (I.wish _) hw) (λ_ _ ⟨H',I',q⟩=>⟨H',I'.unwish,q⟩) λ_ _ z=>False.elim z
theorem PSs.nox {st:List Stmt}{t:TS}(h:PSs X.nox st t):PSs X st t:=λpins s σ H D I hw=>
 wpAny_mono (h pins s σ H D (I.wish _) hw) (λ_ _ q=>q.unwish) λ_ _ z=>False.elim z
end
section
variable {X:Cx}{st:Stmt}{rest:List Stmt}{t u:TS}{e:Expr}{te:TE}{pos:Pos}
def tNext:TS:=λD σ H=>D.nx σ H
def tSeq (t u:TS):TS:=λD σ H=>t { D with nx:=u D } σ H
theorem pss_nil:PSs X [] tNext:=λ_ _ σ H _ I h=>wpAny_execs_nil ⟨σ,H,I,h⟩
theorem pss_cons (h1:PS X st t) (h2:PSs X rest u):PSs X (st::rest) (tSeq t u):=by
 intro pins s σ H D I h
 refine wpAny_execs_cons (thn (h1 pins s σ H { D with nx:=u D } I h) λf s1 q=>?_)
 cases f with
 |next=>
  obtain⟨σ',H',I',q⟩:=q
  exact h2 pins s1 σ' H' D I' q
 |ret v=>exact q
 |brk=>exact q
 |cont=>exact q
theorem pss_one (h1:PS X st t):PSs X [st] t:=by
 intro pins s σ H D I h
 refine wpAny_execs_cons (thn (h1 pins s σ H D I h) λf s1 q=>?_)
 cases f with
 |next=>exact wpAny_execs_nil q
 |ret v=>exact q
 |brk=>exact q
 |cont=>exact q
theorem Inv.quiet {pins:List (Addr×Obj)}{σ:St}{H:Hp}{s:Shared}(I:Inv X pins σ H s):interactive X.env=false:=by simp[interactive,I.ok.kind]
def tDrop (te:TE):TS:=λD σ H=>te σ H λ_ H1=>D.nx σ H1
theorem ps_expr (he:PE X e te) (hs:swapsWith e none pos.line X.env=pure false:=by rfl):PS X (.Expr e pos) (tDrop te):=by
 intro pins s σ H D I h
 exact wpAny_Expr_any (thn (he pins s σ H _ I h) λv s1 ⟨x,H1,I1,r1,q1⟩=>⟨σ,H1,I1,q1⟩) I.quiet hs
def tRet (te:TE):TS:=λD σ H=>te σ H D.rt
theorem ps_ret (he:PE X e te):PS X (.Return (some e) pos) (tRet te):=by
 intro pins s σ H D I h
 exact wpAny_Return_some (thn (he pins s σ H _ I h) λv s1 ⟨x,H1,I1,r1,q1⟩=>⟨x,σ,H1,I1,r1,q1⟩)
def tRetN:TS:=λD _ H=>D.rt .non H
theorem ps_retN:PS X (.Return none pos) tRetN:=λ_ _ σ H _ I h=>wpAny_Return_none ⟨.non,σ,H,I,rfl,h⟩
def tIfS (c:TT) (t u:TS):TS:=λD σ H=>c σ H λb H1=>if b=true then t D σ H1 else u D σ H1
theorem ps_if {c:Expr}{a b:List Stmt}{tc:TT}(hc:PT X c tc) (ha:PSs X a t) (hb:PSs X b u):PS X (.If c a b pos) (tIfS tc t u):=by
 intro pins s σ H D I h
 refine wpAny_If (thn (hc pins s σ H _ I h) λd s1 ⟨H1,I1,q1⟩=>?_)
 cases d with
 |true=>exact ha pins s1 σ H1 D I1 q1
 |false=>exact hb pins s1 σ H1 D I1 q1
def tNever:TS:=λ_ _ _=>False
theorem pss_never {sts:List Stmt}:PSs X sts tNever:=λ_ _ _ _ _ _ h=>h.elim
end
abbrev TG:=V->St->Hp->(St->Hp->Prop)->Prop
abbrev TGs:=List V->St->Hp->(St->Hp->Prop)->Prop
def PG (X:Cx) (target:Expr) (t:TG):Prop:=
 ∀(pins:List (Addr×Obj)) (s:Shared) (σ:St) (H:Hp) (v:V) (u:Value) (Q:St->Hp->Prop),Inv X pins σ H s->RelV v u->t v σ H Q ->
  wpAny (model X.prog X.w) X.A (assign target X.env u) (λ_ s'=>∃σ' H',Inv X pins σ' H' s'/\Q σ' H') X.xe s
def PGs (X:Cx) (ts:List Expr) (t:TGs):Prop:=
 ∀(pins:List (Addr×Obj)) (s:Shared) (σ:St) (H:Hp) (vs:List V) (us:List Value) (Q:St->Hp->Prop),Inv X pins σ H s->Vals vs us->t vs σ H Q ->
  wpAny (model X.prog X.w) X.A (assignInOrder ((assignEach ts X.env).map (·.2)) us) (λ_ s'=>∃σ' H',Inv X pins σ' H' s'/\Q σ' H') X.xe s
abbrev TSet:=V->V->V->Hp->(Hp->Prop)->Prop
def PSet (X:Cx) (t:TSet):Prop:=
 ∀(pins:List (Addr×Obj)) (s:Shared) (σ:St) (H:Hp) (o i v:V) (ov iv u:Value) (Q:Hp->Prop),Inv X pins σ H s->RelV o ov->RelV i iv->RelV v u->t o i v H Q ->
  wpAny (model X.prog X.w) X.A (setItem ov iv u) (λ_ s'=>∃H',Inv X pins σ H' s'/\Q H') X.xe s
section
variable {X:Cx}{pos:Pos}
def gName (i:Nat):TG:=λv σ H Q=>Q (σ.set i (some v)) H
theorem pg_name {i:Nat}{x:Str}(hN:X.N.Nodup) (hi:X.N[i]?=some x) (hx:Loc X.env.scope x) (hf:X.fn x=true\/X.env.scope.names.lookup x=some .local:=by first|exact .inl rfl|exact .inr rfl|assumption):PG X (.Name x pos) (gName i):=by
 intro pins s σ H v u Q I r h
 exact wpAny_assign_Name (store_ok I hN hi hx r (λs' I'=>⟨_,H,I',h⟩) hf)
def gNil:TGs:=λvs σ H Q=>vs=[]/\Q σ H
def gCons (t:TG) (u:TGs):TGs:=λvs σ H Q=>∃v r,vs=v::r/\t v σ H λσ' H'=>u r σ' H' Q
theorem pgs_nil:PGs X [] gNil:=by
 intro pins s σ H vs us Q I r h
 obtain⟨e,h⟩:=h
 subst e
 cases r
 exact assignInOrder_nil ⟨σ,H,I,h⟩
theorem pgs_cons {e:Expr}{es:List Expr}{t:TG}{u:TGs}(h1:PG X e t) (h2:PGs X es u)
  (hs:(assignEach (e::es) X.env).map (·.2)=assign e X.env::(assignEach es X.env).map (·.2):=by rfl):PGs X (e::es) (gCons t u):=by
 intro pins s σ H vs us Q I r h
 obtain⟨v,vr,e1,h⟩:=h
 subst e1
 cases r with
 |cons r rr=>
  rw[hs]
  refine assignInOrder_cons (thn (h1 pins s σ H _ _ _ I r h) λ_ s1 ⟨σ1,H1,I1,q1⟩=>?_)
  exact h2 pins s1 σ1 H1 _ _ Q I1 rr q1
def gTup (K:PySem.W.Frag) (n:Nat) (t:TGs):TG:=λv σ H Q=>∃a xs,v=.ref a/\SqT K H a xs/\xs.length=n/\t xs σ H Q
theorem pg_tup {es:List Expr}{k:Nat}{t:TGs}{n:Nat}(hc:X.calm=true) (h:PGs X es t)
  (hn:(assignEach es X.env).length=n:=by rfl) (hst:(assignEach es X.env).findIdx? (·.1)=none:=by rfl):PG X (.Tuple es k pos) (gTup X.K n t):=by
 intro pins s σ H v u Q I r hw
 obtain⟨a,xs,e1,hq,hl,hw⟩:=hw
 subst e1
 cases r
 obtain⟨its,rv,ht,hz⟩:=I.tuple hq
 refine assign_Tuple_tuple (I.ok.hd hc) ht (by simp[hn,<- hl,rv.length]) hst λh' hx=>?_
 have I1:Inv X pins σ H { s with heap:=h' }:=I.kept (t':=s.toks) λb o e=>hx b o (Nat.ne_of_lt (Heap.lt_size e)) e
 exact h pins _ σ H xs _ Q I1 (by simpa using rv) hw
def gSub (to ti:TE) (t:TSet):TG:=λv σ H Q=>to σ H λo H1=>ti σ H1 λi H2=>t o i v H2 λH3=>Q σ H3
theorem pg_sub {o i:Expr}{to ti:TE}{t:TSet}(ho:PE X o to) (hi:PE X i ti) (hs:PSet X t)
  (ha:∀v,assign (.Subscript o i pos) X.env v=(do
   let ov <- holding [v] (eval o X.env)
   let iv <- holding [v,ov] (eval i X.env)
   standAt pos
   holding [v,ov,iv] (setItem ov iv v)
   release [v,ov,iv] []):=by intro _;rfl):PG X (.Subscript o i pos) (gSub to ti t):=by
 intro pins s σ H v u Q I r h
 rw[ha]
 refine wpAny_bind (wpAny_holding (thn (ho pins s σ H _ I h) λov s1 ⟨x,H1,I1,r1,q1⟩=>?_))
 refine wpAny_bind (wpAny_holding (thn (hi pins s1 σ H1 _ I1 q1) λiv s2 ⟨y,H2,I2,r2,q2⟩=>?_))
 refine wpAny_bind (wpAny_standAt (wpAny_bind (wpAny_holding (thn (hs pins s2 σ H2 x y v ov iv u _ I2 r1 r2 r q2) λ_ s3 ⟨H3,I3,q3⟩=>?_))))
 exact wpAny_release ⟨σ,H3,I3,q3⟩
def tAsg (te:TE) (g:TG):TS:=λD σ H=>te σ H λx H1=>g x σ H1 D.nx
theorem ps_asg {tg e:Expr}{te:TE}{g:TG}(he:PE X e te) (hg:PG X tg g) (hs:swapsWithSole [tg] e pos.line X.env=pure false:=by rfl) (hw:swappedStores [tg] e X.env=pure none:=by rfl)
  (h1:(assignEach [tg] X.env).map (·.2)=[assign tg X.env]:=by rfl):PS X (.Assign [tg] e pos) (tAsg te g):=by
 intro pins s σ H D I h
 refine wpAny_Assign_stores (thn (he pins s σ H _ I h) λv s1 ⟨x,H1,I1,r1,q1⟩=>?_) hs hw
 rw[h1]
 exact thn (hg pins s1 σ H1 x v _ I1 r1 q1) λ_ s2 q=>q
theorem ps_set {i:Nat}{x:Str}{e:Expr}{te:TE}{pos':Pos}(hN:X.N.Nodup) (hi:X.N[i]?=some x) (hx:Loc X.env.scope x) (he:PE X e te) (hs:swapsWith e (some (.Name x pos')) pos.line X.env=pure false:=by rfl) (hf:X.fn x=true\/X.env.scope.names.lookup x=some .local:=by first|exact .inl rfl|exact .inr rfl|assumption) :
  PS X (.Assign [.Name x pos'] e pos) (tAsg te (gName i)):=by
 intro pins s σ H D I h
 refine wpAny_Assign_Name (thn (he pins s σ H _ I h) λv s1 ⟨y,H1,I1,r1,q1⟩=>?_) hs
 exact store_ok I1 hN hi hx r1 (λs2 I2=>⟨_,H1,I2,q1⟩) hf
end
section
variable {X:Cx}{pos:Pos}
end
structure It where
 go:Nat->Hp->Prop
 yld:Nat->Hp->V->Hp->Prop
 stop:Nat->Hp->Prop
def FpOk (X:Cx) (pins:List (Addr×Obj)) (H:Hp) (b:Addr):Prop:=
 H b=none/\b≠X.env.locals/\b∉X.fs/\(b∈X.ex\/X.s₀.heap.objs.size<=b)/\(∀x c,X.env.cells.lookup x=some c->c≠b)/\∀p∈X.pn++pins,p.1≠b
theorem Inv.fpOk {X:Cx}{pins:List (Addr×Obj)}{σ:St}{H H':Hp}{s:Shared}{b:Addr}(I:Inv X pins σ H s) (hb:s.heap.objs.size<=b) (hn:H' b=none):FpOk X pins H' b:=by
 refine⟨hn,Nat.ne_of_gt (Nat.lt_of_lt_of_le I.lt hb),I.nofs hb,.inr (Nat.le_trans I.sz hb),λx c e z=>?_,λp hp z=>?_⟩
 ·obtain⟨v,q⟩:=I.cell x c e
  exact absurd (Nat.lt_of_lt_of_le q.lt (by rw[z];exact hb)) (Nat.lt_irrefl _)
 ·exact absurd (Nat.lt_of_lt_of_le (Heap.lt_size (I.pin p hp).1) (by rw[z];exact hb)) (Nat.lt_irrefl _)
structure Turn (P:Program) (w:World) (K:PySem.W.Frag) (tg:Expr) (J:It) (fp:List Addr) (it:Addr) (tn:Nat->Heap->Prop):Prop where
 mem:it∈fp
 obj:∀i h,tn i h->∀b∈fp,∃o,h.get? b=some o/\∀v,o.data≠.cell v
 keep:∀i h h',tn i h->(∀b∈fp,∀o,h.get? b=some o->h'.get? b=some o)->tn i h'
 item:∀(X:Cx),X.prog=P->X.w=w->X.K=K->X.calm=true->∀(i:Nat) (pins:List (Addr×Obj)) (s:Shared) (σ:St) (H:Hp) (E:Value->Shared->Prop),Inv X pins σ H s->(∀b∈fp,FpOk X pins H b)->tn i s.heap->J.go i H ->
  wpAny (model P w) X.A (pyNext (.ref it)) (λr s1=>∃u,r=some u /\
   wpAny (model P w) X.A (letOwnedTupleGo tg (.ref it) u) (λ_ s2=>∃x H',Inv X pins σ H' s2/\RelV x u/\J.yld i H x H'/\tn (i+1) s2.heap/\∀b∈fp,H' b=none) E s1) E s
 done:∀(X:Cx),X.prog=P->X.w=w->X.K=K->X.calm=true->∀(i:Nat) (pins:List (Addr×Obj)) (s:Shared) (σ:St) (H:Hp) (E:Value->Shared->Prop),Inv X pins σ H s->(∀b∈fp,FpOk X pins H b)->tn i s.heap->J.stop i H ->
  wpAny (model P w) X.A (pyNext (.ref it)) (λr s1=>r=none/\Inv X pins σ H s1) E s
 self:∀(A:Around) (i:Nat) (s:Shared) (Q:Value->Shared->Prop) (E:Value->Shared->Prop),tn i s.heap->Q (.ref it) s->wpAny (model P w) A (pyIter (.ref it)) Q E s
abbrev TI:=St->Hp->(It->Hp->Prop)->Prop
def PIE (X:Cx) (pins:List (Addr×Obj)) (σ:St) (tg:Expr) (R:It->Hp->Prop) (itv:Value) (s2:Shared):Prop:=
 ∃(it:Addr) (fp:List Addr) (tn:Nat->Heap->Prop) (J:It) (H':Hp),itv=.ref it/\Inv X pins σ H' s2/\Turn X.prog X.w X.K tg J fp it tn/\tn 0 s2.heap/\(∀b∈fp,FpOk X pins H' b)/\R J H'
def PI (X:Cx) (tg iter:Expr) (wi:TI):Prop:=
 ∀(pins:List (Addr×Obj)) (s:Shared) (σ:St) (H:Hp) (R:It->Hp->Prop),Inv X pins σ H s->wi σ H R ->
  wpAny (model X.prog X.w) X.A (eval iter X.env) (λv s1=>wpAny (model X.prog X.w) X.A (pyIter v) (PIE X pins σ tg R) X.xe s1) X.xe s
theorem go_of {M:Model}{A:Around}{E:Value->Shared->Prop}{s:Shared}{tg:Expr}{it:Addr}{u:Value}{o:Obj}{n:String}{vs:Array Value}{Q:Unit->Shared->Prop}(ho:s.heap.get? it=some o) (hc:o.cls=.type n) (hd:o.data=.fields vs)
  (hn:["enumerate", "zip", "dict_itemiterator", "dict_reverseitemiterator", "odict_iterator", "itertools.zip_longest", "itertools.pairwise"].contains n=false) (hQ:Q () s):wpAny M A (letOwnedTupleGo tg (.ref it) u) Q E s:=by
 unfold letOwnedTupleGo
 cases tg<;>first
  |exact wpAny_pure hQ
  |(cases u<;>first
    |exact wpAny_pure hQ
    |(refine wpAny_bind (wpAny_load ho ?_)
      rw[hc,hd]
      show wpAny M A (if (["enumerate", "zip", "dict_itemiterator", "dict_reverseitemiterator", "odict_iterator", "itertools.zip_longest", "itertools.pairwise"].contains n&&vs[0]?==some (rawInt _))=true then _ else _) Q E s
      rw[if_neg (by intro h;rw[hn,Bool.false_and] at h;cases h)]
      exact wpAny_pure hQ))
def Itl (K:PySem.W.Frag) (a:Addr):It:=
 ⟨λi H=>∃xs x,SqL K H a xs/\xs[i]?=some x,λi H x H'=>H'=H/\∀xs,SqL K H a xs->xs[i]?=some x,λi H=>∃xs,SqL K H a xs/\xs.length<=i⟩
def Itt (K:PySem.W.Frag) (a:Addr):It:=
 ⟨λi H=>∃xs x,SqT K H a xs/\xs[i]?=some x,λi H x H'=>H'=H/\∀xs,SqT K H a xs->xs[i]?=some x,λi H=>∃xs,SqT K H a xs/\xs.length<=i⟩
def Itr (lo:Int) (n:Nat):It:=⟨λi _=>i<n,λi H x H'=>H'=H/\x=.int (lo+i),λi _=>n<=i⟩
theorem turn_list {P:Program}{w:World}{K:PySem.W.Frag}{tg:Expr}(a it:Addr):Turn P w K tg (Itl K a) [it] it (λi h=>h.IsListIter it a i) where
 mem:=by simp
 obj:=λi h st b hb=>by
  have e:b=it:=by simpa using hb
  subst e
  obtain⟨o,e,c,d⟩:=st
  exact⟨o,e,λv z=>by rw[d] at z;cases z⟩
 keep:=λi h h' st k=>st.at λo e=>k it (by simp) o e
 item:=by
  intro X hP hw hK hc i pins s σ H E I hf st hg
  subst hP hw hK
  obtain⟨xs,x,hq,hx⟩:=hg
  obtain⟨its,rv,p,hz⟩:=I.list hq
  obtain⟨u,hu,ru⟩:=rv.get hx
  obtain⟨f0,f1,f2,f3,f4,f5⟩:=hf it (by simp)
  refine wpAny_pyNext_list_item st p.isList (x:=u) (by simpa using hu) λh' st' sb=>?_
  have I1:Inv X pins σ H { s with heap:=h' }:=I.turned (t':=s.toks) (λb o hb e=>(sb.2 b hb).trans e) f0 f1 f3 f4 f5
  obtain⟨o,e,c,d⟩:=id st'
  exact⟨u,rfl,go_of (s:={ s with heap:=h' }) e c d (by decide) ⟨x,H,I1,ru,⟨rfl,λys hy=>by rw[I.list_inj hy hq];exact hx⟩,st',λb hb=>(hf b hb).1⟩⟩
 done:=by
  intro X hP hw hK hc i pins s σ H E I hf st hg
  subst hP hw hK
  obtain⟨xs,hq,hx⟩:=hg
  obtain⟨its,rv,p,hz⟩:=I.list hq
  obtain⟨f0,f1,f2,f3,f4,f5⟩:=hf it (by simp)
  have hl:=rv.length
  exact wpAny_pyNext_list_end (I.ok.hd hc) st p.isList (by simp;lia) λh' eb=>⟨rfl,I.turned (t':=s.toks) (λb o hb e=>eb b o hb e) f0 f1 f3 f4 f5⟩
 self:=λ_ _ _ _ _ st h=>wpAny_pyIter_listiter st h
theorem turn_tuple {P:Program}{w:World}{K:PySem.W.Frag}{tg:Expr}(a it:Addr):Turn P w K tg (Itt K a) [it] it (λi h=>h.IsTupleIter it a i) where
 mem:=by simp
 obj:=λi h st b hb=>by
  have e:b=it:=by simpa using hb
  subst e
  obtain⟨o,e,c,d⟩:=st
  exact⟨o,e,λv z=>by rw[d] at z;cases z⟩
 keep:=λi h h' st k=>st.at λo e=>k it (by simp) o e
 item:=by
  intro X hP hw hK hc i pins s σ H E I hf st hg
  subst hP hw hK
  obtain⟨xs,x,hq,hx⟩:=hg
  obtain⟨its,rv,p,hz⟩:=I.tuple hq
  obtain⟨u,hu,ru⟩:=rv.get hx
  obtain⟨f0,f1,f2,f3,f4,f5⟩:=hf it (by simp)
  refine wpAny_pyNext_tuple_item st (show s.heap.IsTuple a its.toArray from p) (x:=u) (by simpa using hu) λh' st' sb=>?_
  have I1:Inv X pins σ H { s with heap:=h' }:=I.turned (t':=s.toks) (λb o hb e=>(sb.2 b hb).trans e) f0 f1 f3 f4 f5
  obtain⟨o,e,c,d⟩:=id st'
  exact⟨u,rfl,go_of (s:={ s with heap:=h' }) e c d (by decide) ⟨x,H,I1,ru,⟨rfl,λys hy=>by rw[I.tuple_inj hy hq];exact hx⟩,st',λb hb=>(hf b hb).1⟩⟩
 done:=by
  intro X hP hw hK hc i pins s σ H E I hf st hg
  subst hP hw hK
  obtain⟨xs,hq,hx⟩:=hg
  obtain⟨its,rv,p,hz⟩:=I.tuple hq
  obtain⟨f0,f1,f2,f3,f4,f5⟩:=hf it (by simp)
  have hl:=rv.length
  exact wpAny_pyNext_tuple_end (I.ok.hd hc) st (show s.heap.IsTuple a its.toArray from p) (by simp;lia) λh' eb=>⟨rfl,I.turned (t':=s.toks) (λb o hb e=>eb b o hb e) f0 f1 f3 f4 f5⟩
 self:=λ_ _ _ _ _ st h=>wpAny_pyIter_tupleiter st h
theorem turn_range {P:Program}{w:World}{K:PySem.W.Frag}{tg:Expr}(it:Addr) (lo:Int) (n:Nat):Turn P w K tg (Itr lo n) [it] it (λi h=>IsRangeIter h it (lo+(i:Nat)*1) ((n:Int)-(i:Nat)) 1) where
 mem:=by simp
 obj:=λi h st b hb=>by
  have e:b=it:=by simpa using hb
  subst e
  exact⟨_,st,λv z=>by
   have z':Data.fields _=Data.cell v:=z
   cases z'⟩
 keep:=λi h h' st k=>k it (by simp) _ st
 item:=by
  intro X hP hw hK hc i pins s σ H E I hf st hg
  subst hP hw hK
  obtain⟨f0,f1,f2,f3,f4,f5⟩:=hf it (by simp)
  have W:=Walks.range (prog:=X.prog) (w:=X.w) (I.ok.hd hc) it lo 1 n
  refine W.item i s _ _ hg st λv h' tk hv st' kk=>?_
  obtain⟨t,rfl⟩:=hv
  have I1:Inv X pins σ H { s with heap:=h',toks:=tk }:=I.turned (λb o hb e=>kk b o (by simpa using hb) e) f0 f1 f3 f4 f5
  refine⟨_,rfl,go_of (s:={ s with heap:=h',toks:=tk }) (n:= "range_iterator") st' rfl rfl (by decide) ⟨.int (lo+i),H,I1,⟨t,?_⟩,⟨rfl,rfl⟩,st',λb hb=>(hf b hb).1⟩⟩
  rw[Int.mul_one]
 done:=by
  intro X hP hw hK hc i pins s σ H E I hf st hg
  subst hP hw hK
  obtain⟨f0,f1,f2,f3,f4,f5⟩:=hf it (by simp)
  exact wpAny_pyNext_range_end (I.ok.hd hc) st (by have:n<=i:=hg;lia) λh' eb=>⟨rfl,I.turned (t':=s.toks) (λb o hb e=>eb b o hb e) f0 f1 f3 f4 f5⟩
 self:=λ_ _ _ _ _ st h=>wpAny_pyIter_rangeiter st h
end L2
namespace L2
open PySem PySem.Spec PyProof.Rows
section
variable {X:Cx}{tg:Expr}
def iList (K:PySem.W.Frag) (tl:TE):TI:=λσ H R=>tl σ H λx H1=>∃a,x=.ref a/\(∃xs,SqL K H1 a xs)/\R (Itl K a) H1
def iTup (K:PySem.W.Frag) (tl:TE):TI:=λσ H R=>tl σ H λx H1=>∃a,x=.ref a/\(∃xs,SqT K H1 a xs)/\R (Itt K a) H1
theorem pi_list {l:Expr}{tl:TE}(hl:PE X l tl):PI X tg l (iList X.K tl):=by
 intro pins s σ H R I h
 refine thn (hl pins s σ H _ I h) λv s1 ⟨x,H1,I1,r1,q1⟩=>?_
 obtain⟨a,e,⟨xs,hq⟩,q⟩:=q1
 subst e
 cases r1
 obtain⟨its,rv,p,hz⟩:=I1.list hq
 refine wpAny_pyIter_list p.isList ?_
 refine⟨s1.heap.objs.size,[s1.heap.objs.size],_,_,H1,rfl,I1.kept (t':=s1.toks) λb o e=>Heap.get?_push_of_some _ e,turn_list a _,⟨_,Heap.get?_push_size _ rfl,rfl,rfl⟩,λb hb=>?_,q⟩
 have e:b=s1.heap.objs.size:=by simpa using hb
 subst e
 exact I1.fpOk (Nat.le_refl _) (I1.hok.fresh (Nat.le_refl _))
theorem pi_tup {l:Expr}{tl:TE}(hl:PE X l tl):PI X tg l (iTup X.K tl):=by
 intro pins s σ H R I h
 refine thn (hl pins s σ H _ I h) λv s1 ⟨x,H1,I1,r1,q1⟩=>?_
 obtain⟨a,e,⟨xs,hq⟩,q⟩:=q1
 subst e
 cases r1
 obtain⟨its,rv,p,hz⟩:=I1.tuple hq
 refine wpAny_pyIter_tuple (show s1.heap.IsTuple a its.toArray from p) ?_
 refine⟨s1.heap.objs.size,[s1.heap.objs.size],_,_,H1,rfl,I1.kept (t':=s1.toks) λb o e=>Heap.get?_push_of_some _ e,turn_tuple a _,⟨_,Heap.get?_push_size _ rfl,rfl,rfl⟩,λb hb=>?_,q⟩
 have e:b=s1.heap.objs.size:=by simpa using hb
 subst e
 exact I1.fpOk (Nat.le_refl _) (I1.hok.fresh (Nat.le_refl _))
theorem range_it {pins:List (Addr×Obj)}{σ:St}{H:Hp}{s:Shared}{R:It->Hp->Prop}{E:Value->Shared->Prop}{lo hi:Int}{t u v:Tok}{tk:Nat}(I:Inv X pins σ H s) (h1:-(2^62)<=lo) (h2:lo<2^62) (h3:-(2^62)<=hi) (h4:hi<2^62)
  (q:R (Itr lo (hi-lo).toNat) H):wpAny (model X.prog X.w) X.A (pyIter (.ref s.heap.objs.size)) (PIE X pins σ tg R) E { s with heap:=s.heap.push { cls:=.type "range",data:=.fields #[.int lo t,.int hi u,.int 1 v] },toks:=tk }:=by
 refine wpAny_pyIter_range (IsRange.new ..) (small_one h1 h2 h3 h4) ?_
 have I1:Inv X pins σ H { s with heap:=s.heap.push { cls:=.type "range",data:=.fields #[.int lo t,.int hi u,.int 1 v] },toks:=tk }:=I.kept λb o e=>Heap.get?_push_of_some _ e
 refine⟨(s.heap.push { cls:=.type "range",data:=.fields #[.int lo t,.int hi u,.int 1 v] }).objs.size,[(s.heap.push { cls:=.type "range",data:=.fields #[.int lo t,.int hi u,.int 1 v] }).objs.size],_,_,H,rfl,
  I1.kept (t':=tk) λb o e=>Heap.get?_push_of_some _ e,turn_range _ lo (hi-lo).toNat,?_,λb hb=>?_,q⟩
 ·have e1:lo+((0:Nat):Int)*1=lo:=by simp
  have e2:(((hi-lo).toNat:Nat):Int)-((0:Nat):Int)=Builtin.Range.rangeSize lo hi 1:=by rw[rangeSize_one];split<;>lia
  show IsRangeIter _ _ (lo+((0:Nat):Int)*1) ((((hi-lo).toNat:Nat):Int)-((0:Nat):Int)) 1
  rw[e1,e2]
  exact Heap.get?_push_size _ rfl
 ·have e:b=(s.heap.push { cls:=.type "range",data:=.fields #[.int lo t,.int hi u,.int 1 v] }).objs.size:=by simpa using hb
  subst e
  exact I1.fpOk (Nat.le_refl _) (I1.hok.fresh (Nat.le_refl _))
def iRng1 (ta:TA):TI:=λσ H R=>ta σ H λvs H1=>∃j:Int,vs=[.int j]/\-(2^62)<=j/\j<2^62/\R (Itr 0 j.toNat) H1
theorem pi_range1 {a:Expr}{ta:TA}{p pos:Pos}(hg:Gl X "range") (hm:X.mg "range" = none) (ha:PA X [a] ta) (hs:starEach [a] X.env=[(false,eval a X.env)]:=by rfl):PI X tg (.Call (.Name "range" p) [a] [] pos) (iRng1 ta):=by
 intro pins s σ H R I h
 refine Call_ (ld_blt I hg hm boot_range (PyProof.Rows.callWith_type1 (thn (ha pos pins s σ H _ I h) λus s1 ⟨vs,H1,I1,r1,q1⟩=>?_) hs rfl))
 obtain⟨j,e,q1,q2,q⟩:=q1
 subst e
 cases r1 with
 |cons r rr=>
  cases rr
  obtain⟨t,rfl⟩:=r
  exact call_range_1 (range_it I1 (by lia) (by lia) q1 q2 (by simpa using q))
def tFor (wi:TI) (g:TG) (tb:TS):TS:=λD σ H=>wi σ H λJ H1=>∃W:Nat->Nat->St->Hp->Prop,(∃m,W 0 m σ H1)/\∀i m σ H,W i m σ H ->
 (J.stop i H/\D.nx σ H)\/(J.go i H/\∃N:St->Hp->Prop,(∀σ' H',N σ' H'->∃m',m'<m/\W (i+1) m' σ' H')/\∀x H',J.yld i H x H'->g x σ H' λσ2 H2=>tb { D with nx:=N,ct:=N,bk:=D.nx } σ2 H2)
def pinsAt (fp:List Addr) (h:Heap):List (Addr×Obj):=fp.filterMap λb=>(h.get? b).map λo=>(b,o)
theorem mem_pinsAt {fp:List Addr}{h:Heap}{b:Addr}{o:Obj}(hb:b∈fp) (e:h.get? b=some o):(b,o)∈pinsAt fp h:=List.mem_filterMap.mpr ⟨b,hb,by rw[e];rfl⟩
theorem of_pinsAt {fp:List Addr}{h:Heap}{p:Addr×Obj}(hp:p∈pinsAt fp h):p.1∈fp/\h.get? p.1=some p.2:=by
 obtain⟨b,hb,e⟩:=List.mem_filterMap.mp hp
 cases q:h.get? b with
 |none=>rw[q] at e;cases e
 |some o=>
  rw[q] at e
  have e':(b,o)=p:=Option.some.inj e
  subst e'
  exact⟨hb,q⟩
theorem Inv.pinned {pins:List (Addr×Obj)}{σ:St}{H:Hp}{s:Shared}{fp:List Addr}(I:Inv X pins σ H s) (hf:∀b∈fp,FpOk X pins H b) (ho:∀b∈fp,∃o,s.heap.get? b=some o/\∀v,o.data≠.cell v):Inv X (pins++pinsAt fp s.heap) σ H s:=
 I.pins_of λp hp=>(List.mem_append.mp hp).elim (λz=>I.pin p (List.mem_append_right _ z)) λz=>by
  obtain⟨hb,e⟩:=of_pinsAt z
  obtain⟨f0,f1,f2,_⟩:=hf p.1 hb
  obtain⟨o,e',d⟩:=ho p.1 hb
  rw[e] at e';cases e'
  exact⟨e,f0,f1,f2,d⟩
theorem Inv.unpinned {pins pl:List (Addr×Obj)}{σ:St}{H:Hp}{s:Shared}(I:Inv X (pins++pl) σ H s):Inv X pins σ H s:=I.pins_of λp hp=>I.pin p (List.mem_append_right _ (List.mem_append_left _ hp))
theorem ps_for {iter:Expr}{body:List Stmt}{wi:TI}{g:TG}{tb:TS}{pos:Pos}(hp:PassesOwn (model X.prog X.w) X.A X.env X.xe) (hc:X.calm=true) (hi:PI X tg iter wi) (hg:PG X tg g) (hb:PSs X body tb)
  (hs:∀x,foldedSetIterable iter X.env x=pure x:=by intro _;rfl):PS X (.For tg iter body [] pos) (tFor wi g tb):=by
 intro pins s σ H D I h
 refine wpAny_For (thn (hi pins s σ H _ I h) λv s1 h1=>thn h1 λitv s2 h2=>?_) hs
 obtain⟨it,fp,tn,J,H2,e,I2,T,st2,f2,W,⟨m0,w0⟩,turn⟩:=h2
 subst e
 have stat:∀{H':Hp},(∀b∈fp,H' b=none)->∀b∈fp,FpOk X pins H' b:=λhn b hb=>⟨hn b hb,(f2 b hb).2⟩
 refine codeAny_forLoop_any (λn s'=>∃i σ' H',Inv X pins σ' H' s'/\tn i s'.heap/\(∀b∈fp,H' b=none)/\W i n σ' H') ?_ m0 ⟨0,σ,H2,I2,st2,λb hb=>(f2 b hb).1,w0⟩
 rintro n s3 ⟨i,σ3,H3,I3,st3,fr3,w3⟩
 rcases turn i n σ3 H3 w3 with ⟨stop,qn⟩|⟨go,N,hN,step⟩
 ·refine wpAny_passesOwn hp (thn (T.done X rfl rfl rfl hc i pins s3 σ3 H3 X.xe I3 (stat fr3) st3 stop) λr s4 ⟨hr,I4⟩=>?_)
  subst hr
  exact wpAny_execs_nil ⟨σ3,H3,I4,qn⟩
 ·refine wpAny_passesOwn hp (thn (T.item X rfl rfl rfl hc i pins s3 σ3 H3 X.xe I3 (stat fr3) st3 go) λr s4 ⟨u,hr,h4⟩=>?_)
  subst hr
  refine wpAny_passesOwn hp (thn h4 λ_ s5 ⟨x,H5,I5,r5,y5,st5,fr5⟩=>?_)
  have I5':=I5.pinned (stat fr5) (T.obj _ _ st5)
  refine wpAny_passesOwn hp (thn (hg _ s5 σ3 H5 x u _ I5' r5 (step x H5 y5)) λ_ s6 ⟨σ6,H6,I6,q6⟩=>?_)
  refine wpAny_passesOwn hp (thn (hb _ s6 σ6 H6 _ I6 q6) λf s7 q7=>?_)
  have again:∀{σ7:St}{H7:Hp},Inv X (pins++pinsAt fp s5.heap) σ7 H7 s7->N σ7 H7->∃m,m<n/\∃i σ' H',Inv X pins σ' H' s7/\tn i s7.heap/\(∀b∈fp,H' b=none)/\W i m σ' H':=λ{σ7 H7} I7 n7=>by
   obtain⟨m',hm,w7⟩:=hN σ7 H7 n7
   refine⟨m',hm,i+1,σ7,H7,I7.unpinned,T.keep _ _ _ st5 λb hb o e=>(I7.pin (b,o) (List.mem_append_right _ (List.mem_append_right _ (mem_pinsAt hb e)))).1,λb hb=>?_,w7⟩
   obtain⟨o,e,d⟩:=T.obj _ _ st5 b hb
   exact (I7.pin (b,o) (List.mem_append_right _ (List.mem_append_right _ (mem_pinsAt hb e)))).2.1
  cases f with
  |next=>obtain⟨σ7,H7,I7,n7⟩:=q7;exact again I7 n7
  |cont=>obtain⟨σ7,H7,I7,n7⟩:=q7;exact again I7 n7
  |brk=>obtain⟨σ7,H7,I7,q7⟩:=q7;exact⟨σ7,H7,I7.unpinned,q7⟩
  |ret v=>obtain⟨x7,σ7,H7,I7,r7,q7⟩:=q7;exact⟨x7,σ7,H7,I7.unpinned,r7,q7⟩
end
theorem for_list {K:PySem.W.Frag}{a:Addr}{xs:List V}{g:TG}{tb:TS}{D:Ends}{σ:St}{H:Hp}(Pv:Nat->St->Hp->Prop) (h0:Pv 0 σ H) (hl:∀i σ H,i<=xs.length->Pv i σ H->SqL K H a xs)
  (hs:∀i x σ H,xs[i]?=some x->Pv i σ H->g x σ H λσ2 H2=>tb { D with nx:=Pv (i+1),ct:=Pv (i+1),bk:=D.nx } σ2 H2) (hd:∀σ H,Pv xs.length σ H->D.nx σ H) :
  ∃W:Nat->Nat->St->Hp->Prop,(∃m,W 0 m σ H)/\∀i m σ H,W i m σ H ->
   ((Itl K a).stop i H/\D.nx σ H)\/((Itl K a).go i H/\∃N:St->Hp->Prop,(∀σ' H',N σ' H'->∃m',m'<m/\W (i+1) m' σ' H')/\∀x H',(Itl K a).yld i H x H'->g x σ H' λσ2 H2=>tb { D with nx:=N,ct:=N,bk:=D.nx } σ2 H2):=by
 refine⟨λi m σ H=>m=xs.length-i/\i<=xs.length/\Pv i σ H,⟨xs.length,by simp,Nat.zero_le _,h0⟩,?_⟩
 rintro i m σ H ⟨rfl,hi,p⟩
 have q:=hl i σ H hi p
 by_cases hlt:i<xs.length
 ·refine .inr ⟨⟨xs,xs[i],q,by simp[hlt]⟩,Pv (i+1),λσ' H' p'=>⟨xs.length-(i+1),by lia,rfl,hlt,p'⟩,λx H' y=>?_⟩
  obtain⟨e,y⟩:=y
  subst e
  exact hs i x σ _ (y xs q) p
 ·have e:i=xs.length:=by lia
  subst e
  exact .inl ⟨⟨xs,q,Nat.le_refl _⟩,hd σ H p⟩
theorem for_tup {K:PySem.W.Frag}{a:Addr}{xs:List V}{g:TG}{tb:TS}{D:Ends}{σ:St}{H:Hp}(Pv:Nat->St->Hp->Prop) (h0:Pv 0 σ H) (hl:∀i σ H,i<=xs.length->Pv i σ H->SqT K H a xs)
  (hs:∀i x σ H,xs[i]?=some x->Pv i σ H->g x σ H λσ2 H2=>tb { D with nx:=Pv (i+1),ct:=Pv (i+1),bk:=D.nx } σ2 H2) (hd:∀σ H,Pv xs.length σ H->D.nx σ H) :
  ∃W:Nat->Nat->St->Hp->Prop,(∃m,W 0 m σ H)/\∀i m σ H,W i m σ H ->
   ((Itt K a).stop i H/\D.nx σ H)\/((Itt K a).go i H/\∃N:St->Hp->Prop,(∀σ' H',N σ' H'->∃m',m'<m/\W (i+1) m' σ' H')/\∀x H',(Itt K a).yld i H x H'->g x σ H' λσ2 H2=>tb { D with nx:=N,ct:=N,bk:=D.nx } σ2 H2):=by
 refine⟨λi m σ H=>m=xs.length-i/\i<=xs.length/\Pv i σ H,⟨xs.length,by simp,Nat.zero_le _,h0⟩,?_⟩
 rintro i m σ H ⟨rfl,hi,p⟩
 have q:=hl i σ H hi p
 by_cases hlt:i<xs.length
 ·refine .inr ⟨⟨xs,xs[i],q,by simp[hlt]⟩,Pv (i+1),λσ' H' p'=>⟨xs.length-(i+1),by lia,rfl,hlt,p'⟩,λx H' y=>?_⟩
  obtain⟨e,y⟩:=y
  subst e
  exact hs i x σ _ (y xs q) p
 ·have e:i=xs.length:=by lia
  subst e
  exact .inl ⟨⟨xs,q,Nat.le_refl _⟩,hd σ H p⟩
theorem for_range {lo:Int}{n:Nat}{g:TG}{tb:TS}{D:Ends}{σ:St}{H:Hp}(Pv:Nat->St->Hp->Prop) (h0:Pv 0 σ H)
  (hs:∀i σ H,i<n->Pv i σ H->g (.int (lo+i)) σ H λσ2 H2=>tb { D with nx:=Pv (i+1),ct:=Pv (i+1),bk:=D.nx } σ2 H2) (hd:∀σ H,Pv n σ H->D.nx σ H) :
  ∃W:Nat->Nat->St->Hp->Prop,(∃m,W 0 m σ H)/\∀i m σ H,W i m σ H ->
   ((Itr lo n).stop i H/\D.nx σ H)\/((Itr lo n).go i H/\∃N:St->Hp->Prop,(∀σ' H',N σ' H'->∃m',m'<m/\W (i+1) m' σ' H')/\∀x H',(Itr lo n).yld i H x H'->g x σ H' λσ2 H2=>tb { D with nx:=N,ct:=N,bk:=D.nx } σ2 H2):=by
 refine⟨λi m σ H=>m=n-i/\i<=n/\Pv i σ H,⟨n,by simp,Nat.zero_le _,h0⟩,?_⟩
 rintro i m σ H ⟨rfl,hi,p⟩
 by_cases hlt:i<n
 ·refine .inr ⟨hlt,Pv (i+1),λσ' H' p'=>⟨n-(i+1),by lia,rfl,hlt,p'⟩,λx H' y=>?_⟩
  obtain⟨e,y⟩:=y
  subst e y
  exact hs i σ _ hlt p
 ·have e:i=n:=by lia
  subst e
  exact .inl ⟨Nat.le_refl _,hd σ H p⟩
end L2
namespace L2
open PySem PySem.Spec PyProof.Rows
abbrev R2:=V->V->Hp->VK->Prop
def OpR (X:Cx) (f:Value->Value->Sem Value) (r:R2):Prop:=
 ∀(pins:List (Addr×Obj)) (s:Shared) (σ:St) (H:Hp) (x y:V) (v u:Value) (Q:VK),Inv X pins σ H s->RelV x v->RelV y u->r x y H Q ->
  wpAny (model X.prog X.w) X.A (f v u) (EP X pins σ Q) X.xe s
def UnR (X:Cx) (f:Value->Sem Value) (r:V->Hp->VK->Prop):Prop:=
 ∀(pins:List (Addr×Obj)) (s:Shared) (σ:St) (H:Hp) (x:V) (v:Value) (Q:VK),Inv X pins σ H s->RelV x v->r x H Q ->
  wpAny (model X.prog X.w) X.A (f v) (EP X pins σ Q) X.xe s
def CallR (X:Cx) (f:Value) (r:List V->Hp->VK->Prop):Prop:=
 ∀(pins:List (Addr×Obj)) (s:Shared) (σ:St) (H:Hp) (xs:List V) (us:List Value) (Q:VK),Inv X pins σ H s->Vals xs us->r xs H Q ->
  wpAny (model X.prog X.w) X.A (call f us) (EP X pins σ Q) X.xe s
def tOp (r:R2) (ta tb:TE):TE:=λσ H Q=>ta σ H λx H1=>tb σ H1 λy H2=>r x y H2 Q
def tUn (r:V->Hp->VK->Prop) (ta:TE):TE:=λσ H Q=>ta σ H λx H1=>r x H1 Q
def rI (C:Int->Int->Prop) (g:Int->Int->V):R2:=λx y H Q=>∃i j,x=.int i/\y=.int j/\C i j/\Q (g i j) H
def rI0 (g:Int->Int->V):R2:=λx y H Q=>∃i j,x=.int i/\y=.int j/\Q (g i j) H
def rU (g:Int->V):V->Hp->VK->Prop:=λx H Q=>∃i,x=.int i/\Q (g i) H
section
variable {X:Cx}{a b c:Expr}{ta tb tc:TE}{pos:Pos}
theorem binT (ha:PE X a ta) (hb:PE X b tb){pins:List (Addr×Obj)}{s:Shared}{σ:St}{H:Hp}{R:V->V->Hp->Prop}(I:Inv X pins σ H s)
  (h:ta σ H λx H1=>tb σ H1 λy H2=>R x y H2){Q:Value->Shared->Prop}{f:Value->Value->Sem Value}
  (hf:∀v u s2 x y H2,Inv X pins σ H2 s2->RelV x v->RelV y u->R x y H2->wpAny (model X.prog X.w) X.A (f v u) Q X.xe s2) :
  wpAny (model X.prog X.w) X.A (eval a X.env) (λv s₁=>wpAny (model X.prog X.w) X.A (eval b X.env) (λu s₂=>wpAny (model X.prog X.w) X.A (f v u) Q X.xe s₂) X.xe s₁) X.xe s:=by
 refine thn (ha pins s σ H _ I h) λv s1 ⟨x,H1,I1,r1,q1⟩=>?_
 refine thn (hb pins s1 σ H1 _ I1 q1) λu s2 ⟨y,H2,I2,r2,q2⟩=>?_
 exact hf v u s2 x y H2 I2 r1 r2 q2
theorem pe_op {op:Operator}{r:R2}(ho:OpR X (binaryOp op) r) (ha:PE X a ta) (hb:PE X b tb):PE X (.BinOp a op b pos) (tOp r ta tb):=by
 intro pins s σ H Q I h
 exact wpAny_BinOp (binT ha hb I h λv u s2 x y H2 I2 rx ry q=>ho pins s2 σ H2 x y v u Q I2 rx ry q)
theorem pe_un {op:UnaryOp}{r:V->Hp->VK->Prop}(ho:UnR X (unaryOp op) r) (ha:PE X a ta):PE X (.UnaryOp op a pos) (tUn r ta):=by
 intro pins s σ H Q I h
 exact UnaryOp_ (thn (ha pins s σ H _ I h) λv s1 ⟨x,H1,I1,r1,q1⟩=>ho pins s1 σ H1 x v Q I1 r1 q1)
theorem opI {f:Value->Value->Sem Value}{C:Int->Int->Prop}{g:Int->Int->Int}
  (rule:∀(i j:Int) (t u:Tok) (s:Shared) (Q:Value->Shared->Prop) (E:Value->Shared->Prop),C i j->Q (.int (g i j) s.toks) { s with toks:=s.toks+1 }->wpAny (model X.prog X.w) X.A (f (.int i t) (.int j u)) Q E s) :
  OpR X f (rI C λi j=>.int (g i j)):=by
 intro pins s σ H x y v u Q I rx ry h
 obtain⟨i,j,rfl,rfl,hc,q⟩:=h
 obtain⟨t,rfl⟩:=rx
 obtain⟨t',rfl⟩:=ry
 exact rule i j t t' s _ _ hc ⟨.int (g i j),H,I.tok _,⟨_,rfl⟩,q⟩
theorem opI0 {f:Value->Value->Sem Value}{g:Int->Int->Int}
  (rule:∀(i j:Int) (t u:Tok) (s:Shared) (Q:Value->Shared->Prop) (E:Value->Shared->Prop),Q (.int (g i j) s.toks) { s with toks:=s.toks+1 }->wpAny (model X.prog X.w) X.A (f (.int i t) (.int j u)) Q E s) :
  OpR X f (rI0 λi j=>.int (g i j)):=by
 intro pins s σ H x y v u Q I rx ry h
 obtain⟨i,j,rfl,rfl,q⟩:=h
 obtain⟨t,rfl⟩:=rx
 obtain⟨t',rfl⟩:=ry
 exact rule i j t t' s _ _ ⟨.int (g i j),H,I.tok _,⟨_,rfl⟩,q⟩
theorem opB0 {f:Value->Value->Sem Value}{g:Int->Int->Bool}
  (rule:∀(i j:Int) (t u:Tok) (s:Shared) (Q:Value->Shared->Prop) (E:Value->Shared->Prop),Q (.bool (g i j)) s->wpAny (model X.prog X.w) X.A (f (.int i t) (.int j u)) Q E s) :
  OpR X f (rI0 λi j=>.bl (g i j)):=by
 intro pins s σ H x y v u Q I rx ry h
 obtain⟨i,j,rfl,rfl,q⟩:=h
 obtain⟨t,rfl⟩:=rx
 obtain⟨t',rfl⟩:=ry
 exact rule i j t t' s _ _ ⟨.bl (g i j),H,I,rfl,q⟩
def CDiv (i j:Int):Prop:=0<j/\j<1073741824
def CPow (i j:Int):Prop:=0<=j/\j<=1000000/\i.natAbs<2^64
def CMul (i j:Int):Prop:=(-(2^64)<i/\i<2^64)\/(-(2^64)<j/\j<2^64)
theorem CMul.ok {i j:Int}(h:CMul i j):IntMulOk i j:=by
 rcases h with ⟨h1,h2⟩|⟨h1,h2⟩
 ·exact .of_left (intBits_le_64 h1 h2)
 ·exact .of_right (intBits_le_64 h1 h2)
theorem op_add:OpR X (binaryOp .Add) (rI0 λi j=>.int (i+j)):=opI0 λ_ _ _ _ _ _ _ q=>add_int q
theorem op_sub:OpR X (binaryOp .Sub) (rI0 λi j=>.int (i-j)):=opI0 λ_ _ _ _ _ _ _ q=>sub_int q
theorem op_mul:OpR X (binaryOp .Mult) (rI CMul λi j=>.int (i*j)):=opI λ_ _ _ _ _ _ _ hc q=>mul_int q hc.ok
theorem op_fdiv:OpR X (binaryOp .FloorDiv) (rI CDiv λi j=>.int (i/j)):=opI λi j _ _ _ _ _ hc q=>by
 have h1:(0:Int)<j:=hc.1
 have h2:j<1073741824:=hc.2
 exact floordiv_int (by lia) (by rw[Int.fdiv_eq_ediv_of_nonneg i (by lia)];exact q) (.inl (PyProof.noPylong_small (by lia)))
theorem op_mod:OpR X (binaryOp .Mod) (rI (λ_ j=>0<j) λi j=>.int (i%j)):=opI λi j _ _ _ _ _ hc q=>by
 have h1:(0:Int)<j:=hc
 exact mod_int' (by lia) (by rw[Int.fmod_eq_emod_of_nonneg i (by lia)];exact q)
theorem op_pow:OpR X (binaryOp .Pow) (rI CPow λi j=>.int (i^j.toNat)):=opI λ_ _ _ _ _ _ _ hc q=>pow_int_small hc.1 hc.2.1 hc.2.2 q
theorem op_shl:OpR X (binaryOp .LShift) (rI CPow λi j=>.int (i*2^j.toNat)):=opI λ_ _ _ _ _ _ _ hc q=>lshift_int_small hc.1 hc.2.1 hc.2.2 q
theorem unI {f:Value->Sem Value}{g:Int->Int}
  (rule:∀(i:Int) (t:Tok) (s:Shared) (Q:Value->Shared->Prop) (E:Value->Shared->Prop),Q (.int (g i) s.toks) { s with toks:=s.toks+1 }->wpAny (model X.prog X.w) X.A (f (.int i t)) Q E s) :
  UnR X f (rU λi=>.int (g i)):=by
 intro pins s σ H x v Q I rx h
 obtain⟨i,rfl,q⟩:=h
 obtain⟨t,rfl⟩:=rx
 exact rule i t s _ _ ⟨.int (g i),H,I.tok _,⟨_,rfl⟩,q⟩
theorem un_neg:UnR X (unaryOp .USub) (rU λi=>.int (-i)):=unI λ_ _ _ _ _ q=>neg_int q
end
def scal:V->V->Bool
 |.non,.non=>true|.non,.int _=>true|.int _,.non=>true|.non,.bl _=>true|.bl _,.non=>true|.non,.str _=>true|.str _,.non=>true
 |.int _,.int _=>true|.bl _,.bl _=>true|.str _,.str _=>true|.byt _,.byt _=>true
 |.int _,.str _=>true|.str _,.int _=>true|.bl _,.str _=>true|.str _,.bl _=>true
 |_,_=>false
def rEq:R2:=λx y H Q=>scal x y=true/\Q (.bl (decide (x=y))) H
def rNe:R2:=λx y H Q=>scal x y=true/\Q (.bl (!decide (x=y))) H
theorem dec_int {i j:Int}:decide (V.int i=V.int j)=(i==j):=by
 rw[Bool.eq_iff_iff]
 simp
theorem dec_bl {i j:Bool}:decide (V.bl i=V.bl j)=(i==j):=by
 rw[Bool.eq_iff_iff]
 simp
theorem dec_str {i j:Str}:decide (V.str i=V.str j)=(i==j):=by
 rw[Bool.eq_iff_iff]
 simp
theorem dec_byt {i j:Array UInt8}:decide (V.byt i=V.byt j)=(i.toList==j.toList):=by
 rw[Bool.eq_iff_iff]
 cases i
 cases j
 simp
section
variable {X:Cx}{a b c:Expr}{ta tb tc:TE}{pos:Pos}
theorem fin_bl {pins:List (Addr×Obj)}{σ:St}{H:Hp}{s:Shared}{Q:VK}{k k':Bool}(I:Inv X pins σ H s) (q:Q (.bl k) H) (e:k=k'):EP X pins σ Q (.bool k') s:=by
 subst e
 exact⟨.bl k,H,I,rfl,q⟩
theorem op_eq:OpR X (compareOp .Eq) rEq:=by
 intro pins s σ H x y v u Q I rx ry h
 obtain⟨hs,q⟩:=h
 cases x with
 |non=>
  cases rx
  cases y with
  |non=>cases ry;exact PySem.EqNone.eq_none_none (fin_bl I q (by simp))
  |bl j=>cases ry;exact PySem.EqNone.eq_none_bool (fin_bl I q (by simp))
  |int j=>obtain⟨t',rfl⟩:=ry;exact PySem.EqNone.eq_none_int (fin_bl I q (by simp))
  |str j=>obtain⟨t',rfl⟩:=ry;exact PySem.EqNone.eq_none_str (fin_bl I q (by simp))
  |_=>exact absurd (show false=true from hs) Bool.false_ne_true
 |bl i=>
  cases rx
  cases y with
  |non=>cases ry;exact PySem.EqNone.eq_bool_none (fin_bl I q (by simp))
  |bl j=>cases ry;exact eq_bool (fin_bl I q dec_bl)
  |str j=>obtain⟨t',rfl⟩:=ry;exact PySem.EqMixed.eq_bool_str (fin_bl I q (by simp))
  |_=>exact absurd (show false=true from hs) Bool.false_ne_true
 |int i=>
  obtain⟨t,rfl⟩:=rx
  cases y with
  |non=>cases ry;exact PySem.EqNone.eq_int_none (fin_bl I q (by simp))
  |int j=>obtain⟨t',rfl⟩:=ry;exact eq_int (fin_bl I q dec_int)
  |str j=>obtain⟨t',rfl⟩:=ry;exact PySem.EqMixed.eq_int_str (fin_bl I q (by simp))
  |_=>exact absurd (show false=true from hs) Bool.false_ne_true
 |str i=>
  obtain⟨t,rfl⟩:=rx
  cases y with
  |non=>cases ry;exact PySem.EqNone.eq_str_none (fin_bl I q (by simp))
  |bl j=>cases ry;exact PySem.EqMixed.eq_str_bool (fin_bl I q (by simp))
  |int j=>obtain⟨t',rfl⟩:=ry;exact PySem.EqMixed.eq_str_int (fin_bl I q (by simp))
  |str j=>obtain⟨t',rfl⟩:=ry;exact eq_str (fin_bl I q dec_str)
  |_=>exact absurd (show false=true from hs) Bool.false_ne_true
 |byt i=>
  obtain⟨t,rfl⟩:=rx
  cases y with
  |byt j=>obtain⟨t',rfl⟩:=ry;exact PySem.W.eq_bytes (fin_bl I q dec_byt)
  |_=>exact absurd (show false=true from hs) Bool.false_ne_true
 |_=>cases y<;>exact absurd (show false=true from hs) Bool.false_ne_true
theorem op_ne:OpR X (compareOp .NotEq) rNe:=by
 intro pins s σ H x y v u Q I rx ry h
 obtain⟨hs,q⟩:=h
 cases x with
 |non=>
  cases rx
  cases y with
  |non=>cases ry;exact PySem.EqNone.ne_none_none (fin_bl I q (by simp))
  |bl j=>cases ry;exact PySem.EqNone.ne_none_bool (fin_bl I q (by simp))
  |int j=>obtain⟨t',rfl⟩:=ry;exact PySem.EqNone.ne_none_int (fin_bl I q (by simp))
  |str j=>obtain⟨t',rfl⟩:=ry;exact PySem.EqNone.ne_none_str (fin_bl I q (by simp))
  |_=>exact absurd (show false=true from hs) Bool.false_ne_true
 |bl i=>
  cases rx
  cases y with
  |non=>cases ry;exact PySem.EqNone.ne_bool_none (fin_bl I q (by simp))
  |bl j=>cases ry;exact ne_bool (fin_bl I q (congrArg not dec_bl))
  |str j=>obtain⟨t',rfl⟩:=ry;exact PySem.EqMixed.ne_bool_str (fin_bl I q (by simp))
  |_=>exact absurd (show false=true from hs) Bool.false_ne_true
 |int i=>
  obtain⟨t,rfl⟩:=rx
  cases y with
  |non=>cases ry;exact PySem.EqNone.ne_int_none (fin_bl I q (by simp))
  |int j=>obtain⟨t',rfl⟩:=ry;exact ne_int (fin_bl I q (congrArg not dec_int))
  |str j=>obtain⟨t',rfl⟩:=ry;exact PySem.EqMixed.ne_int_str (fin_bl I q (by simp))
  |_=>exact absurd (show false=true from hs) Bool.false_ne_true
 |str i=>
  obtain⟨t,rfl⟩:=rx
  cases y with
  |non=>cases ry;exact PySem.EqNone.ne_str_none (fin_bl I q (by simp))
  |bl j=>cases ry;exact PySem.EqMixed.ne_str_bool (fin_bl I q (by simp))
  |int j=>obtain⟨t',rfl⟩:=ry;exact PySem.EqMixed.ne_str_int (fin_bl I q (by simp))
  |str j=>obtain⟨t',rfl⟩:=ry;exact ne_str (fin_bl I q (congrArg not dec_str))
  |_=>exact absurd (show false=true from hs) Bool.false_ne_true
 |byt i=>
  obtain⟨t,rfl⟩:=rx
  cases y with
  |byt j=>obtain⟨t',rfl⟩:=ry;exact PySem.W.ne_bytes (fin_bl I q (congrArg not dec_byt))
  |_=>exact absurd (show false=true from hs) Bool.false_ne_true
 |_=>cases y<;>exact absurd (show false=true from hs) Bool.false_ne_true
theorem op_lt:OpR X (compareOp .Lt) (rI0 λi j=>.bl (decide (i<j))):=opB0 λ_ _ _ _ _ _ _ q=>lt_int q
theorem op_le:OpR X (compareOp .LtE) (rI0 λi j=>.bl (decide (i<=j))):=opB0 λ_ _ _ _ _ _ _ q=>le_int q
theorem op_gt:OpR X (compareOp .Gt) (rI0 λi j=>.bl (decide (j<i))):=opB0 λ_ _ _ _ _ _ _ q=>gt_int q
theorem OpR.or {f:Value->Value->Sem Value}{r r':R2}(h:OpR X f r) (h':OpR X f r'):OpR X f (λx y H Q=>r x y H Q\/r' x y H Q):=by
 intro pins s σ H x y v u Q I rx ry q
 rcases q with q|q
 ·exact h pins s σ H x y v u Q I rx ry q
 ·exact h' pins s σ H x y v u Q I rx ry q
theorem nomark (b:Expr){op:CmpOp}(h:op≠.In:=by decide) (h2:op≠.NotIn:=by decide):behindInMarks op b=false:=by
 have e1:(op==CmpOp.In)=false:=by cases op<;>first|rfl|exact absurd rfl h
 have e2:(op==CmpOp.NotIn)=false:=by cases op<;>first|rfl|exact absurd rfl h2
 cases b<;>simp[behindInMarks,e1,e2]
theorem pe_cmpR {op:CmpOp}{r:R2}(ho:OpR X (compareOp op) r) (ha:PE X a ta) (hb:PE X b tb) (hm:behindInMarks op b=false):PE X (.Compare a [op] [b] pos) (tOp r ta tb):=by
 intro pins s σ H Q I h
 exact wpAny_Compare1 (binT ha hb I h λv u s2 x y H2 I2 rx ry q=>ho pins s2 σ H2 x y v u Q I2 rx ry q) hm
def tTest (t:TE):TT:=λσ H Q=>t σ H λx H'=>∃k,x=.bl k/\Q k H'
theorem pt_cmpR {op:CmpOp}{r:R2}(ho:OpR X (compareOp op) r) (ha:PE X a ta) (hb:PE X b tb) (hm:behindInMarks op b=false):PT X (.Compare a [op] [b] pos) (tTest (tOp r ta tb)):=by
 intro pins s σ H Q I h
 refine wpAny_isTrue_Compare1 (thn (ha pins s σ H _ I h) λv s1 ⟨x,H1,I1,r1,q1⟩=>thn (hb pins s1 σ H1 _ I1 q1) λu s2 ⟨y,H2,I2,r2,q2⟩=>
  thn (ho pins s2 σ H2 x y v u _ I2 r1 r2 q2) λc s3 ⟨z,H3,I3,r3,k,e,q3⟩=>?_) hm
 subst e
 cases r3
 exact wpAny_truthy_bool ⟨H3,I3,q3⟩
def tChain (r r':R2) (ta tb tc:TE):TE:=λσ H Q=>ta σ H λx H1=>tb σ H1 λy H2=>r x y H2 λz H3=>∃k,z=.bl k /\
 (if k=true then tc σ H3 λw' H4=>r' y w' H4 Q else Q (.bl false) H3)
theorem pe_chain {op op':CmpOp}{r r':R2}(ho:OpR X (compareOp op) r) (ho':OpR X (compareOp op') r') (ha:PE X a ta) (hb:PE X b tb) (hc:PE X c tc)
  (hm:lastMarks [op,op'] [b,c]=false:=by with_unfolding_all rfl):PE X (.Compare a [op,op'] [b,c] pos) (tChain r r' ta tb tc):=by
 intro pins s σ H Q I h
 refine Compare_chain (thn (ha pins s σ H _ I h) λv s1 ⟨x,H1,I1,r1,q1⟩=>chain_link (thn (hb pins s1 σ H1 _ I1 q1) λu s2 ⟨y,H2,I2,r2,q2⟩=>
  thn (ho pins s2 σ H2 x y v u _ I2 r1 r2 q2) λd s3 ⟨z,H3,I3,r3,k,e,q3⟩=>?_)) hm
 subst e
 cases r3
 refine wpAny_truthy_bool ?_
 cases k with
 |false=>exact ite_ff ⟨.bl false,H3,I3,rfl,q3⟩
 |true=>exact ite_tt (chain_last (thn (hc pins s3 σ H3 _ I3 q3) λw' s4 ⟨z',H4,I4,r4,q4⟩=>ho' pins s4 σ H4 y z' u w' Q I4 r2 r4 q4))
theorem line63:(sizeLine:Nat)<2^63:=by rw[sizeLine_eq];decide
theorem op_add_str:OpR X (binaryOp .Add) (λx y H Q=>∃i j,x=.str i/\y=.str j/\i.length+j.length<=sizeLine/\Q (.str (i++j)) H):=by
 intro pins s σ H x y v u Q I rx ry h
 obtain⟨i,j,rfl,rfl,hz,q⟩:=h
 obtain⟨t,rfl⟩:=rx
 obtain⟨t',rfl⟩:=ry
 exact add_str (λt' tk=>⟨.str (i++j),H,I.tok _,⟨_,rfl⟩,q⟩) hz
theorem vals1 {x:V}{us:List Value}(r:Vals [x] us):∃u,us=[u]/\RelV x u:=by
 cases r with
 |cons r1 r2=>cases r2;exact⟨_,rfl,r1⟩
theorem vals2 {x y:V}{us:List Value}(r:Vals [x,y] us):∃u w',us=[u,w']/\RelV x u/\RelV y w':=by
 cases r with
 |cons r1 r2=>
  cases r2 with
  |cons r3 r4=>cases r4;exact⟨_,_,rfl,r1,r3⟩
theorem call_abs:CallR X (.builtin "abs") (λxs H Q=>∃i,xs=[.int i]/\Q (.int (if i<0 then -i else i)) H):=by
 intro pins s σ H xs us Q I r h
 obtain⟨i,rfl,q⟩:=h
 obtain⟨u,rfl,t,rfl⟩:=vals1 r
 exact call_abs_int λu tk=>⟨.int (if i<0 then -i else i),H,I.tok _,⟨_,rfl⟩,q⟩
theorem call_max2 (hc:X.calm=true):CallR X (.builtin "max") (λxs H Q=>∃i j,xs=[.int i,.int j]/\Q (.int (if j>i then j else i)) H):=by
 intro pins s σ H xs us Q I r h
 obtain⟨i,j,rfl,q⟩:=h
 obtain⟨u,w',rfl,⟨t,rfl⟩,⟨t',rfl⟩⟩:=vals2 r
 refine max_two_ints (I.ok.hd hc) λh' tk k=>⟨_,H,I.kept k,?_,q⟩
 by_cases hj:j>i
 ·rw[if_pos hj,if_pos hj];exact⟨_,rfl⟩
 ·rw[if_neg hj,if_neg hj];exact⟨_,rfl⟩
theorem call_min2 (hc:X.calm=true):CallR X (.builtin "min") (λxs H Q=>∃i j,xs=[.int i,.int j]/\Q (.int (if j<i then j else i)) H):=by
 intro pins s σ H xs us Q I r h
 obtain⟨i,j,rfl,q⟩:=h
 obtain⟨u,w',rfl,⟨t,rfl⟩,⟨t',rfl⟩⟩:=vals2 r
 refine min_two_ints (I.ok.hd hc) λh' tk k=>⟨_,H,I.kept k,?_,q⟩
 by_cases hj:j<i
 ·rw[if_pos hj,if_pos hj];exact⟨_,rfl⟩
 ·rw[if_neg hj,if_neg hj];exact⟨_,rfl⟩
theorem call_int1:CallR X (.type "int") (λxs H Q=>(∃i,xs=[.int i]/\Q (.int i) H)\/∃k,xs=[.bl k]/\Q (.int (if k then 1 else 0)) H):=by
 intro pins s σ H xs us Q I r h
 rcases h with ⟨i,rfl,q⟩|⟨k,rfl,q⟩
 ·obtain⟨u,rfl,t,rfl⟩:=vals1 r
  exact call_int_int ⟨.int i,H,I,⟨_,rfl⟩,q⟩
 ·obtain⟨u,rfl,r1⟩:=vals1 r
  cases r1
  exact call_int_bool ⟨.int (if k then 1 else 0),H,I.tok _,⟨_,rfl⟩,q⟩
theorem call_str_int:CallR X (.type "str") (λxs H Q=>∃i,xs=[.int i]/\i.natAbs.log2<1920/\Q (.str (toString i)) H):=by
 intro pins s σ H xs us Q I r h
 obtain⟨i,rfl,hz,q⟩:=h
 obtain⟨u,rfl,t,rfl⟩:=vals1 r
 exact PySem.P.str_of_int hz ⟨.str _,H,I.tok _,⟨_,rfl⟩,q⟩
end
end L2
namespace L2
open PySem PySem.Spec PyProof.Rows
structure ObjM (h:Heap) (x dx C:Addr) (mA:Str->Option Value):Prop where
 obj:h.get? x=some (PySem.W.instObj C dx)
 ns:h.Ns1 dx mA
 ne:dx≠x
theorem lookIn_ns {h:Heap}{dx:Addr}{mA:Str->Option Value}(n:h.Ns1 dx mA):∃od,h.get? dx=some od/\∀name,PySem.W.lookIn name od=some (mA name):=by
 obtain⟨o,es,ep,ho,hd,hk,_,hm⟩:=n
 refine⟨o,ho,λname=>?_⟩
 have e:=hm name
 unfold nsFind findBy at e
 rw[<- Array.find?_toList] at e
 unfold PySem.W.lookIn
 rw[hd]
 dsimp only
 split
 ·rename_i y q
  rw[q] at e
  exact congrArg some e
 ·rename_i q
  rw[q] at e
  have a:es.toList.any (·.refKey)=false:=by
   rw[List.any_eq_false]
   intro y hy
   obtain⟨z,t,hkey⟩:=hk y (Array.mem_toList_iff.mp hy)
   simp[DictEntry.refKey,hkey]
  have a':¬es.toList.any (·.refKey)=true:=by rw[a];exact Bool.false_ne_true
  rw[if_neg a']
  exact congrArg some e
theorem ObjM.look {h:Heap}{x dx C:Addr}{mA:Str->Option Value}(I:ObjM h x dx C mA):∃od,PySem.W.InstAt h x (PySem.W.instObj C dx) C (some od)/\∀name,PySem.W.lookIn name od=some (mA name):=
 let ⟨od,ho,hl⟩:=lookIn_ns I.ns
 ⟨od,⟨I.obj,rfl,rfl,ho⟩,hl⟩
section
variable {prog:Program}{w:World}{A:Around}{E:Value->Shared->Prop}{s:Shared}{K:PySem.W.Frag}{x dx C f:Addr}{mA:Str->Option Value}{name:Str}{v:Value}
end
theorem RelO.some_of {v:V}{o:Option Value}(r:RelO (some v) o):∃u,o=some u/\RelV v u:=by
 cases o with
 |none=>exact (show False from r).elim
 |some u=>exact⟨u,rfl,r⟩
theorem RelO.none_of {o:Option Value}(r:RelO none o):o=none:=by
 cases o with
 |none=>rfl
 |some u=>exact (show False from r).elim
section
variable {P:Program}{w:World}{H H':Hp}{h h':Heap}{a C dx:Addr}{fs fs':List (Str×V)}
theorem ins_get (hok:HOk P w H h) (e:H a=some (.ins C dx fs)):∃mA,ObjM h a dx C mA/\(∀f,RelO (fs.lookup f) (mA f))/\PySem.Within mA (fs.map (·.1))/\fs.length<=1000/\H dx=some (.own a):=by
 obtain⟨d,z,ne,ob,mA,n,r,q⟩:=(show ObjOk P w H h a (.ins C dx fs) from hok a _ e)
 exact⟨mA,⟨ob,n,ne⟩,r,q,z,d⟩
end
structure Cls (K:PySem.W.Frag) (C:Addr):Prop where
 pg:PySem.W.plainGet K C Str.empty=true
 hd:PySem.W.hasDictIn K C=true
 po:PySem.W.plainOver K C=true
 sa:PySem.W.findIn K (.ref C) "__setattr__" = some (some (.builtin "object.__setattr__"))
theorem Cls.get {K:PySem.W.Frag}{C:Addr}(c:Cls K C) (f:Str):PySem.W.plainGet K C f=true:=c.pg
structure Con (K:PySem.W.Frag) (C:Addr) (f:Str) (v:V) (u:Value):Prop where
 at_:PySem.W.findIn K (.ref C) f=some (some u)
 rel:RelV v u
 get:PySem.W.specialIn K u "__get__" = some none
 cp:PySem.W.copiedNames.contains f=false
structure Meth (K:PySem.W.Frag) (C:Addr) (m:Str) (f:Addr):Prop where
 at_:PySem.W.findIn K (.ref C) m=some (some (.ref f))
 fn:PySem.W.isFn K (.ref f)=true
 kp:PySem.W.keepIn K (.ref f)=true
section
variable {X:Cx}{pins:List (Addr×Obj)}{σ:St}{H:Hp}{s:Shared}{a C dx:Addr}{fs:List (Str×V)}{f:Str}{v:V}{A:Around}{E:Value->Shared->Prop}
theorem Inv.made (I:Inv X pins σ H s):Inv X pins σ (upd (upd H s.heap.objs.size (.own (s.heap.objs.size+1))) (s.heap.objs.size+1) (.ins C s.heap.objs.size []))
  { s with heap:=(s.heap.push PySem.W.emptyDict).push (PySem.W.instObj C s.heap.objs.size) }:=by
 have e1:(s.heap.push PySem.W.emptyDict).get? s.heap.objs.size=some PySem.W.emptyDict:=Heap.get?_push_size s.heap rfl
 have e2:((s.heap.push PySem.W.emptyDict).push (PySem.W.instObj C s.heap.objs.size)).get? (s.heap.objs.size+1)=some (PySem.W.instObj C s.heap.objs.size):=by
  have:=Heap.get?_push_size (s.heap.push PySem.W.emptyDict) (o:=PySem.W.instObj C s.heap.objs.size) rfl
  rwa [Heap.size_push] at this
 have e3:(s.heap.push PySem.W.emptyDict).Ns s.heap.objs.size (λ_=>none):=⟨PySem.W.emptyDict,#[],_,e1,rfl,(λe he=>absurd he (by simp)),λ_=>rfl⟩
 have I1:=I.laid (a:=s.heap.objs.size) (o:=.own (s.heap.objs.size+1)) (h':=s.heap.push PySem.W.emptyDict) (t':=s.toks) (λb u q=>Heap.get?_push_of_some _ q) (Nat.le_refl _) ⟨_,e1⟩
 refine I1.laid (a:=s.heap.objs.size+1) (o:=.ins C s.heap.objs.size []) (t':=s.toks) (λb u q=>Heap.get?_push_of_some _ q) (Nat.le_of_eq (Heap.size_push _ _)) ?_
 have ne:s.heap.objs.size≠s.heap.objs.size+1:=Nat.ne_of_lt (Nat.lt_succ_self _)
 refine⟨by rw[upd_ne ne,upd_same],Nat.zero_le _,ne,e2,λ_=>none,(Heap.Ns1.of_empty e3).at λo q=>Heap.get?_push_of_some _ q,λ_=>True.intro,λy hy=>absurd rfl hy⟩
end
section
variable {X:Cx}{o e value:Expr}{f:Str}{pos pos' tpos:Pos}{ta tv:TE}
end
section
variable {X:Cx}{pins:List (Addr×Obj)}{σ:St}{H:Hp}{s:Shared}{A:Around}{E:Value->Shared->Prop}{Q:Value->Shared->Prop}{c:Value}{b:Bool}
inductive TyOf (K:PySem.W.Frag) (H:Hp):V->Value->Prop where
 |non:TyOf K H .non (.type "NoneType")
 |bl (x:Bool):TyOf K H (.bl x) (.type "bool")
 |int (i:Int):TyOf K H (.int i) (.type "int")
 |str (x:Str):TyOf K H (.str x) (.type "str")
 |flt (x:UInt64):TyOf K H (.flt x) (.type "float")
 |lst {a:Addr}{xs:List V}(e:H a=some (.lst xs)):TyOf K H (.ref a) (.type "list")
 |frz {a:Addr}{o:Obj}{xs:List V}(e:H a=some (.frz o (.lst xs))):TyOf K H (.ref a) (.type "list")
 |tup {a:Addr}{xs:List V}(e:H a=some (.tup xs)):TyOf K H (.ref a) (.type "tuple")
 |dK {a:Addr}{kvs:List (Key×V)}(e:H a=some (.dK kvs)):TyOf K H (.ref a) (.type "dict")
 |dT {a:Addr}{kvs:List (List Key×V)}(e:H a=some (.dT kvs)):TyOf K H (.ref a) (.type "dict")
 |ins {a C dx:Addr}{fs:List (Str×V)}(e:H a=some (.ins C dx fs)) (cl:Cls K C) (ha:PySem.W.findIn K (.ref C) "__class__" = some (some (.builtin "object.__class__")))
   (hn:PySem.W.specialIn K (.builtin "object.__class__") "__get__" = some (some (.builtin "getset_descriptor.__get__"))) (htk:PySem.W.takesIn K (.builtin "object.__class__")=some true)
   (hm:PySem.W.mroIn K C (.type "object")=some true):TyOf K H (.ref a) (.ref C)
theorem isinst_ok {x:V}{u t:Value}(I:Inv X pins σ H s) (rx:RelV x u) (ty:TyOf X.K H x t) (e:PySem.W.kitOne X.K t c=some b) (h:∀tk,Q (.bool b) { s with toks:=tk }) :
  wpAny (model X.prog X.w) A (call (.builtin "isinstance") [u,c]) Q E s:=by
 cases ty with
 |non=>cases (show u=Value.none from rx);exact PySem.W.kia_one PySem.W.kitx_none I.kIn True.intro e (λz=>nomatch z) h
 |bl y=>cases (show u=Value.bool y from rx);exact PySem.W.kia_one PySem.W.kitx_bool I.kIn True.intro e (λz=>nomatch z) h
 |int i=>obtain⟨t,q⟩:=(show ∃t,u=Value.int i t from rx);cases q;exact PySem.W.kia_one PySem.W.kitx_int I.kIn True.intro e (λz=>nomatch z) h
 |str y=>obtain⟨t,q⟩:=(show ∃t,u=Value.str y t from rx);cases q;exact PySem.W.kia_one PySem.W.kitx_str I.kIn True.intro e (λz=>nomatch z) h
 |flt y=>obtain⟨t,q⟩:=(show ∃t,u=Value.float y t from rx);cases q;exact PySem.W.kia_one PySem.W.kitx_float I.kIn True.intro e (λz=>nomatch z) h
 |@lst a xs ea=>
  cases (show u=Value.ref a from rx)
  obtain⟨_,_,n,_,h1⟩:=(show ObjOk X.prog X.w H s.heap a (.lst xs) from I.hok a _ ea)
  exact PySem.W.kia_one PySem.W.kitx_list I.kIn ⟨_,h1,rfl⟩ e (λz=>nomatch z) h
 |@frz a ob xs ea=>
  cases (show u=Value.ref a from rx)
  obtain⟨_,_,_,n,_,h1⟩:=(show ObjOk X.prog X.w H s.heap a (.frz ob (.lst xs)) from I.hok a _ ea)
  exact PySem.W.kia_one PySem.W.kitx_list I.kIn ⟨_,h1,rfl⟩ e (λz=>nomatch z) h
 |@tup a xs ea=>
  cases (show u=Value.ref a from rx)
  obtain⟨_,_,_,p⟩:=(show ObjOk X.prog X.w H s.heap a (.tup xs) from I.hok a _ ea)
  obtain⟨o,h1,h2,_⟩:=p
  exact PySem.W.kia_one PySem.W.kitx_tuple I.kIn ⟨o,h1,h2⟩ e (λz=>nomatch z) h
 |@dK a kvs ea=>
  cases (show u=Value.ref a from rx)
  obtain⟨_,_,vs,_,p⟩:=(show ObjOk X.prog X.w H s.heap a (.dK kvs) from I.hok a _ ea)
  obtain⟨o,es,ep,h1,h2,_⟩:=p
  exact PySem.W.kia_one PySem.W.kitx_dict I.kIn ⟨o,h1,h2.1⟩ e (λz=>nomatch z) h
 |@dT a kvs ea=>
  cases (show u=Value.ref a from rx)
  obtain⟨_,_,xs,_,o,es,ep,h1,h2,_⟩:=(show ObjOk X.prog X.w H s.heap a (.dT kvs) from I.hok a _ ea)
  exact PySem.W.kia_one PySem.W.kitx_dict I.kIn ⟨o,h1,h2.1⟩ e (λz=>nomatch z) h
 |@ins a C dx fs ea cl ha hn htk hm=>
  cases (show u=Value.ref a from rx)
  obtain⟨mA,O,_⟩:=ins_get I.hok ea
  obtain⟨od,J,_⟩:=O.look
  exact PySem.W.kia_one (PySem.W.kitx_own (cl.get _) cl.hd ha hn htk hm) I.kIn J e (λz=>nomatch z) h
end
end L2
namespace L2
open PySem PySem.Spec PyProof.Rows
structure Room (k:Nat) (A:Around):Prop where
 hd:A.handled=none
 dp:A.depth+3*k+5<recursionLimit
 un:A.units+16*k+200<cLine
 gd:A.guards=some []
theorem Room.mono {j k:Nat}{A:Around}(r:Room k A) (h:j<=k):Room j A:=⟨r.hd,by have:=r.dp;lia,by have:=r.un;lia,r.gd⟩
theorem Room.deeper {k:Nat}{A:Around}(r:Room (k+1) A) (env:Env):Room k (A.deeper env):=
 ⟨r.hd,by have:=r.dp;show A.depth+1+3*k+5<_;lia,by have:=r.un;show A.units+3+16*k+200<_;lia,r.gd⟩
theorem Room.in1 {k:Nat}{A:Around}(r:Room (k+1) A):Room k A.in1:=
 ⟨r.hd,by have:=r.dp;show A.depth+3*k+5<_;lia,by have:=r.un;show A.units+1+16*k+200<_;lia,r.gd⟩
theorem make_depth {A:Around}{C:Addr}{us:List Value}{kw:List (Str×Value)}:(A.under (.builtin "type.__call__" ⟨.ref C::us,kw⟩)).depth=A.depth+1:=by
 first|rfl|simp[Around.under,Code.weight,Code.isCreation,Code.isGuard,Code.isCaller,Code.frames,Code.isFrame,guardIds]
theorem make_units {A:Around}{C:Addr}{us:List Value}{kw:List (Str×Value)}:(A.under (.builtin "type.__call__" ⟨.ref C::us,kw⟩)).units=A.units+1:=by
 first|rfl|simp[Around.under,Code.cUnits,Code.frames,Code.isFrame]
theorem make_guards {A:Around}{C:Addr}{us:List Value}{kw:List (Str×Value)}:(A.under (.builtin "type.__call__" ⟨.ref C::us,kw⟩)).guards=A.guards:=by
 first|rfl|(unfold Around.under;simp[Code.guards,Code.isGuard,guardIds,pushGuards])|(cases h:A.guards<;>simp[Around.under,Code.guards,Code.isGuard,guardIds,pushGuards,h])
theorem Room.make {k:Nat}{A:Around}(r:Room (k+1) A) (C:Addr) (us:List Value) (kw:List (Str×Value)):Room k (A.under (.builtin "type.__call__" ⟨.ref C::us,kw⟩)):=
 ⟨r.hd,by have:=r.dp;rw[make_depth];lia,by have:=r.un;rw[make_units];lia,by rw[make_guards];exact r.gd⟩
theorem Room.depth {k:Nat}{A:Around}(r:Room k A):A.depth<recursionLimit:=by have:=r.dp;lia
theorem Room.units {k:Nat}{A:Around}(r:Room k A):A.units+64<cLine:=by have:=r.un;lia
def tNil:TA:=λ_ H Q=>Q [] H
def tCons (ta:TE) (tr:TA):TA:=λσ H Q=>ta σ H λx H1=>tr σ H1 λxs H2=>Q (x::xs) H2
section
variable {X:Cx}{e:Expr}{es:List Expr}{te:TE}{t:TA}{pos:Pos}
theorem pa_nil:PA X [] tNil:=λ_ _ _ _ H Q I h=>Calls.spliced_nil ⟨[],H,I,.nil,h⟩
theorem pa_cons (ha:PE X e te) (hr:PA X es t) (hs:starEach (e::es) X.env=(false,eval e X.env)::starEach es X.env:=by rfl):PA X (e::es) (tCons te t):=by
 intro pos pins s σ H Q I h
 rw[hs]
 show wpAny _ _ (spliced ((false,eval e X.env)::backTo pos (starEach es X.env))) _ _ s
 refine Calls.spliced_cons (thn (ha pins s σ H _ I h) λu s1 ⟨x,H1,I1,r1,q1⟩=>?_)
 exact thn (hr pos pins s1 σ H1 _ I1 q1) λus s2 ⟨xs,H2,I2,r2,q2⟩=>⟨x::xs,H2,I2,.cons r1 r2,q2⟩
def tTup (t:TA):TE:=λσ H Q=>t σ H λxs H1=>xs.length<=sizeLine/\∀p,H1 p=none->Q (.ref p) (upd H1 p (.tup xs))
def tLst (t:TA):TE:=λσ H Q=>t σ H λxs H1=>xs.length<=sizeLine/\∀p,H1 p=none->Q (.ref p) (upd H1 p (.lst xs))
theorem pe_tup {x1} (h:PA X es t):PE X (.Tuple es x1 pos) (tTup t):=by
 intro pins s σ H Q I hq
 refine wpAny_Tuple_spliced (thn (h pos pins s σ H _ I hq) λus s1 ⟨xs,H1,I1,r,z,q⟩=>⟨by rw[<- r.length];exact z,?_⟩)
 have hf:H1 s1.heap.objs.size=none:=I1.hok.fresh (Nat.le_refl _)
 refine⟨.ref s1.heap.objs.size,upd H1 s1.heap.objs.size (.tup xs),I1.laid (t':=s1.toks) (λb u e=>Heap.get?_push_of_some _ e) (Nat.le_refl _) ?_,rfl,q _ hf⟩
 exact⟨z,us,r,⟨_,Heap.get?_push_size _ rfl,rfl,⟨_,rfl⟩,rfl⟩⟩
theorem pe_lst (h:PA X es t):PE X (.List es pos) (tLst t):=by
 intro pins s σ H Q I hq
 refine wpAny_List_spliced (thn (h pos pins s σ H _ I hq) λus s1 ⟨xs,H1,I1,r,z,q⟩=>⟨by rw[<- r.length];exact z,?_⟩)
 have hf:H1 s1.heap.objs.size=none:=I1.hok.fresh (Nat.le_refl _)
 refine⟨.ref s1.heap.objs.size,upd H1 s1.heap.objs.size (.lst xs),I1.laid (t':=s1.toks) (λb u e=>Heap.get?_push_of_some _ e) (Nat.le_refl _) ?_,rfl,q _ hf⟩
 exact⟨z,us,0,r,Heap.get?_push_size _ rfl⟩
end
abbrev Sp:=List V->Hp->VK->XK->Prop
abbrev CXT:=List Env->Hp->Shared->XK->Value->Shared->Prop
structure Env0 (P:Program) (w:World) (K:PySem.W.Frag) (mg:Str->Option Value) (base:Heap) (A:Around) (outer:List Env) (s:Shared) (H:Hp):Prop where
 frames:A.frames=some outer
 mod:Mod K mg base
 bs:∀b o,base.get? b=some o->s.heap.get? b=some o/\H b=none
 bsz:base.objs.size<=s.heap.objs.size
 funs:s.heap.FunFrames base outer
 frf:∀b∈frs outer,H b=none
 hok:HOk P w H s.heap
 bare:AllBare s.gens
def CE (outer:List Env) (P:Program) (w:World) (H:Hp) (s:Shared) (Q:VK) (u:Value) (s':Shared):Prop:=
 ∃v H',s'.os=s.os/\AllBare s'.gens/\Un (frs outer) [] H H' s.heap s'.heap/\HOk P w H' s'.heap/\RelV v u/\Q v H'
def CR (CX:CXT) (outer:List Env) (P:Program) (w:World) (H:Hp) (s:Shared) (Q:VK) (E:XK) (r:Result) (s':Shared):Prop:=
 match r with
 |.ok (.ret u)=>CE outer P w H s Q u s'
 |.ok _=>False
 |.error e=>CX outer H s E e s'
structure FnOk (P:Program) (w:World) (K:PySem.W.Frag) (mg:Str->Option Value) (base:Heap) (CX:CXT) (k:Nat) (f:Addr) (fd:FuncData) (ps:List Str) (sp:Sp):Prop where
 len:∀vs H Q E,sp vs H Q E->vs.length=ps.length
 run:∀(A:Around) (outer:List Env) (s:Shared) (H:Hp) (args:Args) (us:List Value) (vs:List V) (Q:VK) (E:XK),Room k A->Env0 P w K mg base A outer s H->BindsTo s fd args (ps.zip us)->Vals vs us->sp vs H Q E ->
  codeAny (model P w) A (.call (.ref f) args) (CR CX outer P w H s Q E) s
theorem FnOk.mono {P:Program}{w:World}{K:PySem.W.Frag}{mg:Str->Option Value}{base:Heap}{CX:CXT}{j k:Nat}{f:Addr}{fd:FuncData}{ps:List Str}{sp:Sp}(F:FnOk P w K mg base CX j f fd ps sp) (h:j<=k) :
  FnOk P w K mg base CX k f fd ps sp:=⟨F.len,λA outer s H args us vs Q E hr=>F.run A outer s H args us vs Q E (hr.mono h)⟩
theorem FnOk.imp {P:Program}{w:World}{K:PySem.W.Frag}{mg:Str->Option Value}{base:Heap}{CX:CXT}{k:Nat}{f:Addr}{fd:FuncData}{ps:List Str}{sp sp':Sp}(F:FnOk P w K mg base CX k f fd ps sp)
  (h:∀vs H Q E,sp' vs H Q E->sp vs H Q E):FnOk P w K mg base CX k f fd ps sp':=
 ⟨λvs H Q E q=>F.len vs H Q E (h _ _ _ _ q),λA outer s H args us vs Q E hr he hb hv hs=>F.run A outer s H args us vs Q E hr he hb hv (h _ _ _ _ hs)⟩
theorem Env0.make {P:Program}{w:World}{K:PySem.W.Frag}{mg:Str->Option Value}{base:Heap}{A:Around}{outer:List Env}{s:Shared}{H:Hp}(e:Env0 P w K mg base A outer s H) (C:Addr) (us:List Value) (kw:List (Str×Value)) :
  Env0 P w K mg base (A.under (.builtin "type.__call__" ⟨.ref C::us,kw⟩)) outer s H:=⟨by first|exact e.frames|(simpa [Around.under,Code.envs,Code.isFrame,pushEnvs] using e.frames),e.mod,e.bs,e.bsz,e.funs,e.frf,e.hok,e.bare⟩
theorem Env0.in1 {P:Program}{w:World}{K:PySem.W.Frag}{mg:Str->Option Value}{base:Heap}{A:Around}{outer:List Env}{s:Shared}{H:Hp}(e:Env0 P w K mg base A outer s H) :
  Env0 P w K mg base A.in1 outer s H:=⟨e.frames,e.mod,e.bs,e.bsz,e.funs,e.frf,e.hok,e.bare⟩
section
variable {X:Cx}{pins:List (Addr×Obj)}{σ:St}{H:Hp}{s s':Shared}
theorem Inv.env0 (I:Inv X pins σ H s):Env0 X.prog X.w X.K X.mg X.base X.A X.stack s H:=
 ⟨I.ok.frames,I.ok.mod,I.bs,Nat.le_trans I.ok.bsz I.sz,I.stack,I.stkFree,I.hok,I.bare⟩
theorem Inv.after {Q:VK}{u:Value}(I:Inv X pins σ H s) (h:CE X.stack X.prog X.w H s Q u s'):EP X pins σ Q u s':=by
 obtain⟨v,H',os,bare,un,hok,r,q⟩:=h
 obtain⟨hh,g,d,t,os'⟩:=s'
 obtain rfl:os'=s.os:=os
 exact⟨v,H',I.call (h':=hh) (g':=g) (d':=d) (t':=t) (ch:=[]) un hok bare (λb z=>absurd z (by simp)),r,q⟩
end
def tCall (sp:Sp) (dvs:List V) (E:XK) (t:TA):TE:=λσ H Q=>t σ H λvs H1=>sp (vs++dvs) H1 Q E
def Binds (K:PySem.W.Frag) (fd:FuncData) (ps:List Str) (ds:List Value):Prop:=
 ∀(s:Shared) (us:List Value),K.In s.heap->(us++ds).length=ps.length->BindsTo s fd ⟨us,[]⟩ (ps.zip (us++ds))
theorem Binds.all {K:PySem.W.Frag}{fd:FuncData}{ps:List Str}(h:∀us:List Value,us.length=ps.length->bindArgs fd ⟨us,[]⟩=pure (ps.zip us)):Binds K fd ps []:=λs us _ hl=>by
 rw[List.append_nil] at hl ⊢
 exact .of_eq (h us hl)
def Passes (CX:CXT) (X:Cx) (E:XK):Prop:=∀(pins:List (Addr×Obj)) (σ:St) (H:Hp) (s:Shared) (e:Value) (s':Shared),Inv X pins σ H s->CX X.stack H s E e s'->X.xe e s'
section
variable {X:Cx}{CX:CXT}{k:Nat}{f C:Addr}{fd:FuncData}{ps:List Str}{sp:Sp}{dvs:List V}{ds:List Value}{E:XK}{x m:Str}{p pos apos:Pos}{e o:Expr}{es:List Expr}{ta:TE}{t:TA}
theorem run_fn {pins:List (Addr×Obj)}{σ:St}{H:Hp}{s:Shared}{Q:VK}{us:List Value}{vs:List V}(F:FnOk X.prog X.w X.K X.mg X.base CX k f fd ps sp) (hr:Room k X.A) (hb:Binds X.K fd ps ds) (hd:Vals dvs ds) (hx:Passes CX X E)
  (I:Inv X pins σ H s) (r:Vals vs us) (h:sp (vs++dvs) H Q E):wpAny (model X.prog X.w) X.A (call (.ref f) us) (EP X pins σ Q) X.xe s:=by
 have r2:Vals (vs++dvs) (us++ds):=r.append hd
 have hl:(us++ds).length=ps.length:=by rw[<- r2.length];exact F.len _ _ _ _ h
 refine wpAny_call (codeAny_mono (F.run X.A X.stack s H ⟨us,[]⟩ (us++ds) (vs++dvs) Q E hr I.env0 (hb s us I.kIn hl) r2 h) λr s' hq=>?_)
 cases r with
 |error e=>exact hx pins σ H s e s' I hq
 |ok fl=>
  cases fl with
  |ret u=>exact I.after hq
  |next=>exact False.elim hq
  |brk=>exact False.elim hq
  |cont=>exact False.elim hq
theorem pe_call (F:FnOk X.prog X.w X.K X.mg X.base CX k f fd ps sp) (hr:Room k X.A) (hg:Gl X x) (hm:X.mg x=some (.ref f)) (hk:PySem.W.keepIn X.K (.ref f)=true) (hb:Binds X.K fd ps ds) (hd:Vals dvs ds) (hx:Passes CX X E)
  (ha:PA X (e::es) t) (hdb:(x==("__debug__" : Str))=false:=by decide) (he:starEach (e::es) X.env=(false,eval e X.env)::starEach es X.env:=by rfl) (hpl:(backTo pos (starEach es X.env)).any (·.1)=false:=by rfl) :
  PE X (.Call (.Name x p) (e::es) [] pos) (tCall sp dvs E t):=by
 intro pins s σ H Q I h
 refine wpAny_Call_Name_kw (ld_glob I hg hm ?_ hdb)
 refine PySem.W.callWith_K (h₀:=X.base) I.ok.mod.kin hk (thn (ha pos pins s σ H _ I h) λus s1 ⟨vs,H1,I1,r,q⟩=>⟨I1.kIn,?_⟩) he hpl
 exact run_fn F hr hb hd hx I1 r q
theorem pe_call0 (F:FnOk X.prog X.w X.K X.mg X.base CX k f fd ps sp) (hr:Room k X.A) (hg:Gl X x) (hm:X.mg x=some (.ref f)) (hk:PySem.W.keepIn X.K (.ref f)=true) (hb:Binds X.K fd ps ds) (hd:Vals dvs ds) (hx:Passes CX X E)
  (hdb:(x==("__debug__" : Str))=false:=by decide):PE X (.Call (.Name x p) [] [] pos) (tCall sp dvs E tNil):=by
 intro pins s σ H Q I h
 refine wpAny_Call_Name_kw (ld_glob I hg hm ?_ hdb)
 exact PySem.W.callWith_K0 I.kIn hk (run_fn (us:=[]) F hr hb hd hx I .nil h)
structure Mk (K:PySem.W.Frag) (C f:Addr):Prop where
 makes:PySem.W.makesIn K C=true
 init:PySem.W.findIn K (.ref C) "__init__" = some (some (.ref f))
 fn:PySem.W.isFn K (.ref f)=true
 kp:PySem.W.keepIn K (.ref C)=true
end
section
variable {X:Cx}{CX:CXT}{k:Nat}{f C:Addr}{fd:FuncData}{ps ks:List Str}{sp:Sp}{E:XK}{x m:Str}{p pos apos kpos:Pos}{e o:Expr}{es:List Expr}{kws:List Keyword}{te ta:TE}{t tk:TA}{nm:Option Str}
structure KBinds (K:PySem.W.Frag) (fd:FuncData) (ps ks:List Str) (g:List Value->List Value->List Value) (gV:List V->List V->List V):Prop where
 to:∀(s:Shared) (us ws:List Value),K.In s.heap->(g us ws).length=ps.length->BindsTo s fd ⟨us,ks.zip ws⟩ (ps.zip (g us ws))
 rel:∀{vs:List V}{us:List Value}{zs:List V}{ws:List Value},Vals vs us->Vals zs ws->Vals (gV vs zs) (g us ws)
variable {g:List Value->List Value->List Value}{gV:List V->List V->List V}
end
structure FnScope (N P:List Str) (sc:Scope):Prop where
 kind:sc.kind=.function
 co:sc.isCoroutine=false
 gen:sc.isGenerator=false
 nd:N.Nodup
 pre:N.take P.length=P
 par:∀x∈P,sc.names.lookup x=some .local\/sc.names.lookup x=some .cell
 nofree:∀y∈sc.names,y.2≠.free
theorem bindL_out {kindOf:Str->Option NameKind}{x:Str}:∀{binds:List (Str×Value)}{m:Str->Option Value},(∀v,(x,v)∉binds)->bindL kindOf binds m x=m x
 |[],_,_=>rfl
 |(n,v)::r,m,h=>by
  unfold bindL
  rw[bindL_out λw hw=>h w (List.mem_cons_of_mem _ hw)]
  split
  ·have:x≠n:=by rintro rfl;exact h v List.mem_cons_self
   simp[this]
  ·rfl
theorem bindC_out {kindOf:Str->Option NameKind}{x:Str}:∀{binds:List (Str×Value)}{m:Str->Option Value},(∀v,(x,v)∉binds)->bindC kindOf binds m x=m x
 |[],_,_=>rfl
 |(n,v)::r,m,h=>by
  unfold bindC
  rw[bindC_out λw hw=>h w (List.mem_cons_of_mem _ hw)]
  split
  ·rfl
  ·have:x≠n:=by rintro rfl;exact h v List.mem_cons_self
   simp[this]
theorem bindL_get {kindOf:Str->Option NameKind}{x:Str}{v:Value}:∀{P:List Str}{vs:List Value}{i:Nat}{m:Str->Option Value},P.Nodup->P[i]?=some x->vs[i]?=some v->kindOf x=some .local ->
  bindL kindOf (P.zip vs) m x=some v
 |[],_,_,_,_,h,_,_=>by simp at h
 |_::_,[],_,_,_,_,h,_=>by simp at h
 |p::P,w::vs,0,m,nd,h1,h2,hk=>by
  simp at h1 h2;subst h1;subst h2
  show bindL kindOf ((p,w)::P.zip vs) m p=_
  unfold bindL
  rw[bindL_out λv hv=>(List.nodup_cons.mp nd).1 (List.of_mem_zip hv).1,if_pos hk]
  simp
 |p::P,w::vs,i+1,m,nd,h1,h2,hk=>by
  show bindL kindOf ((p,w)::P.zip vs) m x=_
  unfold bindL
  exact bindL_get (i:=i) (List.nodup_cons.mp nd).2 (by simpa using h1) (by simpa using h2) hk
theorem bindC_get {kindOf:Str->Option NameKind}{x:Str}{v:Value}:∀{P:List Str}{vs:List Value}{i:Nat}{m:Str->Option Value},P.Nodup->P[i]?=some x->vs[i]?=some v->kindOf x≠some .local ->
  bindC kindOf (P.zip vs) m x=some v
 |[],_,_,_,_,h,_,_=>by simp at h
 |_::_,[],_,_,_,_,h,_=>by simp at h
 |p::P,w::vs,0,m,nd,h1,h2,hk=>by
  simp at h1 h2;subst h1;subst h2
  show bindC kindOf ((p,w)::P.zip vs) m p=_
  unfold bindC
  rw[bindC_out λv hv=>(List.nodup_cons.mp nd).1 (List.of_mem_zip hv).1,if_neg hk]
  simp
 |p::P,w::vs,i+1,m,nd,h1,h2,hk=>by
  show bindC kindOf ((p,w)::P.zip vs) m x=_
  unfold bindC
  exact bindC_get (i:=i) (List.nodup_cons.mp nd).2 (by simpa using h1) (by simpa using h2) hk
def start (N:List Str) (vs:List V):St:=vs.map some++List.replicate (N.length-vs.length) none
def cxOf (CX:CXT) (P:Program) (w:World) (K:PySem.W.Frag) (mg:Str->Option Value) (base:Heap) (N:List Str) (qual:Str) (scope:Scope) (f:Addr) (cd:Value) (A:Around) (outer:List Env) (s:Shared) (H:Hp) (E:XK):Cx where
 prog:=P
 w:=w
 K:=K
 mg:=mg
 base:=base
 A:=A.deeper (envOfC qual scope s.heap.objs.size f cd)
 N:=N
 s₀:=s
 H₀:=H
 env:=envOfC qual scope s.heap.objs.size f cd
 outer:=outer
 stack:=envOfC qual scope s.heap.objs.size f cd::outer
 ex:=[]
 calm:=true
 fn:=λ_=>true
 pn:=[]
 xe:=λe s'=>wpAny (model P w) (A.deeper (envOfC qual scope s.heap.objs.size f cd)) (leaving (envOfC qual scope s.heap.objs.size f cd) e) (λ_ s''=>CX outer H s E e s'') (λe' s''=>CX outer H s E e' s'') s'
theorem cell_has {sc:Scope}{n:Nat}{x:Str}(h:sc.names.lookup x=some .cell):∃c,(cellsFrom n sc.names []).lookup x=some c:=by
 have q:=PySem.W.cellsFrom_some sc.names n [] (.inl h)
 exact Option.isSome_iff_exists.mp q
theorem inv_start {CX:CXT}{P:Program}{w:World}{K:PySem.W.Frag}{mg:Str->Option Value}{base:Heap}{N ps:List Str}{qual:Str}{scope:Scope}{f:Addr}{cd:Value}{A:Around}{outer:List Env}{s s1:Shared}{H:Hp}{E:XK}{us:List Value}{vs:List V}
  (S:FnScope N ps scope) (hd:A.handled=none) (e0:Env0 P w K mg base A outer s H) (hl:vs.length=ps.length) (r:Vals vs us)
  (x:InCallC s s.heap.objs.size (bindL (envOfC qual scope s.heap.objs.size f cd).kindOf (ps.zip us) λ_=>none) (cellsFrom (s.heap.objs.size+1) scope.names []) (bindC (envOfC qual scope s.heap.objs.size f cd).kindOf (ps.zip us) λ_=>none) s1) :
  Inv (cxOf CX P w K mg base N qual scope f cd A outer s H E) [] (start N vs) H s1:=by
 have hpl:ps.length<=N.length:=by have:=congrArg List.length S.pre;rw[List.length_take] at this;lia
 obtain⟨h1,tk,rfl,hk⟩:=x.done
 have noA:∀b:Addr,b∉(cxOf CX P w K mg base N qual scope f cd A outer s H E).ex:=λb z=>absurd (show b∈([]:List Addr) from z) (by simp)
 refine⟨⟨e0.mod,S.kind,rfl,rfl,Nat.le_refl _,λy z c h1 h2=>?_,λy hy=>?_,λy c _ h=>?_,λ_=>hd,Around.frames_deeper e0.frames,.inr ⟨rfl,rfl⟩,λb z=>absurd z (noA b),e0.bs,e0.bsz,λb _ _=>noA b,λb z=>absurd z (noA b),e0.funs,e0.frf⟩,
  rfl,e0.bare,Un.kept hk,⟨_,x.toInCall.ns,λi y v h1 h2 h3=>?_⟩,λy c h=>⟨_,x.cell y c h⟩,e0.hok.fresh (Nat.le_refl _),λy c h=>?_,λp hp=>absurd (show p∈([]:List (Addr×Obj)) from hp) (by simp),e0.hok.kept hk,?_⟩
 ·exact name_of_addr x.apart (PySem.mem_of_lookup h1) (PySem.mem_of_lookup h2)
 ·have hy:scope.names.lookup y=some .cell\/scope.names.lookup y=some .free:=hy
  rcases hy with hy|hy
  ·exact cell_has hy
  ·exact absurd rfl (S.nofree _ (PySem.mem_of_lookup hy))
 ·exact Nat.le_of_lt (x.above y c (PySem.mem_of_lookup h))
 ·have hi:i<vs.length:=by
   unfold start at h2
   by_cases hi:i<vs.length
   ·exact hi
   ·rw[List.getElem?_append_right (by simpa using hi)] at h2
    rw[List.getElem?_replicate] at h2
    split at h2<;>cases h2
  have ha:vs[i]?=some v:=by
   unfold start at h2
   rw[List.getElem?_append_left (by simpa using hi),List.getElem?_map] at h2
   cases e:vs[i]? with
   |none=>rw[e] at h2;cases h2
   |some a=>rw[e] at h2;cases h2;rfl
  obtain⟨u,hu,rv⟩:=r.get ha
  have hp:ps[i]?=some y:=by
   rw[<- S.pre,List.getElem?_take_of_lt (by lia)];exact h1
  have ndP:ps.Nodup:=by rw[<- S.pre];exact S.nd.sublist (List.take_sublist _ _)
  refine⟨u,rv,?_⟩
  rcases S.par y (List.mem_of_getElem? hp) with k|k
  ·exact .inl ⟨k,bindL_get ndP hp hu k⟩
  ·obtain⟨c,e⟩:=cell_has (n:=s.heap.objs.size+1) k
   refine .inr ⟨.inl k,c,e,?_⟩
   have q:=x.cell y c e
   rw[bindC_get ndP hp hu (by show scope.names.lookup y≠_;rw[k];decide)] at q
   exact q
 ·exact e0.hok.fresh (Nat.le_of_lt (x.above y c (PySem.mem_of_lookup h)))
 ·unfold start
  show _=N.length
  rw[List.length_append,List.length_map,List.length_replicate]
  lia
theorem fn_of {CX:CXT}{P:Program}{w:World}{K:PySem.W.Frag}{mg:Str->Option Value}{base:Heap}{k:Nat}{f:Addr}{name qual:Str}{params:Arguments}{body:List Stmt}{scope:Scope}{dV kV doc pm cdv ct oc:Value}{an od:Option Addr}
  {osl:Array (Option Value)}{N ps:List Str}{sp:Sp}(lk:K.lookup f=some ⟨oc,od,.func (PySem.W.fnOf name qual params body scope dV kV doc pm an cdv ct),osl⟩) (hcd:PySem.W.codeIn K cdv qual=true) (S:FnScope N ps scope)
  (len:∀vs H Q E,sp vs H Q E->vs.length=ps.length)
  (hbody:∀(A:Around) (outer:List Env) (s:Shared) (H:Hp) (vs:List V) (Q:VK) (E:XK),Room k (A.deeper (envOfC qual scope s.heap.objs.size f cdv))->sp vs H Q E ->
   ∃t,PSs (cxOf CX P w K mg base N qual scope f cdv A outer s H E) body t/\t { nx:=λ_ H'=>Q .non H',rt:=Q } (start N vs) H) :
  FnOk P w K mg base CX (k+1) f (PySem.W.fnOf name qual params body scope dV kV doc pm an cdv ct) ps sp:=by
 refine⟨len,λA outer s H args us vs Q E hr e0 hb r hsp=>?_⟩
 have hl:=len _ _ _ _ hsp
 have KX:K.In s.heap:=e0.mod.kin.keeps λb o e=>(e0.bs b o e).1
 have lim:s.heap.NoLimit:=e0.mod.nolimit.keeps λb o e=>(e0.bs b o e).1
 have hkind:∀y∈ps.zip us,scope.names.lookup y.1=some .local\/(scope.names.lookup y.1=some .cell/\((cellsFrom (s.heap.objs.size+1) scope.names []).lookup y.1).isSome=true):=λ⟨n,v⟩ hy=>by
  rcases S.par n (List.of_mem_zip hy).1 with q|q
  ·exact .inl q
  ·exact .inr ⟨q,PySem.W.cellsFrom_some _ _ _ (.inl q)⟩
 refine codeAny_call_function hr.depth (KX _ _ lk) rfl S.co S.gen rfl (PySem.W.codeRec_of KX hcd) (hb _ _ _ _ ?_)
 refine wpAny_newFunctionEnv_cells S.kind hkind λenv he s1 x=>?_
 subst he
 refine⟨lim.keeps x.toInCall.keep,codeAny_func ?_⟩
 obtain⟨t,ht,hq⟩:=hbody A outer s H vs Q E (hr.deeper _) hsp
 have I:Inv (cxOf CX P w K mg base N qual scope f cdv A outer s H E) [] (start N vs) H s1:=inv_start S hr.hd e0 hl r x
 refine wpAny_mono (ht [] s1 (start N vs) H _ I hq) (λfl s' hs=>?_) λe s' hs=>hs
 have fin:∀{σ':St}{H':Hp}{v:V}{u:Value},Inv (cxOf CX P w K mg base N qual scope f cdv A outer s H E) [] σ' H' s'->RelV v u->Q v H'->CE outer P w H s Q u s':=
  λ{σ' H' v u} J rv q=>⟨v,H',J.os,J.bare,J.base,J.hok,rv,q⟩
 cases fl with
 |ret u=>
  obtain⟨v,σ',H',J,rv,q⟩:=hs
  exact fin J rv q
 |next=>
  obtain⟨σ',H',J,q⟩:=hs
  exact fin (v:=V.non) (u:=Value.none) J rfl q
 |brk=>
  obtain⟨_,_,_,q⟩:=hs
  exact False.elim q
 |cont=>
  obtain⟨_,_,_,q⟩:=hs
  exact False.elim q
end L2
namespace L2
open PySem PySem.Spec PyProof.Rows
section
variable {X:Cx}{x:Str}{p pos:Pos}{e:Expr}{es:List Expr}{t:TA}{id T:String}{r:List V->Hp->VK->Prop}
def tCB (r:List V->Hp->VK->Prop) (t:TA):TE:=λσ H Q=>t σ H λvs H1=>r vs H1 Q
theorem pe_callB (hc:CallR X (.builtin id) r) (hg:Gl X x) (hm:X.mg x=none) (hv:bootBuiltins x=some (.builtin id)) (ha:PA X (e::es) t) (hn:x ≠ "__name__":=by decide) (hdb:(x==("__debug__" : Str))=false:=by decide)
  (he:starEach (e::es) X.env=(false,eval e X.env)::starEach es X.env:=by rfl) (hpl:(backTo pos (starEach es X.env)).any (·.1)=false:=by rfl):PE X (.Call (.Name x p) (e::es) [] pos) (tCB r t):=by
 intro pins s σ H Q I h
 refine wpAny_Call_Name_kw (ld_blt I hg hm hv ?_ hn hdb)
 exact PyProof.Rows.callWith_builtin1 (thn (ha pos pins s σ H _ I h) λus s1 ⟨vs,H1,I1,r1,q1⟩=>hc pins s1 σ H1 vs us Q I1 r1 q1) he hpl
theorem pe_callTy (hc:CallR X (.type T) r) (hg:Gl X x) (hm:X.mg x=none) (hv:bootBuiltins x=some (.type T)) (ha:PA X (e::es) t) (hn:x ≠ "__name__":=by decide) (hdb:(x==("__debug__" : Str))=false:=by decide)
  (he:starEach (e::es) X.env=(false,eval e X.env)::starEach es X.env:=by rfl) (hpl:(backTo pos (starEach es X.env)).any (·.1)=false:=by rfl):PE X (.Call (.Name x p) (e::es) [] pos) (tCB r t):=by
 intro pins s σ H Q I h
 refine wpAny_Call_Name_kw (ld_blt I hg hm hv ?_ hn hdb)
 exact PyProof.Rows.callWith_type1 (thn (ha pos pins s σ H _ I h) λus s1 ⟨vs,H1,I1,r1,q1⟩=>hc pins s1 σ H1 vs us Q I1 r1 q1) he hpl
end
end L2
namespace HT
open PySem PyProof.Rows
section
open PySem.SeqAt
open PySem.AutoSeq1 (wpAny_loadPart')
open PySem.MeetsSeq PySem.MeetsSeq2 PySem.MeetsSeq3
end
section
variable {prog:Program}{w:World}{A:Around}{E:Value->Shared->Prop}{s:Shared}
theorem cat_tup {t b:Addr}{vs ws:List Value}{Q:Value->Shared->Prop}(ht:IsTup s.heap t vs.toArray) (hb:IsTup s.heap b ws.toArray) (hv:vs≠[])
  (h1:ws=[]->Q (.ref t) s) (h2:ws≠[]->Q (.ref s.heap.objs.size) { s with heap:=s.heap.push { cls:=.type "tuple",data:=.seq (vs++ws).toArray } })
  (hsz:vs.length+ws.length<=sizeLine):wpAny (model prog w) A (binaryOp .Add (.ref t) (.ref b)) Q E s:=by
 obtain⟨⟨cls,dd,data,sl⟩,ho,hc,n,hd⟩:=id ht
 obtain⟨⟨cls2,dd2,data2,sl2⟩,ho2,hc2,n2,hd2⟩:=id hb
 simp only at hc hd hc2 hd2
 subst hc hd hc2 hd2
 have e:vs.toArray++ws.toArray=(vs++ws).toArray:=by simp
 by_cases hw:ws=[]
 ·exact concat_meets ⟨_,ho,rfl⟩ ⟨_,ho2,rfl⟩ noFill_tuple_add seq_tuple_add PySem.F.slot_tuple_add PySem.F.entry_tuple_add (PySem.F.args_tuple_add_2 _ _)
   (tuple_addW1 t b vs.toArray ws.toArray n n2 dd dd2 sl sl2 (by simpa using hv) (by simp[hw])) ⟨ho,ho2,h1 hw⟩
 ·refine concat_meets ⟨_,ho,rfl⟩ ⟨_,ho2,rfl⟩ noFill_tuple_add seq_tuple_add PySem.F.slot_tuple_add PySem.F.entry_tuple_add (PySem.F.args_tuple_add_2 _ _)
   (tuple_addW2 t b vs.toArray ws.toArray n n2 dd dd2 sl sl2 (by simpa using hv) (by simpa using hw) (by rw[List.size_toArray,List.size_toArray];exact hsz)) ⟨ho,ho2,?_⟩
  rw[e]
  exact h2 hw
def sIx (n d:Nat):Option Int->Nat
 |none=>d
 |some v=>if v<0 then (v+(n:Int)).toNat else min v.toNat n
theorem sIx_none (n d:Nat):sIx n d none=d:=rfl
theorem sIx_nat (n d k:Nat):sIx n d (some (k:Int))=min k n:=by
 show (if (k:Int)<0 then ((k:Int)+(n:Int)).toNat else min (k:Int).toNat n)=min k n
 rw[if_neg (by lia),Int.toNat_natCast]
theorem sIx_le (n d:Nat) (hd:d<=n) (o:Option Int):sIx n d o<=n:=by
 cases o with
 |none=>exact hd
 |some v=>
  show (if v<0 then (v+(n:Int)).toNat else min v.toNat n)<=n
  by_cases hv:v<0
  ·rw[if_pos hv];lia
  ·rw[if_neg hv];exact Nat.min_le_right _ _
theorem clip_eq (v:Int) (n d:Nat):(if v<0 then max (v+(n:Int)) 0 else min v (n:Int))=((sIx n d (some v):Nat):Int):=by
 show (if v<0 then max (v+(n:Int)) 0 else min v (n:Int))=(((if v<0 then (v+(n:Int)).toNat else min v.toNat n):Nat):Int)
 by_cases hv:v<0
 ·simp only[if_pos hv];lia
 ·simp only[if_neg hv];lia
theorem adjust_gen (lo hi:Option Int) (n:Nat):Builtin.Slice.sliceAdjust lo hi 1 (n:Int)=(((sIx n 0 lo:Nat):Int),((sIx n n hi:Nat):Int)):=by
 have h1:¬((1:Int)<0):=by lia
 unfold Builtin.Slice.sliceAdjust
 simp only[h1,if_false]
 refine Prod.ext ?_ ?_
 ·cases lo with
  |none=>rfl
  |some v=>exact clip_eq v n 0
 ·cases hi with
  |none=>rfl
  |some v=>exact clip_eq v n n
theorem places_gen (i j:Nat):Builtin.Slice.slicePlaces (i:Int) (j:Int) 1=j-i:=by
 unfold Builtin.Slice.slicePlaces
 have h1:(1:Int)>0:=by lia
 simp only[h1,if_true,Int.ediv_one]
 split<;>lia
theorem slicePart_ {v:Value}{o:Option Int}{Q:Option Int->Shared->Prop}(p:IsPart v o) (h:Q o s):wpAny (model prog w) A (Builtin.Slice.slicePartIndex v) Q E s:=by
 cases p with
 |none=>exact slicePart_none h
 |int i t=>exact slicePart_int h
theorem sliceApplied_gen {sl:Addr}{vl vu:Value}{lo hi:Option Int}{n:Nat}{Q:Int×Int×Nat->Shared->Prop}(hs:s.heap.IsSliceOf sl vl vu .none) (pl:IsPart vl lo) (pu:IsPart vu hi)
  (h:Q (((sIx n 0 lo:Nat):Int),1,sIx n n hi-sIx n 0 lo) s):wpAny (model prog w) A (Builtin.Slice.sliceApplied (.ref sl) (pure (n:Int))) Q E s:=by
 obtain⟨os,hos,hcs,hds⟩:=id hs
 unfold Builtin.Slice.sliceApplied Builtin.Slice.sliceFields
 refine wpAny_bind (wpAny_bind (wpAny_field hos hds (x:=vl) rfl (wpAny_bind (wpAny_field hos hds (x:=vu) rfl (wpAny_bind (wpAny_field hos hds (x:=.none) rfl (wpAny_pure ?_)))))))
 refine wpAny_bind (slicePart_none ?_)
 show wpAny _ _ (if ((1:Int)==0)=true then _ else _) _ _ s
 rw[if_neg (by decide)]
 refine wpAny_bind (slicePart_ pl (wpAny_bind (slicePart_ pu (wpAny_bind (wpAny_pure ?_)))))
 show wpAny _ _ (match Builtin.Slice.sliceAdjust lo hi 1 (n:Int) with|(lo,hi)=>pure (lo,(1:Int),Builtin.Slice.slicePlaces lo hi 1)) _ _ s
 rw[adjust_gen lo hi n]
 show wpAny _ _ (pure (((sIx n 0 lo:Nat):Int),(1:Int),Builtin.Slice.slicePlaces ((sIx n 0 lo:Nat):Int) ((sIx n n hi:Nat):Int) 1)) _ _ s
 rw[places_gen]
 exact wpAny_pure h
theorem pick_gen (xs:Array Value) (i k:Nat):((List.range k).filterMap λ(m:Nat)=>xs[((i:Int)+(m:Int)*1).toNat]?).toArray=((xs.toList.drop i).take k).toArray:=by
 have e:(λ(m:Nat)=>xs[((i:Int)+(m:Int)*1).toNat]?)=λm=>xs[i+m]?:=by
  funext m
  have:((i:Int)+(m:Int)*1).toNat=i+m:=by lia
  rw[this]
 rw[e]
 have:=pick_run xs i k
 rw[List.filterMap_map] at this
 have e2:((λx=>xs[x]?)∘λx=>i+x)=λm=>xs[i+m]?:=rfl
 rw[e2] at this
 rw[this]
theorem getItem_tuple_cut {t sl:Addr}{items:Array Value}{vl vu:Value}{lo hi:Option Int}{Q:Value->Shared->Prop}(ht:IsTup s.heap t items) (hs:s.heap.IsSliceOf sl vl vu .none) (pl:IsPart vl lo) (pu:IsPart vu hi)
  (hw:¬(sIx items.size 0 lo=0/\sIx items.size items.size hi=items.size))
  (h:Q (.ref s.heap.objs.size) { s with heap:=s.heap.push { cls:=.type "tuple",data:=.seq ((items.toList.drop (sIx items.size 0 lo)).take (sIx items.size items.size hi-sIx items.size 0 lo)).toArray } })
  (hsz:items.size<=sizeLine):wpAny (model prog w) A (getItem (.ref t) (.ref sl)) Q E s:=by
 have htake:sizeOk (.seq ((items.toList.drop (sIx items.size 0 lo)).take (sIx items.size items.size hi-sIx items.size 0 lo)).toArray):=by
  show ((items.toList.drop (sIx items.size 0 lo)).take (sIx items.size items.size hi-sIx items.size 0 lo)).toArray.size<=sizeLine
  rw[List.size_toArray,List.length_take,List.length_drop,Array.length_toList]
  lia
 have hj:sIx items.size items.size hi<=items.size:=sIx_le _ _ (Nat.le_refl _) hi
 obtain⟨os,hos,hcs,hds⟩:=id hs
 have hTs:s.TypeIs (.ref sl) "slice":=⟨os,hos,hcs⟩
 unfold getItem
 try with_reducible refine wpAny_holding ?_
 first|refine wpAny_bind (wpAny_pure ?_)|skip
 refine wpAny_bind (wpAny_sequenceKey ht.typeIs (by decide) ?_)
 refine wpAny_bind (wpAny_callSpecial?_slot (name:=Str.ofString "__getitem__") ht.typeIs PyProof.Rows.slot_tuple_getitem
  (wpAny_call_entry PyProof.Rows.slot_tuple_getitem ht.typeIs entry_tuple_getitem ?_ (args_tuple_getitem _ _)))
 show wpAny _ _ (Builtin.Tuple.tupleItemsOf (.ref t) >>= _) _ _ s
 refine wpAny_bind (tupleItemsOf_ ht ?_)
 refine wpAny_bind (wpAny_typeOf hTs ?_)
 rw[if_pos (by decide)]
 refine wpAny_bind (sliceApplied_gen hs pl pu ?_)
 have hno:¬((((sIx items.size 0 lo:Nat):Int)==0&&(1:Int)==1&&(sIx items.size items.size hi-sIx items.size 0 lo)==items.size)=true):=by
  intro q
  rw[Bool.and_eq_true,Bool.and_eq_true] at q
  have q1:((sIx items.size 0 lo:Nat):Int)=0:=eq_of_beq q.1.1
  have q2:sIx items.size items.size hi-sIx items.size 0 lo=items.size:=eq_of_beq q.2
  exact hw ⟨by lia,by lia⟩
 show wpAny _ _ (if (((sIx items.size 0 lo:Nat):Int)==0&&(1:Int)==1&&(sIx items.size items.size hi-sIx items.size 0 lo)==items.size)=true then _ else _) _ _ s
 rw[if_neg hno,pick_gen]
 first
  |exact wpAny_bind (m:=Builtin.Tuple.tupleExact _) (wpAny_newObj_type (wpAny_pure ⟨_,rfl,wpAny_pure h⟩) htake)
  |exact wpAny_bind (m:=Builtin.Tuple.tupleExact _) (wpAny_newObj_type (wpAny_bind (wpAny_pure (wpAny_pure ⟨_,rfl,wpAny_pure h⟩))) htake)
  |exact wpAny_bind (wpAny_bind (m:=Builtin.Tuple.tupleExact _) (wpAny_newObj_type (wpAny_pure (wpAny_pure ⟨_,rfl,wpAny_pure h⟩)) htake))
  |exact wpAny_bind (wpAny_bind (m:=Builtin.Tuple.tupleExact _) (wpAny_newObj_type (wpAny_pure ⟨_,rfl,wpAny_pure h⟩) htake))
end
end HT
namespace L2
open PySem PySem.Spec PyProof.Rows
abbrev TO:=St->Hp->(Option Int->Hp->Prop)->Prop
def PO (X:Cx) (e:Option Expr) (t:TO):Prop:=
 ∀(pins:List (Addr×Obj)) (s:Shared) (σ:St) (H:Hp) (Q:Option Int->Hp->Prop),Inv X pins σ H s->t σ H Q ->
  wpAny (model X.prog X.w) X.A (evalPart e X.env) (λu s'=>∃o H',Inv X pins σ H' s'/\IsPart u o/\Q o H') X.xe s
def tNoPart:TO:=λ_ H Q=>Q none H
def tPart (t:TE):TO:=λσ H Q=>t σ H λx H1=>∃i,x=.int i/\Q (some i) H1
section
variable {X:Cx}{e:Expr}{te:TE}{lo hi:Option Expr}{tl th:TO}{pos p2:Pos}
theorem po_none:PO X none tNoPart:=by
 intro pins s σ H Q I h
 rw[evalPart_none]
 exact wpAny_pure ⟨none,H,I,.none,h⟩
theorem po_some (h:PE X e te):PO X (some e) (tPart te):=by
 intro pins s σ H Q I hw
 rw[evalPart_some]
 refine thn (h pins s σ H _ I hw) λu s1 ⟨x,H1,I1,r1,q1⟩=>?_
 obtain⟨i,rfl,q⟩:=q1
 obtain⟨t,rfl⟩:=r1
 exact⟨some i,H1,I1,.int i t,q⟩
def SlR (X:Cx) (r:V->Option Int->Option Int->Hp->VK->Prop):Prop:=
 ∀(pins:List (Addr×Obj)) (s:Shared) (σ:St) (H:Hp) (x:V) (v vl vu:Value) (lo hi:Option Int) (sl:Addr) (Q:VK),Inv X pins σ H s->RelV x v->s.heap.IsSliceOf sl vl vu .none->IsPart vl lo->IsPart vu hi->r x lo hi H Q ->
  ∃T id,typeLookup (.type T) "__getitem__" = pure (some (.builtin id))/\s.TypeIs v T/\wpAny (model X.prog X.w) X.A (getItem v (.ref sl)) (EP X pins σ Q) X.xe s
theorem SlR.or {r r':V->Option Int->Option Int->Hp->VK->Prop}(h:SlR X r) (h':SlR X r'):SlR X (λx lo hi H Q=>r x lo hi H Q\/r' x lo hi H Q):=by
 intro pins s σ H x v vl vu lo hi sl Q I rx hs pl pu q
 rcases q with q|q
 ·exact h pins s σ H x v vl vu lo hi sl Q I rx hs pl pu q
 ·exact h' pins s σ H x v vl vu lo hi sl Q I rx hs pl pu q
def tSl (r:V->Option Int->Option Int->Hp->VK->Prop) (te:TE) (tl th:TO):TE:=λσ H Q=>te σ H λx H1=>tl σ H1 λl H2=>th σ H2 λu H3=>r x l u H3 Q
theorem pe_slice {r:V->Option Int->Option Int->Hp->VK->Prop}(hr:SlR X r) (he:PE X e te) (hl:PO X lo tl) (hu:PO X hi th):PE X (.Subscript e (.Slice lo hi none p2) pos) (tSl r te tl th):=by
 intro pins s σ H Q I h
 refine Subscript_ (thn (he pins s σ H _ I h) λv s1 ⟨x,H1,I1,r1,q1⟩=>?_)
 refine wpAny_Slice (thn (hl pins s1 σ H1 _ I1 q1) λvl s2 ⟨l,H2,I2,pl,q2⟩=>thn (hu pins s2 σ H2 _ I2 q2) λvu s3 ⟨u,H3,I3,pu,q3⟩=>?_)
 rw[evalPart_none]
 refine wpAny_pure ?_
 have I4:Inv X pins σ H3 { s3 with heap:=s3.heap.push { cls:=.type "slice",data:=.fields #[vl,vu,.none] } }:=I3.kept (t':=s3.toks) λb ob q=>Heap.get?_push_of_some _ q
 obtain⟨T,id,hT,ht,hg⟩:=hr pins { s3 with heap:=s3.heap.push { cls:=.type "slice",data:=.fields #[vl,vu,.none] } } σ H3 x v vl vu l u s3.heap.objs.size Q I4 r1 (Heap.IsSliceOf.new ..) pl pu q3
 show wpAny (model X.prog X.w) X.A (subscriptTail e (.Slice lo hi none p2) v (.ref s3.heap.objs.size)) (EP X pins σ Q) X.xe { s3 with heap:=s3.heap.push { cls:=.type "slice",data:=.fields #[vl,vu,.none] } }
 exact tail_any (ops:=[.ref s3.heap.objs.size,v]) ht hT hg (by with_unfolding_all rfl)
def cutV (xs:List V) (lo hi:Option Int):List V:=(xs.drop (HT.sIx xs.length 0 lo)).take (HT.sIx xs.length xs.length hi-HT.sIx xs.length 0 lo)
theorem cutV_length (xs:List V) (lo hi:Option Int):(cutV xs lo hi).length<=xs.length:=by
 unfold cutV
 rw[List.length_take,List.length_drop]
 lia
def rSlT (K:PySem.W.Frag):V->Option Int->Option Int->Hp->VK->Prop:=λx lo hi H Q=>∃a xs,x=.ref a/\SqT K H a xs /\
 ¬(HT.sIx xs.length 0 lo=0/\HT.sIx xs.length xs.length hi=xs.length)/\∀p,H p=none->Q (.ref p) (upd H p (.tup (cutV xs lo hi)))
theorem sl_tup:SlR X (rSlT X.K):=by
 intro pins s σ H x v vl vu lo hi sl Q I rx hs pl pu h
 obtain⟨a,xs,rfl,hx,hw,q⟩:=h
 cases rx
 obtain⟨its,r,ht,hz⟩:=I.tuple hx
 have hlen:its.toArray.size=xs.length:=by rw[List.size_toArray];exact r.length.symm
 refine⟨"tuple",_,PyProof.Rows.slot_tuple_getitem.lookup,ht.typeIs,?_⟩
 refine HT.getItem_tuple_cut ht hs pl pu (by rw[hlen];exact hw) ?_ (by rw[hlen];exact hz)
 rw[hlen]
 refine⟨.ref s.heap.objs.size,_,I.laid (t':=s.toks) (o:=.tup (cutV xs lo hi)) (λb ob q=>Heap.get?_push_of_some _ q) (Nat.le_refl _) ?_,rfl,q _ (I.hok.fresh (Nat.le_refl _))⟩
 exact⟨Nat.le_trans (cutV_length xs lo hi) hz,_,(r.drop (HT.sIx xs.length 0 lo)).take (HT.sIx xs.length xs.length hi-HT.sIx xs.length 0 lo),IsTupX.new _ _⟩
def rCatT (K:PySem.W.Frag):R2:=λx y H Q=>∃a b xs ys,x=.ref a/\y=.ref b/\SqT K H a xs/\SqT K H b ys/\xs≠[]/\xs.length+ys.length<=sizeLine /\
 (ys=[]->Q (.ref a) H)/\(ys≠[]->∀p,H p=none->Q (.ref p) (upd H p (.tup (xs++ys))))
theorem Vals.nil_iff {xs:List V}{us:List Value}(r:Vals xs us):us=[]<->xs=[]:=by
 cases r with
 |nil=>simp
 |cons _ _=>simp
theorem op_catT:OpR X (binaryOp .Add) (rCatT X.K):=by
 intro pins s σ H x y v u Q I rx ry h
 obtain⟨a,b,xs,ys,rfl,rfl,ha,hb,hx,hz,q1,q2⟩:=h
 cases rx
 cases ry
 obtain⟨its,r1,p1,_⟩:=I.tuple ha
 obtain⟨its2,r2,p2,_⟩:=I.tuple hb
 refine HT.cat_tup p1 p2 (λz=>hx (r1.nil_iff.mp z)) (λz=>⟨.ref a,H,I,rfl,q1 (r2.nil_iff.mp z)⟩) (λz=>?_) (by rw[<- r1.length,<- r2.length];exact hz)
 refine⟨.ref s.heap.objs.size,_,I.laid (t':=s.toks) (o:=.tup (xs++ys)) (λb ob q=>Heap.get?_push_of_some _ q) (Nat.le_refl _) ?_,rfl,q2 (λw=>z (r2.nil_iff.mpr w)) _ (I.hok.fresh (Nat.le_refl _))⟩
 exact⟨by rw[List.length_append];exact hz,_,r1.append r2,IsTupX.new _ _⟩
end
end L2
namespace L2
open PySem PySem.Spec PyProof.Rows
def ixN (n:Nat) (i:Int):Option Nat:=if 0<=i then (if i<n then some i.toNat else none) else if -(n:Int)<=i then some (i+n).toNat else none
def atI {α:Type}(xs:List α) (i:Int):Option α:=(ixN xs.length i).bind λj=>xs[j]?
theorem ixN_seq {n:Nat}{i:Int}{j:Nat}(h:ixN n i=some j):seqIndex? i n=some j/\j<n/\-(n:Int)<=i/\i<n:=by
 unfold ixN at h
 by_cases h0:0<=i
 ·rw[if_pos h0] at h
  by_cases h1:i<n
  ·rw[if_pos h1] at h
   have e:i.toNat=j:=Option.some.inj h
   exact⟨by rw[seqIndex_of h0 h1,e],by lia,by lia,h1⟩
  ·rw[if_neg h1] at h;cases h
 ·rw[if_neg h0] at h
  by_cases h1:-(n:Int)<=i
  ·rw[if_pos h1] at h
   have e:(i+n).toNat=j:=Option.some.inj h
   exact⟨by rw[seqIndex_neg (by lia) h1,e],by lia,h1,by lia⟩
  ·rw[if_neg h1] at h;cases h
theorem atI_get {α:Type}{xs:List α}{i:Int}{v:α}(h:atI xs i=some v):∃j,seqIndex? i xs.length=some j/\xs[j]?=some v/\j<xs.length/\-(xs.length:Int)<=i/\i<xs.length:=by
 unfold atI at h
 cases e:ixN xs.length i with
 |none=>rw[e] at h;cases h
 |some j=>
  rw[e] at h
  obtain⟨h1,h2,h3,h4⟩:=ixN_seq e
  exact⟨j,h1,h,h2,h3,h4⟩
theorem atI_nat {α:Type}{xs:List α}{j:Nat}{v:α}(h:xs[j]?=some v):atI xs (j:Int)=some v:=by
 have hj:j<xs.length:=(List.getElem?_eq_some_iff.mp h).1
 have e:ixN xs.length (j:Int)=some j:=by
  unfold ixN
  rw[if_pos (by lia),if_pos (by lia)];simp
 unfold atI;rw[e];exact h
theorem atI_last {α:Type}(xs:List α) (v:α):atI (xs++[v]) (-1)=some v:=by
 have hl:(xs++[v]).length=xs.length+1:=by simp
 have e:ixN (xs++[v]).length (-1)=some xs.length:=by
  unfold ixN
  rw[hl,if_neg (by decide),if_pos (by lia)]
  congr 1
  lia
 unfold atI
 rw[e]
 show (xs++[v])[xs.length]?=some v
 simp
def PlainIx (b:Expr):Prop:=∀o i,subscripted b false o i=operate [o,i] (getItem o i)
def IxR (X:Cx) (r:R2):Prop:=
 ∀(value slice:Expr) (pins:List (Addr×Obj)) (s:Shared) (σ:St) (H:Hp) (x y:V) (v u:Value) (Q:VK),Inv X pins σ H s->RelV x v->RelV y u->r x y H Q ->
  subscripted slice false v u=operate [v,u] (getItem v u)->wpAny (model X.prog X.w) X.A (subscriptTail value slice v u) (EP X pins σ Q) X.xe s
def MtR (X:Cx) (id:String) (r:V->List V->Hp->VK->Prop):Prop:=
 ∀(pins:List (Addr×Obj)) (s:Shared) (σ:St) (H:Hp) (x:V) (xs:List V) (v:Value) (us:List Value) (Q:VK),Inv X pins σ H s->RelV x v->Vals xs us->r x xs H Q ->
  wpAny (model X.prog X.w) X.A (call (.builtin id) (v::us)) (EP X pins σ Q) X.xe s
section
variable {X:Cx}{a b:Expr}{ta tb:TE}{pos:Pos}
theorem IxR.or {r r':R2}(h:IxR X r) (h':IxR X r'):IxR X (λx y H Q=>r x y H Q\/r' x y H Q):=by
 intro value slice pins s σ H x y v u Q I rx ry q hs
 rcases q with q|q
 ·exact h value slice pins s σ H x y v u Q I rx ry q hs
 ·exact h' value slice pins s σ H x y v u Q I rx ry q hs
theorem MtR.or {id:String}{r r':V->List V->Hp->VK->Prop}(h:MtR X id r) (h':MtR X id r'):MtR X id (λx xs H Q=>r x xs H Q\/r' x xs H Q):=by
 intro pins s σ H x xs v us Q I rx rs q
 rcases q with q|q
 ·exact h pins s σ H x xs v us Q I rx rs q
 ·exact h' pins s σ H x xs v us Q I rx rs q
theorem pe_ix {r:R2}(hr:IxR X r) (ha:PE X a ta) (hb:PE X b tb) (hs:PlainIx b):PE X (.Subscript a b pos) (tOp r ta tb):=by
 intro pins s σ H Q I h
 exact Subscript_ (binT ha hb I h λv u s2 x y H2 I2 rx ry q=>hr a b pins s2 σ H2 x y v u Q I2 rx ry q (hs _ _))
def rIxL (K:PySem.W.Frag):R2:=λx y H Q=>∃p xs i v,x=.ref p/\y=.int i/\SqL K H p xs/\atI xs i=some v/\Q v H
def rIxT (K:PySem.W.Frag):R2:=λx y H Q=>∃p xs i v,x=.ref p/\y=.int i/\SqT K H p xs/\atI xs i=some v/\Q v H
def rIxS:R2:=λx y H Q=>∃z i c,x=.str z/\y=.int i/\z.length<=sizeLine/\atI z.cps.toList i=some c/\Q (.str ⟨#[c]⟩) H
theorem ix_list:IxR X (rIxL X.K):=by
 intro value slice pins s σ H x y v u Q I rx ry h hs
 obtain⟨p,xs,i,z,rfl,rfl,hq,he,q⟩:=h
 cases rx
 obtain⟨t,rfl⟩:=ry
 obtain⟨its,r,pl,hz⟩:=I.list hq
 obtain⟨j,h1,h2,h3,h4,h5⟩:=atI_get he
 obtain⟨w,ew,rw'⟩:=r.get h2
 have hl:=r.length
 have hn:=line63
 have fin:EP X pins σ Q w s:=⟨z,H,I,rw',q⟩
 by_cases h0:0<=i
 ·have hj:i.toNat=j:=by
   rw[seqIndex_of h0 h5] at h1
   exact Option.some.inj h1
  exact item_listR pl.isList h0 (by lia) (by rw[hj];simpa using ew) fin hs
 ·have hj:(i+(its.toArray.size:Int)).toNat=j:=by
   rw[seqIndex_neg (by lia) h4] at h1
   rw[List.size_toArray,<- hl]
   exact Option.some.inj h1
  exact subscriptTail_builtinR (x:=w) pl.isList.typeIs slot_list_getitem.lookup
   (wpAny_getItem_list_neg (Q:=λr s'=>r=w/\EP X pins σ Q r s') pl.isList (by lia) (by rw[List.size_toArray]<;>lia) (by lia) (by rw[hj];simpa using ew) ⟨rfl,fin⟩) hs
theorem ix_tup:IxR X (rIxT X.K):=by
 intro value slice pins s σ H x y v u Q I rx ry h hs
 obtain⟨p,xs,i,z,rfl,rfl,hq,he,q⟩:=h
 cases rx
 obtain⟨t,rfl⟩:=ry
 obtain⟨its,r,pl,hz⟩:=I.tuple hq
 obtain⟨j,h1,h2,h3,h4,h5⟩:=atI_get he
 obtain⟨w,ew,rw'⟩:=r.get h2
 have hl:=r.length
 have hn:=line63
 have fin:EP X pins σ Q w s:=⟨z,H,I,rw',q⟩
 exact subscriptTail_builtinR (x:=w) pl.typeIs slot_tuple_getitem.lookup
  (getItem_tuple (j:=j) (Q:=λr s'=>r=w/\EP X pins σ Q r s') pl (by lia) (by lia) (by rw[List.size_toArray,<- hl];exact h1) (by simpa using ew) ⟨rfl,fin⟩) hs
theorem mapSeq_set (its:List Value) (n j:Nat) (u:Value):Obj.mapSeq (·.setIfInBounds j u) { cls:=.type "list",data:=.seq its.toArray n }={ cls:=.type "list",data:=.seq (its.set j u).toArray n }:=by
 simp[Obj.mapSeq]
theorem Inv.lst {pins:List (Addr×Obj)}{σ:St}{H:Hp}{s:Shared}{p:Addr}{xs:List V}(I:Inv X pins σ H s) (h:H p=some (.lst xs)) :
  ∃(its:List Value) (n:Nat),Vals xs its/\s.heap.get? p=some { cls:=.type "list",data:=.seq its.toArray n }/\xs.length<=sizeLine:=by
 obtain⟨z,its,n,r,e⟩:=I.hok p _ h
 exact⟨its,n,r,e,z⟩
theorem Inv.lstUpd {pins:List (Addr×Obj)}{σ:St}{H:Hp}{s:Shared}{p:Addr}{xs ys:List V}{its its':List Value}{n n':Nat}{f:Obj->Obj}(I:Inv X pins σ H s) (h:H p=some (.lst xs))
  (ho:s.heap.get? p=some { cls:=.type "list",data:=.seq its.toArray n }) (hf:f { cls:=.type "list",data:=.seq its.toArray n }={ cls:=.type "list",data:=.seq its'.toArray n' }) (r:Vals ys its') (hz:ys.length<=sizeLine) (t:Nat) :
  Inv X pins σ (upd H p (.lst ys)) { s with heap:=s.heap.update p f,toks:=t }:=by
 have e:(s.heap.update p f).get? p=some { cls:=.type "list",data:=.seq its'.toArray n' }:=by
  rw[Heap.get?_update_self f ho (by rw[hf]<;>rfl),hf]
 refine I.write (x:=p) (e:=p) (by rw[h];trivial) (.inl rfl) (λb u hb q=>(Heap.get?_update_other _ _ (Ne.symm hb)).trans q) ⟨_,e⟩ ?_
 exact⟨hz,its',n',r,e⟩
def rSetL:V->V->V->Hp->(Hp->Prop)->Prop:=λo i v H Q=>∃p xs k j,o=.ref p/\i=.int k/\H p=some (.lst xs)/\ixN xs.length k=some j/\Q (upd H p (.lst (xs.set j v)))
theorem set_list:PSet X rSetL:=by
 intro pins s σ H o i v ov iv u Q I ro ri rv h
 obtain⟨p,xs,k,j,rfl,rfl,hp,hj,q⟩:=h
 cases ro
 obtain⟨t,rfl⟩:=ri
 obtain⟨its,n,r,ho,hz⟩:=I.lst hp
 obtain⟨h1,h2,h3,h4⟩:=ixN_seq hj
 have hl:=r.length
 have hn:=line63
 have I':Inv X pins σ (upd H p (.lst (xs.set j v))) { s with heap:=s.heap.update p (Obj.mapSeq (·.setIfInBounds j u)) }:=
  I.lstUpd hp ho (mapSeq_set its n j u) (r.set rv j) (by rw[List.length_set];exact hz) s.toks
 by_cases h0:0<=k
 ·have hk:k.toNat=j:=by
   rw[seqIndex_of h0 h4] at h1
   exact Option.some.inj h1
  exact PySem.W.ki_setAt ho h0 (by lia) (by rw[List.size_toArray,<- hl];exact h4) (by rw[hk];exact⟨_,I',q⟩)
 ·have hk:(k+(its.toArray.size:Int)).toNat=j:=by
   rw[seqIndex_neg (by lia) h3] at h1
   rw[List.size_toArray,<- hl]
   exact Option.some.inj h1
  exact PySem.W.ki_setBack ho (by lia) (by rw[List.size_toArray,<- hl];exact h3) (by lia) (by rw[hk];exact⟨_,I',q⟩)
theorem call_len_seq:CallR X (.builtin "len") (λxs H Q=>∃p ys,xs=[.ref p]/\(SqL X.K H p ys\/SqT X.K H p ys)/\Q (.int ys.length) H):=by
 intro pins s σ H xs us Q I r h
 obtain⟨p,ys,rfl,hq,q⟩:=h
 obtain⟨u,rfl,rx⟩:=vals1 r
 cases rx
 have hn:=line63
 rcases hq with hq|hq
 ·obtain⟨its,r',pl,hz⟩:=I.list hq
  have hlen:=r'.length
  exact Calls.call_len_list pl.isList (by simp only[List.size_toArray]<;>lia) ⟨.int ys.length,H,I.tok _,⟨s.toks+1,by rw[List.size_toArray,hlen]⟩,q⟩
 ·obtain⟨its,r',pl,hz⟩:=I.tuple hq
  have hlen:=r'.length
  exact len_tuple pl (by simp only[List.size_toArray]<;>lia) ⟨.int ys.length,H,I.tok _,⟨s.toks+1,by rw[List.size_toArray,hlen]⟩,q⟩
theorem CallR.or {f:Value}{r r':List V->Hp->VK->Prop}(h:CallR X f r) (h':CallR X f r'):CallR X f (λxs H Q=>r xs H Q\/r' xs H Q):=by
 intro pins s σ H xs us Q I rs q
 rcases q with q|q
 ·exact h pins s σ H xs us Q I rs q
 ·exact h' pins s σ H xs us Q I rs q
theorem call_list_of:CallR X (.type "list") (λxs H Q=>∃p ys,xs=[.ref p]/\(SqL X.K H p ys\/SqT X.K H p ys)/\∀l,H l=none->Q (.ref l) (upd H l (.lst ys))):=by
 intro pins s σ H xs us Q I r h
 obtain⟨p,ys,rfl,hq,q⟩:=h
 obtain⟨u,rfl,rx⟩:=vals1 r
 cases rx
 have fin:∀(its:List Value),Vals ys its->ys.length<=sizeLine->∀(h':Heap) (c':Nat),(∀b o',s.heap.get? b=some o'->h'.get? b=some o') ->
   h'.get? s.heap.objs.size=some { cls:=.type "list",dict:=none,data:=.seq its.toArray c',slots:=#[] }->EP X pins σ Q (.ref s.heap.objs.size) { s with heap:=h' }:=λits r' hz h' c' kp e=>
  ⟨.ref s.heap.objs.size,_,I.laid (t':=s.toks) kp (Nat.le_refl _) (show ObjOk X.prog X.w _ h' _ (.lst ys) from ⟨hz,its,c',r',e⟩),rfl,q _ (I.hok.fresh (Nat.le_refl _))⟩
 rcases hq with hq|hq
 ·obtain⟨its,r',pl,hz⟩:=I.list hq
  have hlen:=r'.length
  obtain⟨o,ho,hc,n,hd⟩:=pl.isList
  exact call_list_seq p (.inl rfl) ho hc hd (λh' c' kp e=>fin its r' hz h' c' kp e) (by simp only[List.size_toArray]<;>lia)
 ·obtain⟨its,r',pl,hz⟩:=I.tuple hq
  have hlen:=r'.length
  obtain⟨o,ho,hc,n,hd⟩:=pl
  exact call_list_seq p (.inr rfl) ho hc hd (λh' c' kp e=>fin its r' hz h' c' kp e) (by simp only[List.size_toArray]<;>lia)
theorem call_tuple_of:CallR X (.type "tuple") (λxs H Q=>∃p ys,xs=[.ref p]/\((SqL X.K H p ys/\∀l,H l=none->Q (.ref l) (upd H l (.tup ys)))\/(SqT X.K H p ys/\Q (.ref p) H))):=by
 intro pins s σ H xs us Q I r h
 obtain⟨p,ys,rfl,h⟩:=h
 obtain⟨u,rfl,rx⟩:=vals1 r
 cases rx
 rcases h with ⟨hq,q⟩|⟨hq,q⟩
 ·obtain⟨its,r',pl,hz⟩:=I.list hq
  have hlen:=r'.length
  refine call_tuple_list pl.isList (λh' kp=>?_) (by simp only[List.size_toArray]<;>lia)
  have I1:Inv X pins σ H { s with heap:=h' }:=I.kept (t':=s.toks) kp
  have I2:Inv X pins σ (upd H h'.objs.size (.tup ys)) { s with heap:=h'.push { cls:=.type "tuple",data:=.seq its.toArray } }:=
   I1.laid (t':=s.toks) (λb o e=>Heap.get?_push_of_some _ e) (Nat.le_refl _) (show ObjOk X.prog X.w _ _ _ (.tup ys) from ⟨hz,its,r',IsTupX.new _ _⟩)
  exact⟨.ref h'.objs.size,_,I2,rfl,q _ (I1.hok.fresh (Nat.le_refl _))⟩
 ·obtain⟨its,r',pl,hz⟩:=I.tuple hq
  exact call_tuple_same pl ⟨.ref p,H,I,rfl,q⟩
def tyV (K:PySem.W.Frag) (T:String) (x:V) (H:Hp):Prop:=match x with
 |.str _=>T = "str"
 |.int _=>T = "int"
 |.ref p=>(T = "list" /\ ∃xs,SqL K H p xs)\/(T = "tuple" /\ ∃o,K.lookup p=some o/\o.cls=.type "tuple" /\ o.dict=none) \/
   (T = "dict" /\ ((∃kvs,H p=some (.dK kvs))\/∃kvs,H p=some (.dT kvs)))\/(T = "set" /\ ∃S n,H p=some (.set S n))
 |_=>False
theorem tyV_is {pins:List (Addr×Obj)}{σ:St}{H:Hp}{s:Shared}{T:String}{x:V}{v:Value}(I:Inv X pins σ H s) (r:RelV x v) (ty:tyV X.K T x H) :
  s.TypeIs v T/\∀a,v=.ref a->∃ob,s.heap.get? a=some ob/\ob.dict=none:=by
 cases x with
 |str z=>
  obtain⟨t,rfl⟩:=r
  cases (show T = "str" from ty)
  exact⟨typeIs_str s z t,λ_ e=>nomatch e⟩
 |int i=>
  obtain⟨t,rfl⟩:=r
  cases (show T = "int" from ty)
  exact⟨typeIs_int s i t,λ_ e=>nomatch e⟩
 |ref p=>
  cases r
  rcases ty with ⟨rfl,xs,hq⟩|⟨rfl,o,hk,hc,hd⟩|⟨rfl,hk⟩|⟨rfl,S,n,hk⟩
  ·obtain⟨its,_,pl,_⟩:=I.list hq
   refine⟨pl.isList.typeIs,λa e=>?_⟩
   cases e
   obtain⟨o,n,e,c,hd,_⟩:=pl
   exact⟨o,e,hd⟩
  ·refine⟨⟨o,I.kIn p o hk,hc⟩,λa e=>?_⟩
   cases e
   exact⟨o,I.kIn _ o hk,hd⟩
  ·have z:∃o,s.heap.get? p=some o/\o.ExactDict:=by
    rcases hk with ⟨kvs,hk⟩|⟨kvs,hk⟩
    ·obtain⟨_,_,_,_,o,_,_,e,ex,_⟩:=I.hok p _ hk
     exact⟨o,e,ex⟩
    ·obtain⟨_,_,_,_,o,_,_,e,ex,_⟩:=I.hok p _ hk
     exact⟨o,e,ex⟩
   obtain⟨o,e,ex⟩:=z
   refine⟨⟨o,e,ex.1⟩,λa e2=>?_⟩
   cases e2
   exact⟨o,e,ex.2.1⟩
  ·obtain⟨o,_,_,_,e,ex,_⟩:=I.hok p _ hk
   refine⟨⟨o,e,ex.1⟩,λa e2=>?_⟩
   cases e2
   exact⟨o,e,ex.2.1⟩
 |_=>exact False.elim ty
def tBM (K:PySem.W.Frag) (T:String) (r:V->List V->Hp->VK->Prop) (to:TE) (t:TA):TE:=λσ H Q=>to σ H λx H1=>tyV K T x H1/\t σ H1 λxs H2=>r x xs H2 Q
variable {o e:Expr}{es:List Expr}{to:TE}{t:TA}{name:Str}{apos cpos:Pos}{T id:String}{r:V->List V->Hp->VK->Prop}
theorem pe_bm (pa:PlainAttrs T) (slot:Slot T name id) (hty:typeOf (.builtin id)=pure (.type "method_descriptor")) (hm:MtR X id r) (ho:PE X o to) (ha:PA X (e::es) t)
  (hbase:attributeBase o name X.env (eval o X.env)=eval o X.env:=by rfl)
  (hfew:((backTo cpos (starEach (e::es) X.env)).all (λx=>!x.1)&&(backToKw cpos (keywordEach [] X.env)).all (λx=>x.1.isSome)
   && decide ((e::es).length+([]:List Keyword).length+(if ([]:List Keyword).isEmpty then 0 else 1)<30))=true:=by rfl)
  (hline:(apos.endLine==cpos.line)=true:=by rfl) (hs:starEach (e::es) X.env=(false,eval e X.env)::starEach es X.env:=by rfl) (hplain:(backTo cpos (starEach es X.env)).any (·.1)=false:=by rfl) :
  PE X (.Call (.Attribute o name apos) (e::es) [] cpos) (tBM X.K T r to t):=by
 intro pins s σ H Q I h
 refine wpAny_Call_method_late hbase hfew hline rfl (thn (ho pins s σ H _ I h) λv s1 ⟨x,H1,I1,r1,ty,q1⟩=>?_)
 obtain⟨h1,h2⟩:=tyV_is I1 r1 ty
 refine⟨T,id,pa,slot,hty,h1,h2,?_⟩
 have hA:=ha cpos pins s1 σ H1 _ I1 q1
 rw[hs] at hA ⊢
 refine Calls.callWith_builtin (by show (false||(backTo cpos (starEach es X.env)).any (·.1))=false;rw[hplain]<;>rfl) (Calls.evalArgs_plain ?_)
 exact thn hA λus s2 ⟨vs,H2,I2,r2,q2⟩=>hm pins s2 σ H2 x vs v us Q I2 r1 r2 q2
end
end L2
namespace L2
open PySem PySem.Spec PyProof.Rows
def MtM (X:Cx) (id:String) (r:V->List V->Hp->VK->Prop):Prop:=
 ∀(pins:List (Addr×Obj)) (s:Shared) (σ:St) (H:Hp) (x:V) (xs:List V) (v:Value) (us:List Value) (Q:VK),Inv X pins σ H s->RelV x v->Vals xs us->r x xs H Q ->
  wpAny (model X.prog X.w) X.A (call (.builtin id) (v::us)) (EP X pins σ Q) X.xe s
theorem Vals.one:∀{x:V}{us:List Value},Vals [x] us->∃u,us=[u]/\RelV x u
 |_,_,.cons r .nil=>⟨_,rfl,r⟩
theorem Vals.two:∀{x y:V}{us:List Value},Vals [x,y] us->∃u v,us=[u,v]/\RelV x u/\RelV y v
 |_,_,_,.cons r (.cons q .nil)=>⟨_,_,rfl,r,q⟩
theorem Vals.zero:∀{us:List Value},Vals [] us->us=[]
 |_,.nil=>rfl
theorem Vals.reverse {xs:List V}{us:List Value}(h:Vals xs us):Vals xs.reverse us.reverse:=by
 induction h with
 |nil=>exact .nil
 |cons r t ih=>rw[List.reverse_cons,List.reverse_cons];exact Vals.append ih (.cons r .nil)
theorem Vals.rep {xs:List V}{us:List Value}(h:Vals xs us):∀k:Nat,Vals (List.replicate k xs).flatten (List.replicate k us).flatten
 |0=>.nil
 |k+1=>by
  rw[List.replicate_succ,List.replicate_succ,List.flatten_cons,List.flatten_cons]
  exact Vals.append h (Vals.rep h k)
section
variable {X:Cx}{pins:List (Addr×Obj)}{σ:St}{H:Hp}{s:Shared}{l b:Addr}{xs ys zs:List V}
theorem Inv.lset {its its':List Value}{n:Nat}{f:Array Value->Array Value}{t':Nat}(I:Inv X pins σ H s) (hH:H l=some (.lst xs))
  (e:s.heap.get? l=some { cls:=.type "list",data:=.seq its.toArray n }) (hf:f its.toArray=its'.toArray) (hv:Vals ys its') (hz:ys.length<=sizeLine) :
  Inv X pins σ (upd H l (.lst ys)) { s with heap:=s.heap.update l (Obj.mapSeq f),toks:=t' }:=by
 have q:=PySem.IsL.update e f
 rw[hf] at q
 refine I.write (x:=l) (e:=l) (by rw[hH];exact trivial) (.inl rfl) (λb' u hb hu=>(Heap.get?_update_other s.heap (Obj.mapSeq f) (Ne.symm hb)).trans hu) ⟨_,q⟩ ?_
 exact⟨hz,its',_,hv,q⟩
theorem Inv.lnew {its:List Value}{t':Nat}(I:Inv X pins σ H s) (hv:Vals ys its) (hz:ys.length<=sizeLine) :
  Inv X pins σ (upd H s.heap.objs.size (.lst ys)) { s with heap:=s.heap.push { cls:=.type "list",data:=.seq its.toArray },toks:=t' }:=
 I.laid (λ_ _ q=>Heap.get?_push_of_some _ q) (Nat.le_refl _) ⟨hz,its,0,hv,Heap.get?_push_size _ rfl⟩
theorem Inv.fresh (I:Inv X pins σ H s):H s.heap.objs.size=none:=I.hok.fresh (Nat.le_refl _)
theorem Inv.lstM (I:Inv X pins σ H s) (hH:H l=some (.lst xs)):xs.length<=sizeLine/\∃(its:List Value) (n:Nat),Vals xs its/\xs.length=its.length/\s.heap.get? l=some { cls:=.type "list",data:=.seq its.toArray n }:=by
 obtain⟨z,its,n,r,e⟩:=I.hok l _ hH
 exact⟨z,its,n,r,r.length,e⟩
end
section
variable {X:Cx}
def rAppend:V->List V->Hp->VK->Prop:=λx vs H Q=>∃l xs y,x=.ref l/\vs=[y]/\H l=some (.lst xs)/\xs.length<sizeLine/\Q .non (upd H l (.lst (xs++[y])))
theorem mt_append:MtM X "list.append" rAppend:=by
 intro pins s σ H x vs v us Q I rx rv h
 obtain⟨l,xs,y,rfl,rfl,hH,hz,q⟩:=h
 cases rx
 obtain⟨u,rfl,ru⟩:=rv.one
 obtain⟨z,its,n,r,hl,e⟩:=I.lstM hH
 refine call_meets F.slot_list_append ⟨_,e,rfl⟩ F.entry_list_append (F.args_list_append_2 _ _) (PySem.list_append l its.toArray n u (by rw[List.size_toArray];lia)) ⟨e,?_⟩
 refine⟨.non,_,I.lset (its':=its++[u]) hH e (by simp) (r.append (.cons ru .nil)) ?_,rfl,q⟩
 rw[List.length_append,List.length_singleton]
 lia
def rCat:R2:=λx y H Q=>∃l b xs zs,x=.ref l/\y=.ref b/\H l=some (.lst xs)/\H b=some (.lst zs)/\xs.length+zs.length<=sizeLine/\∀p,H p=none->Q (.ref p) (upd H p (.lst (xs++zs)))
theorem op_cat:OpR X (binaryOp .Add) rCat:=by
 intro pins s σ H x y v u Q I rx ry h
 obtain⟨l,b,xs,zs,rfl,rfl,hH,hB,hz,q⟩:=h
 cases rx
 cases ry
 obtain⟨z,its,n,r,hl,e⟩:=I.lstM hH
 obtain⟨z2,its2,n2,r2,hl2,e2⟩:=I.lstM hB
 refine PySem.P.add_list e e2 ?_ (by rw[List.size_toArray,List.size_toArray];lia)
 have ea:its.toArray++its2.toArray=(its++its2).toArray:=by simp
 rw[ea]
 exact⟨.ref _,_,I.lnew (t':=s.toks) (r.append r2) (by rw[List.length_append];lia),rfl,q _ I.fresh⟩
end
section
variable {prog:Program}{w:World}{A:Around}{E:Value->Shared->Prop}{s:Shared}
end
section
variable {X:Cx}
end
end L2
namespace Att
open PySem PySem.W PySem.Calls PyProof.Rows
theorem ints_of_wellAll {P:Params}{h:Heap}:∀(ns:List Int) (vs:List Value),WellAll P h vs (ns.map WData.int)->IntsAre vs ns:=by
 intro ns
 induction ns with
 |nil=>
  intro vs w
  rw[List.map_nil] at w
  cases w
  exact .nil
 |cons n ns ih=>
  intro vs w
  rw[List.map_cons] at w
  cases w with
  |cons a b=>
   cases a
   exact .cons _ _ (ih _ b)
theorem script_of {l:OpenLaw}{n:Nat}(hn:l.most=some n){P:Params}{h:Heap}{args:List WData}{vals:List Value}
  (hpre:l.row.toRowW.claim.pre args=true) (hwl:WellAll P h vals args) :
  ∃a vs ns,vals=[Value.ref a]/\args=[WData.list (ns.map WData.int)]/\h.get? a=some { cls:=.type "list",data:=.seq vs.toArray }/\IntsAre vs ns/\ns.length<=n:=by
 have hsh:WShape.hasAll [] args [.list .int]=true:=(pre_splitW hpre).1
 have hc:l.pre.holds [] { args:=args }=true:=(pre_splitW hpre).2
 obtain⟨d,r,rfl,h1,h2⟩:=hasAllW_cons hsh
 obtain rfl:=hasAllW_nil h2
 obtain⟨xs,rfl,h3⟩:=hasW_list h1
 obtain⟨ns,rfl⟩:=items_int h3
 have hlen:ns.length<=n:=by
  unfold OpenLaw.pre at hc
  have h4:(WTm.not (.lt (.lit (.int (n:Int))) (.len (.arg 0)))).holds [] { args:=[.list (ns.map .int)] }=true:=by
   have h4:=(holds_andW hc).1
   rw[hn] at h4
   exact h4
  have h5:=condW_of h4 (w_not (w_lt w_lit (w_len_list (w_arg rfl))))
  rw[List.length_map] at h5
  refine Nat.le_of_not_lt λq=>?_
  have q':(n:Int)<((ns.length:Nat):Int):=by lia
  first
   |(rw[decide_eq_true q'] at h5;exact absurd h5 (by decide))
   |(simp at h5;lia)
 cases hwl with
 |cons w1 w2=>
  cases w2
  cases w1 with
  |list ho hall=>exact⟨_,_,ns,rfl,rfl,ho,ints_of_wellAll ns _ hall,hlen⟩
theorem post_true (l:OpenLaw) (args:List WData):l.row.toRowW.claim.post args (.bool true) args=true:=
 postW_of (r:=l.row.toRowW) (X:=(true==true))
  (show WShape.has [] (.bool true) .bool=true by first|rfl|decide|simp[WShape.has,WShape.arms,WShape.armsAll])
  (show (WTm.eq .res (.lit (.bool true))).value [] { args:=args,res:=some (.bool true),after:=args }=some (.bool (true==true)) from w_eq_bool (w_res rfl) w_lit) rfl
theorem attach_call {l:OpenLaw}{n:Nat}{q:Program}{loose:List Str}{XP:(Str->Option Value)->Heap->Prop}{YP:World->Heap->Prop}{d:DefRec}
  (hn:l.most=some n) (hdf:d.params.defaults=[])
  (call:∀(w:World) (s₀ s₁:Shared) (mg mb:Str->Option Value) (fa:Addr) (o:Obj) (pm cd doc:Value) (a:Addr) (vs:List Value) (ns:List Int),
   Ground q loose [] XP w s₀ mg mb s₁.heap->YP w s₁.heap ->
   s₁.heap.get? fa=some o->o.data=.func (docDef d.name d.params d.body d.scope pm cd doc)->s₁.heap.CodeRec cd d.name->mg d.name=some (.ref fa) ->
   s₁.heap.get? a=some { cls:=.type "list",data:=.seq vs.toArray }->IntsAre vs ns->ns.length<=n->s₁.gens=#[] ->
   codeAny (model l.prog w) callerA (.call (.ref fa) ⟨[.ref a],[]⟩) (λr s'=>r=.ok (.ret (.bool true))/\OldK s₁.heap s'.heap/\s'.os=s₁.os/\AllBare s'.gens) s₁) :
  WalkO q loose XP YP l.row.toRowW d [] (λf vs=>PySem.call f vs):=by
 intro w s₀ s₁ mg mb G Y fa o pm cd doc dV kV ho hd hcd hD hmg hg args vals as hpre hlay hrd hwl hlo
 obtain rfl:dV=.none:=Dflts.none hD hdf
 obtain rfl:kV=.none:=Dflts.noKw hD
 obtain⟨a,vs,ns,rfl,rfl,hobj,hints,hlen⟩:=script_of hn hpre hwl
 refine enter_call (codeAny_mono (call w s₀ s₁ mg mb fa o pm cd doc a vs ns G Y ho (fd_plain hd) hcd hmg hobj hints hlen hg) λr s' hq=>?_)
 obtain⟨rfl,h2,h3,h4⟩:=hq
 exact⟨.inl ⟨.bool true,.bool true,[],rfl,λ_=>rfl,.bool true,post_true l _,λ_=>⟨List.Pairwise.nil,λ_ hm=>(nomatch hm)⟩⟩,h2,h3,h4⟩
section
variable {prog:Program}{w:World}{A:Around}{E:Value->Shared->Prop}{s:Shared}{K:Frag}
end
end Att
namespace L2
open PySem PySem.Spec PyProof.Rows
theorem vals_ints:∀{vs:List Value}{ns:List Int},IntsAre vs ns->Vals (ns.map V.int) vs
 |_,_,.nil=>.nil
 |_,_,.cons n t h=>.cons ⟨t,rfl⟩ (vals_ints h)
def Only (H:Hp):Prop:=∀b,H b=none\/∃o xs,H b=some (.frz o (.lst xs))
theorem law_call {P:Program}{w:World}{K:PySem.W.Frag}{mg mb:Str->Option Value}{CX:CXT}{k:Nat}{fa a:Addr}{fd:FuncData}{x:Str}{sp:Sp}{s₁:Shared}{vs:List Value}{ns:List Int}
  (KX:K.In s₁.heap) (hns:s₁.heap.Ns mainGlobals mg) (hb:s₁.heap.Ns builtinsNs mb) (hbb:∀x:Str,x ≠ "__name__" -> mb x=bootBuiltins x) (hlim:s₁.heap.NoLimit) (hg:s₁.gens=#[])
  (ha:s₁.heap.get? a=some { cls:=.type "list",data:=.seq vs.toArray }) (hi:IntsAre vs ns) (hl:ns.length<=sizeLine) (hr:Room k callerA)
  (F:∀base:Heap,K.In base->base.Ns mainGlobals mg->FnOk P w K mg base CX k fa fd [x] sp) (hbind:∀(s:Shared) (u:Value),BindsTo s fd ⟨[u],[]⟩ [(x,u)])
  (hsp:∀H:Hp,Only H->SqL K H a (ns.map V.int)->sp [.ref a] H (λv _=>v=.bl true) λ_ _ _=>False)
  (hCX:∀H e s',CX [] H s₁ (λ_ _ _=>False) e s'->False) :
  codeAny (model P w) callerA (.call (.ref fa) ⟨[.ref a],[]⟩) (λr s'=>r=.ok (.ret (.bool true))/\OldK s₁.heap s'.heap/\s'.os=s₁.os/\AllBare s'.gens) s₁:=by
 have rv:=vals_ints hi
 have lenV:=hi.length
 have core:∀H:Hp,Only H->SqL K H a (ns.map V.int)->HOk P w H s₁.heap->(∀b,H b≠none->b=a)->(H a≠none->K.lookup a=none) ->
   codeAny (model P w) callerA (.call (.ref fa) ⟨[.ref a],[]⟩) (λr s'=>r=.ok (.ret (.bool true))/\OldK s₁.heap s'.heap/\s'.os=s₁.os/\AllBare s'.gens) s₁:=by
  intro H hO hS hok hA hK
  have base_of:∀{b:Addr}{o:Obj},s₁.heap.get? b=some o->H b=none->(hidT s₁.heap H).get? b=some o:=λe n=>hidT_get e n
  have noA:∀{b:Addr}{o:Obj}{es:Array DictEntry}{ep:Nat},s₁.heap.get? b=some o->o.data=.dict es ep->H b=none:=λ{b o es ep} e d=>by
   cases q:H b with
   |none=>rfl
   |some u=>
    have e':b=a:=hA b (by rw[q];simp)
    subst e'
    rw[ha] at e;cases e
    have d':Data.seq vs.toArray _=Data.dict es ep:=d
    cases d'
  have nsK:∀{b:Addr}{m:Str->Option Value},s₁.heap.Ns b m->(hidT s₁.heap H).Ns b m:=λ{b m} ⟨o,es,ep,e,d,r⟩=>⟨o,es,ep,base_of e (noA e d),d,r⟩
  have hKb:K.In (hidT s₁.heap H):=λb o e=>base_of (KX b o e) (by
   cases q:H b with
   |none=>rfl
   |some u=>
    have e':b=a:=hA b (by rw[q];simp)
    subst e'
    rw[hK (by rw[q];simp)] at e;cases e)
  have hM:Mod K mg (hidT s₁.heap H):=⟨hKb,nsK hns,⟨mb,nsK hb,hbb⟩,let ⟨mc,h1,h2⟩:=hlim;⟨mc,nsK h1,h2⟩⟩
  have e0:Env0 P w K mg (hidT s₁.heap H) callerA [] s₁ H:=⟨rfl,hM,λb o e=>of_hidT e,Nat.le_of_eq (hidT_size _ _),trivial,λb hb=>absurd (show b∈([]:List Addr) from hb) (by simp),hok,.of_eq hg⟩
  refine codeAny_mono ((F _ hKb (nsK hns)).run callerA [] s₁ H ⟨[.ref a],[]⟩ [.ref a] [.ref a] _ _ hr e0 (hbind s₁ (.ref a)) (.cons rfl .nil) (hsp H hO hS)) λr s' h=>?_
  cases r with
  |error e=>exact (hCX H e s' h).elim
  |ok fl=>
   cases fl with
   |next=>exact False.elim h
   |brk=>exact False.elim h
   |cont=>exact False.elim h
   |ret u=>
    obtain⟨v,H',os,bare,un,hok',r',q⟩:=h
    have q':v=.bl true:=q
    subst q'
    obtain rfl:u=Value.bool true:=r'
    refine⟨rfl,OldK.of_keep λb o e=>?_,os,bare⟩
    cases q:H b with
    |none=>exact un.keep b o e q (by intro z;exact absurd (show b∈([]:List Addr) from z) (by simp)) (by simp)
    |some u=>
     rcases hO b with z|⟨ob,xs,z⟩
     ·rw[q] at z;cases z
     ·have z2:=un.frzs b ob _ z
      obtain⟨e1,_⟩:=hok b _ z
      obtain⟨e2,_⟩:=hok' b _ z2
      rw[e] at e1;cases e1
      exact e2
 cases hk:K.lookup a with
 |some o=>
  have e:=KX a o hk
  rw[ha] at e
  cases e
  refine core (λ_=>none) (λ_=>.inl rfl) (.inr ⟨_,vs.toArray,_,hk,rfl,rfl,rfl,by rw[List.size_toArray,lenV];exact hl,by simpa using rv⟩) (λb u z=>by have z':(none:Option HO)=some u:=z;cases z') (λb z=>absurd rfl z) λz=>absurd rfl z
 |none=>
  refine core (λb=>if b=a then some (.frz { cls:=.type "list",data:=.seq vs.toArray } (.lst (ns.map V.int))) else none) (λb=>?_) (.inl (.inr ⟨{ cls:=.type "list",data:=.seq vs.toArray },if_pos rfl⟩)) (λb u z=>?_) (λb z=>?_) λ_=>hk
  ·by_cases hb:b=a
   ·exact .inr ⟨_,_,if_pos hb⟩
   ·exact .inl (if_neg hb)
  ·by_cases hb:b=a
   ·have z':=(if_pos hb).symm.trans z
    cases z'
    subst hb
    exact⟨ha,by rw[List.length_map];exact hl,vs,_,rv,ha⟩
   ·have z':=(if_neg hb).symm.trans z
    cases z'
  ·by_cases hb:b=a
   ·exact hb
   ·exact absurd (if_neg hb) z
end L2
namespace L2
open PySem PySem.Spec PyProof.Rows
theorem walk_of {l:PySem.W.OpenLaw}{n k:Nat}{q:Program}{loose:List Str}{XP:(Str->Option Value)->Heap->Prop}{YP:World->Heap->Prop}{d:DefRec}{K:Params->PySem.W.Frag}{CX:World->CXT}{sp:World->Sp}{x:Str}
  (hn:l.most=some n) (hn2:n<=sizeLine) (hdf:d.params.defaults=[]) (hr:Room k callerA)
  (hY:∀(w:World) (h:Heap),YP w h->(K w.params).In h)
  (F:∀(w:World) (mg:Str->Option Value) (fa:Addr) (h:Heap),(K w.params).In h->h.Ns mainGlobals mg->mg d.name=some (.ref fa) ->
   ∃fd:FuncData,(∀(s:Shared) (u:Value),BindsTo s fd ⟨[u],[]⟩ [(x,u)]) /\
    ∀base:Heap,(K w.params).In base->base.Ns mainGlobals mg->FnOk l.prog w (K w.params) mg base (CX w) k fa fd [x] (sp w))
  (hsp:∀(w:World) (H:Hp) (a:Addr) (ns:List Int),ns.length<=n->Only H->SqL (K w.params) H a (ns.map V.int)->sp w [.ref a] H (λv _=>v=.bl true) λ_ _ _=>False)
  (hCX:∀(w:World) (H:Hp) (s:Shared) (e:Value) (s':Shared),CX w [] H s (λ_ _ _=>False) e s'->False) :
  PySem.W.WalkO q loose XP YP l.row.toRowW d [] (λf vs=>PySem.call f vs):=by
 refine Att.attach_call hn hdf λw s₀ s₁ mg mb fa o pm cd doc a vs ns G Y ho hd hcd hmg hobj hints hlen hg=>?_
 have KX:=hY w _ Y
 obtain⟨fd,hb,hF⟩:=F w mg fa _ KX G.T.g hmg
 exact law_call KX G.T.g G.T.b G.T.builtins G.T.nolimit hg hobj hints (Nat.le_trans hlen hn2) hr hF hb (λH hO hS=>hsp w H a ns hlen hO hS) λH e s'=>hCX w H s₁ e s'
end L2
namespace L2
open PySem PySem.Spec PyProof.Rows
abbrev CX0:CXT:=λ_ _ _ _ _ _=>False
abbrev E0:XK:=λ_ _ _=>False
theorem pass0 {X:Cx}:Passes CX0 X E0:=λ_ _ _ _ _ _ _ h=>h.elim
structure Fun (K:PySem.W.Frag) (x qual:Str) (st:Stmt) (f:Addr) (fd:FuncData):Prop where
 ex:∃(oc:Value) (od:Option Addr) (kV doc pm:Value) (an:Option Addr) (cdv ct:Value) (osl:Array (Option Value)),
  fd=PySem.W.fnOf x qual (defArgs st) (defBody st) (defScope st) .none kV doc pm an cdv ct/\K.lookup f=some ⟨oc,od,.func fd,osl⟩/\PySem.W.codeIn K cdv qual=true
 kp:PySem.W.keepIn K (.ref f)=true
section
variable {P:Program}{w:World}{K:PySem.W.Frag}{mg:Str->Option Value}{base:Heap}
theorem Fun.ok {x qual:Str}{st:Stmt}{f:Addr}{fd:FuncData}{N ps:List Str}{k:Nat}{sp:Sp}(F:Fun K x qual st f fd) (S:FnScope N ps (defScope st)) (len:∀vs H Q E,sp vs H Q E->vs.length=ps.length)
  (hbody:∀(cdv:Value) (A:Around) (outer:List Env) (s:Shared) (H:Hp) (vs:List V) (Q:VK) (E:XK),Room k (A.deeper (envOfC qual (defScope st) s.heap.objs.size f cdv))->sp vs H Q E ->
   ∃t,PSs (cxOf CX0 P w K mg base N qual (defScope st) f cdv A outer s H E).nox (defBody st) t/\t { nx:=λ_ H'=>Q .non H',rt:=Q } (start N vs) H):FnOk P w K mg base CX0 (k+1) f fd ps sp:=by
 obtain⟨oc,od,kV,doc,pm,an,cdv,ct,osl,rfl,lk,hcd⟩:=F.ex
 refine fn_of lk hcd S len λA outer s H vs Q E hr hsp=>?_
 obtain⟨t,h,q⟩:=hbody cdv A outer s H vs Q E hr hsp
 exact⟨t,h.nox,q⟩
theorem Fun.binds {x qual:Str}{st:Stmt}{f:Addr}{fd:FuncData}{ps:List Str}(F:Fun K x qual st f fd)
  (h:∀(kV doc pm:Value) (an:Option Addr) (cdv ct:Value) (us:List Value),us.length=ps.length->bindArgs (PySem.W.fnOf x qual (defArgs st) (defBody st) (defScope st) .none kV doc pm an cdv ct) ⟨us,[]⟩=pure (ps.zip us)):Binds K fd ps []:=by
 obtain⟨oc,od,kV,doc,pm,an,cdv,ct,osl,rfl,lk,hcd⟩:=F.ex
 exact .all (h kV doc pm an cdv ct)
theorem fun_mk {x qual:Str}{st:Stmt}{f:Addr}{oc:Value}{od an:Option Addr}{osl:Array (Option Value)}{kV doc pm cdv ct:Value}(l:K.lookup f=some ⟨oc,od,.func (PySem.W.fnOf x qual (defArgs st) (defBody st) (defScope st) .none kV doc pm an cdv ct),osl⟩)
  (c:PySem.W.codeIn K cdv qual=true) (k:PySem.W.keepIn K (.ref f)=true):Fun K x qual st f (PySem.W.fnOf x qual (defArgs st) (defBody st) (defScope st) .none kV doc pm an cdv ct):=⟨⟨oc,od,kV,doc,pm,an,cdv,ct,osl,rfl,l,c⟩,k⟩
end
theorem small1000 {n:Nat}(h:n<=1000):n<sizeLine:=Nat.lt_of_le_of_lt h (by decide)
section
variable {X:Cx}
theorem pv (i:Nat){x:Str}{pos:Pos}(hN:X.N[i]?=some x:=by rfl) (hv:Vis X.env.scope x:=by first|exact Or.inl rfl|exact Or.inr (Or.inl rfl)|exact Or.inr (Or.inr rfl)) (hd:(x==("__debug__" : Str))=false:=by decide)
  (hcd:(x==("__classdict__" : Str))=false:=by decide):PE X (.Name x pos) (tVar i):=pe_var hN hv hd hcd
end
theorem iteF {A B:Prop}(h:B):if false=true then A else B:=by
 rw[if_neg Bool.false_ne_true]
 exact h
theorem iteT {A B:Prop}(h:A):if true=true then A else B:=by
 rw[if_pos rfl]
 exact h
theorem ite2 {c A B:Prop}[Decidable c] (h1:c->A) (h2:¬c->B):if c then A else B:=by
 by_cases h:c
 ·rw[if_pos h]
  exact h1 h
 ·rw[if_neg h]
  exact h2 h
theorem iteNS {c A B:Prop}[Decidable c] (hc:c) (h:B):if (!decide c)=true then A else B:=by
 rw[decide_eq_true hc]
 exact iteF h
def Same (H H':Hp):Prop:=∀b o,H b=some o->H' b=some o
theorem Same.refl (H:Hp):Same H H:=λ_ _ h=>h
theorem Same.trans {H H1 H2:Hp}(a:Same H H1) (b:Same H1 H2):Same H H2:=λc o h=>b c o (a c o h)
theorem Same.free {H H':Hp}(e:Same H H'){l:Addr}(h:H' l=Option.none):H l=Option.none:=by
 cases q:H l with
 |none=>rfl
 |some o=>
  rw[e l o q] at h
  cases h
theorem Same.seq {K:PySem.W.Frag}{H H':Hp}{a:Addr}{xs:List V}(e:Same H H') (h:SqL K H a xs):SqL K H' a xs:=by
 rcases h with (h|⟨o,h⟩)|h
 ·exact .inl (.inl (e _ _ h))
 ·exact .inl (.inr ⟨o,e _ _ h⟩)
 ·exact .inr h
end L2
namespace L2
open PySem PySem.Spec PyProof.Rows
section
variable {X:Cx}
theorem closure_ok {env:Env}:∀{names:List (Str×NameKind)}{acc:List (Str×Addr)},
  (∀p∈names,p.2=.free->∃c,cellOf env p.1=pure c/\env.cells.lookup p.1=some c) ->
  (∀y c,acc.lookup y=some c->env.cells.lookup y=some c) ->
  ∃cl:List (Str×Addr),(forIn names acc λp cs=>(if p.2==.free then (do let c <- cellOf env p.1;pure (ForInStep.yield ((p.1,c)::cs))) else pure (ForInStep.yield cs):Sem (ForInStep (List (Str×Addr)))))=pure cl /\
   (∀y c,cl.lookup y=some c->env.cells.lookup y=some c)/\(∀y,(acc.lookup y).isSome=true->(cl.lookup y).isSome=true)/\∀p∈names,p.2=.free->(cl.lookup p.1).isSome=true
 |[],acc,_,ha=>⟨acc,by simp,ha,λ_ h=>h,λ_ h=>absurd h (by simp)⟩
 |(n,k)::r,acc,hn,ha=>by
  by_cases hk:k=.free
  ·subst hk
   obtain⟨c,e1,e2⟩:=hn (n,.free) List.mem_cons_self rfl
   obtain⟨cl,h1,h2,h3,h4⟩:=closure_ok (env:=env) (names:=r) (acc:=(n,c)::acc) (λp hp=>hn p (List.mem_cons_of_mem _ hp)) (λy d h=>by
    rw[List.lookup_cons] at h
    cases hy:y==n with
    |true=>rw[hy] at h;cases h;rw[eq_of_beq hy];exact e2
    |false=>rw[hy] at h;exact ha y d h)
   refine⟨cl,?_,h2,λy hy=>h3 y (by
    rw[List.lookup_cons]
    cases y==n with
    |true=>rfl
    |false=>exact hy),λp hp hf=>?_⟩
   ·rw[List.forIn_cons]
    have e1':cellOf env n=pure c:=e1
    simp only[beq_self_eq_true,if_true,e1',pure_bind]
    exact h1
   ·rcases List.mem_cons.mp hp with rfl|hp
    ·exact h3 _ (by simp[List.lookup_cons])
    ·exact h4 p hp hf
  ·obtain⟨cl,h1,h2,h3,h4⟩:=closure_ok (env:=env) (names:=r) (acc:=acc) (λp hp=>hn p (List.mem_cons_of_mem _ hp)) ha
   refine⟨cl,?_,h2,h3,λp hp hf=>?_⟩
   ·rw[List.forIn_cons]
    have:(k==NameKind.free)=false:=by simpa using hk
    simp only[this,Bool.false_eq_true,if_false,pure_bind]
    exact h1
   ·rcases List.mem_cons.mp hp with rfl|hp
    ·exact absurd hf hk
    ·exact h4 p hp hf
def compCx (X:Cx) (scope:Scope) (cl:List (Str×Addr)) (C:Addr) (x:Str) (fp:List Addr) (s₀:Shared) (H₀:Hp):Cx:=
 { X with N:=x::X.N,s₀:=s₀,H₀:=H₀,env:=compEnvC scope cl C X.env,outer:=X.stack,stack:=X.stack,ex:=fp,fn:=λ_=>false,pn:=[],xe:=λ_ _=>False }
def tComp (wi:TI) (te:TE):TE:=λσ H Q=>wi σ H λJ H1=>∀D,H1 D=none->∃W:Nat->Nat->List V->Hp->Prop,(∃m,W 0 m [] (upd H1 D (.lst []))) /\
 ∀i m xs H2,W i m xs H2->H2 D=some (.lst xs)/\xs.length<sizeLine/\((J.stop i H2/\Q (.ref D) H2)\/(J.go i H2/\∀y H3,J.yld i H2 y H3 ->
  te (some y::σ) H3 λv H4=>H4 D=some (.lst xs)/\∃m',m'<m/\W (i+1) m' (xs++[v]) (upd H4 D (.lst (xs++[v])))))
theorem compLoop_any {prog:Program}{w:World}{A:Around}{R:Result->Shared->Prop}{s:Shared}{elt target iter:Expr}{scope:Scope}{pos:Pos}{it acc:Value}{env:Env}(I:Nat->Shared->Prop)
  (turn:∀n s,I n s->wpAny (model prog w) A (pyNext it) (λr s₁=>match r with
   |none=>R (.ok .next) s₁
   |some v=>wpAny (model prog w) A (letOwnedTupleGo target it v) (λ_ s₁'=>wpAny (model prog w) A (assign target env v) (λ_ s₂=>wpAny (model prog w) A (eval elt env) (λx s₃=>
     wpAny (model prog w) A (call (.builtin "list.append") [acc,x]) (λ_ s₄=>∃m,m<n/\I m s₄) (λ_ _=>False) s₃)
     (λ_ _=>False) s₂) (λ_ _=>False) s₁') (λ_ _=>False) s₁) (λ_ _=>False) s)
  (n:Nat) (h:I n s) :
  codeAny (model prog w) A (.compLoop (.ListComp elt [⟨target,iter,[],0⟩] scope pos) 0 it acc env) R s:=by
 refine codeAny_loop rfl I (λn s hI=>?_) n h
 show wpAny _ A ((compTurn (.ListComp elt [⟨target,iter,[],0⟩] scope pos) 0 it acc env).onRaise (λx=>do noteFrame x env;theTreesLotGoes x)) _ _ s
 refine wpAny_noted ?_
 rw[compTurn_list1]
 refine wpAny_bind (wpAny_standAt (wpAny_bind (wpAny_mono (turn n s hI) (λr s₁ h₁=>?_) λ_ _ h'=>h'.elim)))
 cases r with
 |none=>exact wpAny_pure h₁
 |some v=>
  refine wpAny_bind (wpAny_mono h₁ (λ_ s₁' h₁'=>?_) λ_ _ h'=>h'.elim)
  exact wpAny_bind (wpAny_mono h₁' (λ_ s₂ h₂=>wpAny_bind (wpAny_bind (wpAny_mono h₂ (λx s₃ h₃=>wpAny_bind (wpAny_mono h₃
   (λ_ s₄ h₄=>wpAny_pure (wpAny_pure ⟨rfl,h₄⟩)) λ_ _ h'=>h'.elim)) λ_ _ h'=>h'.elim))) λ_ _ h'=>h'.elim)
theorem closureFor_some {scope:Scope}{env:Env}(hf:∀p∈scope.names,p.2=.free->∃c,env.cells.lookup p.1=some c) :
  ∃cl:List (Str×Addr),closureFor scope env=pure cl/\(∀y c,cl.lookup y=some c->env.cells.lookup y=some c)/\∀p∈scope.names,p.2=.free->(cl.lookup p.1).isSome=true:=by
 obtain⟨cl,h1,h2,_,h4⟩:=closure_ok (env:=env) (names:=scope.names) (acc:=[]) (λp hp hk=>by
  obtain⟨c,e⟩:=hf p hp hk
  refine⟨c,?_,e⟩
  unfold cellOf
  rw[e]) (λy c h=>by simp at h)
 refine⟨cl,?_,h2,h4⟩
 unfold closureFor
 refine Eq.trans ?_ h1
 simp only[bind_pure]
theorem relabel_vis {env:Env}:∀{names:List (Str×NameKind)}{y:Str}{k:NameKind},(names.map λ(n,k)=>if (k==NameKind.free&&env.scope.kind==.function&&env.kindOf n==some .cell) then (n,NameKind.cell) else (n,k)).lookup y=some k ->
  (∀p∈names,p.2≠.cell)->(k=.cell\/k=.free)->∃p∈names,p.1=y/\p.2=.free
 |[],_,_,h,_,_=>by simp at h
 |(n,k0)::r,y,k,h,hc,hk=>by
  rw[List.map_cons] at h
  by_cases hy:y=n
  ·subst hy
   by_cases h0:k0=.free
   ·exact⟨(y,k0),List.mem_cons_self,rfl,h0⟩
   ·exfalso
    have e:(k0==NameKind.free)=false:=by simpa using h0
    simp only[e,Bool.false_and,Bool.false_eq_true,if_false,List.lookup_cons,beq_self_eq_true,Option.some.injEq] at h
    rcases hk with z|z
    ·exact hc _ List.mem_cons_self (h.trans z)
    ·exact h0 (h.trans z)
  ·have hb:(y==n)=false:=by simpa using hy
   have h':(r.map λ(n,k)=>if (k==NameKind.free&&env.scope.kind==.function&&env.kindOf n==some .cell) then (n,NameKind.cell) else (n,k)).lookup y=some k:=by
    revert h
    dsimp only
    split<;>(intro h;simpa only [List.lookup_cons,hb] using h)
   obtain⟨p,hp,e⟩:=relabel_vis h' (λp hp=>hc p (List.mem_cons_of_mem _ hp)) hk
   exact⟨p,List.mem_cons_of_mem _ hp,e⟩
theorem relabel_local {env:Env}:∀{names:List (Str×NameKind)}{y:Str},(names.map λ(n,k)=>if (k==NameKind.free&&env.scope.kind==.function&&env.kindOf n==some .cell) then (n,NameKind.cell) else (n,k)).lookup y=some .local ->
  names.lookup y=some .local
 |[],_,h=>by simp at h
 |(n,k0)::r,y,h=>by
  rw[List.map_cons] at h
  by_cases hy:y=n
  ·subst hy
   rw[List.lookup_cons,beq_self_eq_true]
   revert h
   dsimp only
   split
   ·intro h;simp[List.lookup_cons] at h
   ·intro h;simpa [List.lookup_cons] using h
  ·have hb:(y==n)=false:=by simpa using hy
   rw[List.lookup_cons,hb]
   refine relabel_local (env:=env) ?_
   revert h
   dsimp only
   split<;>(intro h;simpa only [List.lookup_cons,hb] using h)
end
end L2
namespace L2
open PySem PySem.Spec PyProof.Rows
section
variable {X:Cx}
theorem comp_start {pins:List (Addr×Obj)}{σ:St}{H:Hp}{s:Shared}{h':Heap}{tk:Nat}{scope:Scope}{cl:List (Str×Addr)}{C:Addr}{x:Str}{fp:List Addr}{m:Str->Option Value}
  (I:Inv X pins σ H s) (hC:C=s.heap.objs.size) (keep:∀b o,s.heap.get? b=some o->h'.get? b=some o) (ns:h'.Ns C m) (hfp:∀b∈fp,FpOk X pins H b) (hfs:∀b∈fp,b<s.heap.objs.size)
  (hkind:scope.kind=.function) (hcell:∀y∈scope.names,y.2≠.cell) (hloc:∀y∈X.N,scope.names.lookup y≠some .local)
  (hcl1:∀y c,cl.lookup y=some c->X.env.cells.lookup y=some c) (hcl2:∀p∈scope.names,p.2=.free->(cl.lookup p.1).isSome=true)
  (hfr:∀p∈scope.names,p.2=.free->Vis X.env.scope p.1/\X.env.scope.names.lookup p.1≠some .local) :
  Inv (compCx X scope cl C x fp s H) [] (none::σ) H { s with heap:=h',toks:=tk }:=by
 have cells:∀y c,cl.lookup y=some c->∃v,s.heap.IsCell c v:=λy c e=>I.cell y c (hcl1 y c e)
 have celllt:∀y c,cl.lookup y=some c->c<s.heap.objs.size:=λy c e=>by
  obtain⟨v,q⟩:=cells y c e
  exact q.lt
 have cellk:∀c v,s.heap.IsCell c v->h'.IsCell c v:=λc v ⟨o,e,d⟩=>⟨o,keep c o e,d⟩
 have stkl:∀b∈frs X.stack,∃o,s.heap.get? b=some o:=λb hb=>by
  rcases List.mem_cons.mp (I.stkSub b hb) with e|hb
  ·obtain⟨_,⟨o,_,_,ho,_⟩,_⟩:=I.loc
   exact⟨o,by rw[e];exact ho⟩
  ·obtain⟨_,o,ho,_⟩:=I.funs.mem hb
   exact⟨o,ho⟩
 refine⟨⟨I.ok.mod,hkind,I.ok.glob,I.ok.blt,Nat.le_of_eq hC.symm,λy z c h1 h2=>I.ok.inj y z c (hcl1 y c h1) (hcl1 z c h2),λy hy=>?_,λy c h _=>Bool.noConfusion h,I.ok.hd,I.ok.frames,.inl rfl,λb hb=>⟨?_,λy c e z=>?_⟩,I.bs,
  Nat.le_trans I.ok.bsz I.sz,λb o e hb=>?_,λb hb hf=>?_,I.stack,I.stkFree⟩,rfl,I.bare,Un.kept keep,⟨m,ns,λi y v h1 h2 h3=>?_⟩,λy c e=>?_,?_,λy c e=>?_,λp hp=>absurd hp (by simp[compCx]),I.hok.kept keep,?_⟩
 ·
  have hy:(relabel scope X.env).names.lookup y=some .cell\/(relabel scope X.env).names.lookup y=some .free:=hy
  obtain⟨p,hp,e1,e2⟩:∃p∈scope.names,p.1=y/\p.2=.free:=by
   rcases hy with hy|hy
   ·exact relabel_vis hy hcell (.inl rfl)
   ·exact relabel_vis hy hcell (.inr rfl)
  obtain⟨c,e⟩:=Option.isSome_iff_exists.mp (hcl2 p hp e2)
  exact⟨c,by rw[<- e1];exact e⟩
 ·show b≠C
  rw[hC];exact Nat.ne_of_lt (hfs b hb)
 ·exact (hfp b hb).2.2.2.2.1 y c (hcl1 y c e) z
 ·rcases (hfp b hb).2.2.2.1 with z|z
  ·exact I.ok.noex b o e z
  ·exact absurd (Nat.lt_of_lt_of_le (Heap.lt_size (I.ok.bs b o e).1) z) (Nat.lt_irrefl _)
 ·rcases List.mem_cons.mp (I.stkSub b hf) with z|z
  ·exact (hfp b hb).2.1 z
  ·exact (hfp b hb).2.2.1 z
 ·
  cases i with
  |zero=>simp at h2
  |succ j=>
   have h1:X.N[j]?=some y:=by simpa [compCx] using h1
   have h2:σ[j]?=some (some v):=by simpa using h2
   have h3:(relabel scope X.env).names.lookup y=some .local\/(relabel scope X.env).names.lookup y=some .cell\/(relabel scope X.env).names.lookup y=some .free:=h3
   rcases h3 with h3|h3
   ·exact absurd (relabel_local h3) (hloc y (List.mem_of_getElem? h1))
   ·obtain⟨p,hp,e1,e2⟩:∃p∈scope.names,p.1=y/\p.2=.free:=by
     rcases h3 with h3|h3
     ·exact relabel_vis h3 hcell (.inl rfl)
     ·exact relabel_vis h3 hcell (.inr rfl)
    obtain⟨hv,hnl⟩:=hfr p hp e2
    rw[e1] at hv hnl
    obtain⟨m0,_,hl0⟩:=I.loc
    obtain⟨u,ru,lk⟩:=hl0 j y v h1 h2 hv
    rcases lk with ⟨lk,_⟩|⟨_,c,hc,hcv⟩
    ·exact absurd lk hnl
    ·obtain⟨c',e'⟩:=Option.isSome_iff_exists.mp (hcl2 p hp e2)
     rw[e1] at e'
     have:=hcl1 y c' e'
     rw[hc] at this
     cases this
     refine⟨u,ru,.inr ⟨h3,c,e',cellk c _ hcv⟩⟩
 ·obtain⟨v,q⟩:=cells y c e
  exact⟨v,cellk c v q⟩
 ·show H C=none
  exact I.hok.fresh (Nat.le_of_eq hC.symm)
 ·exact I.freeC y c (hcl1 y c e)
 ·show (none::σ).length=(x::X.N).length
  simp[I.len]
theorem comp_end {pins:List (Addr×Obj)}{σ σ':St}{H H':Hp}{s s':Shared}{h':Heap}{scope:Scope}{cl:List (Str×Addr)}{C:Addr}{x:Str}{fp:List Addr}
  (I:Inv X pins σ H s) (hC:C=s.heap.objs.size) (hfp:∀b∈fp,FpOk X pins H b) (J:Inv (compCx X scope cl C x fp s H) [] σ' H' s') (sb:Heap.SameBut C s'.heap h'):Inv X pins σ H' { s' with heap:=h' }:=by
 have ne:∀b o,s.heap.get? b=some o->b≠C:=λb o e=>by rw[hC];exact Nat.ne_of_lt (Heap.lt_size e)
 have B:Un (frs X.stack) fp H H' s.heap s'.heap:=J.base
 have U:Un (frs X.stack) fp H H' s.heap h':=
  ⟨λb o e n hb hx=>(sb.2 b (ne b o e)).trans (B.keep b o e n hb hx),λb o e n hb hx=>by
   obtain⟨sl,q⟩:=B.slot b o e n hb hx
   exact⟨sl,(sb.2 b (ne b o e)).trans q⟩,B.free,λb o e hx=>by
   obtain⟨o',q⟩:=B.there b o e hx
   exact⟨o',(sb.2 b (ne b o e)).trans q⟩,B.tups,B.frzs,B.tbls⟩
 have hf:H' C=none:=J.free
 have K:HOk X.prog X.w H' h':=λb o e=>(J.hok b o e).stay (λc u hc q=>(sb.2 c (by
  rintro rfl
  rcases hc with z|z
  ·rw[z,e] at hf;cases hf
  ·rw[hf] at z;cases z)).trans q) (λ_ q=>q) λ_ _ q=>q
 refine I.call' (s':={ s' with heap:=h' }) (ch:=fp) J.os U K J.bare λb hb=>?_
 obtain⟨_,h2,_,h4,h5,h6⟩:=hfp b hb
 exact⟨h4,h2,h5,h6⟩
theorem pe_comp {x:Str}{px pos:Pos}{elt iter:Expr}{scope:Scope}{wi:TI}{te:TE}(hc:X.calm=true) (hN:X.N.Nodup) (hi:PI X (.Name x px) iter wi) (he:∀cl C fp s₀ H₀,PE (compCx X scope cl C x fp s₀ H₀) elt te)
  (hkind:scope.kind=.function) (hcell:∀y∈scope.names,y.2≠.cell) (hnames:∀y∈scope.names,y.2=.local->scope.names.lookup y.1=some .local) (hx:scope.names.lookup x=some .local)
  (hloc:∀y∈X.N,scope.names.lookup y≠some .local) (hfr:∀p∈scope.names,p.2=.free->Vis X.env.scope p.1/\X.env.scope.names.lookup p.1≠some .local)
  (hs:∀x,foldedSetIterable iter X.env x=pure x:=by intro _;rfl):PE X (.ListComp elt [⟨.Name x px,iter,[],0⟩] scope pos) (tComp wi te):=by
 intro pins s σ H Q I h
 rw[eval_ListComp]
 obtain⟨cl,hclos,hcl1,hcl2⟩:=closureFor_some (scope:=scope) (env:=X.env) (λp hp hk=>by
  obtain⟨hv,hn⟩:=hfr p hp hk
  refine I.ok.has p.1 ?_
  rcases hv with z|z
  ·exact absurd z hn
  ·exact z)
 refine wpAny_comprehension_free (use:=none) rfl hs hclos hkind hnames (thn (hi pins s σ H _ I h) λv s1 h1=>thn h1 λitv s2 h2=>?_)
 obtain⟨it,fp,tn,J,H2,rfl,I2,T,st2,f2,q⟩:=h2
 have hD:H2 s2.heap.objs.size=none:=I2.hok.fresh (Nat.le_refl _)
 obtain⟨W,⟨m0,w0⟩,turn⟩:=q _ hD
 refine wpAny_newObj_type (wpAny_newFunctionEnv hcell (by intro y hy;simp at hy) (λh₁ hns₁ hsb₁=>?_) hkind)
 dsimp only at hns₁ hsb₁ ⊢
 have I3:Inv X pins σ (upd H2 s2.heap.objs.size (.lst [])) { s2 with heap:=s2.heap.push { cls:=.type "list",dict:=none,data:=.seq ([]:List Value).toArray } }:=
  I2.laid (t':=s2.toks) (λb u e=>Heap.get?_push_of_some _ e) (Nat.le_refl _) ⟨Nat.zero_le _,[],0,.nil,Heap.get?_push_size _ rfl⟩
 have fpn:∀b∈fp,b≠s2.heap.objs.size:=λb hb=>by
  obtain⟨o,e,_⟩:=T.obj 0 s2.heap st2 b hb
  exact Nat.ne_of_lt (Heap.lt_size e)
 have fplt:∀b∈fp,b<(s2.heap.push { cls:=.type "list",dict:=none,data:=.seq ([]:List Value).toArray }).objs.size:=λb hb=>by
  obtain⟨o,e,_⟩:=T.obj 0 s2.heap st2 b hb
  rw[Heap.size_push];exact Nat.lt_succ_of_lt (Heap.lt_size e)
 have f3:∀b∈fp,FpOk X pins (upd H2 s2.heap.objs.size (.lst [])) b:=λb hb=>⟨by rw[upd_ne (fpn b hb)];exact (f2 b hb).1,(f2 b hb).2⟩
 generalize hg2:s2.heap.push { cls:=.type "list",dict:=none,data:=.seq ([]:List Value).toArray }=g2 at hns₁ hsb₁ I3 fplt ⊢
 have keep:∀b o,g2.get? b=some o->h₁.get? b=some o:=λb o e=>(hsb₁.2 b (Nat.ne_of_lt (Heap.lt_size e))).trans (Heap.get?_push_of_some _ e)
 have J0:=comp_start (x:=x) (tk:=s2.toks+([]:List (Str×Value)).length) I3 (C:=g2.objs.size) rfl keep hns₁ f3 fplt hkind hcell hloc hcl1 hcl2 hfr
 generalize hY:compCx X scope cl g2.objs.size x fp { s2 with heap:=g2 } (upd H2 s2.heap.objs.size (.lst []))=Y at J0
 have eY:PE Y elt te:=by rw[<- hY];exact he _ _ _ _ _
 have eP:Y.prog=X.prog:=by rw[<- hY];rfl
 have eW:Y.w=X.w:=by rw[<- hY];rfl
 have eK:Y.K=X.K:=by rw[<- hY];rfl
 have eA:Y.A=X.A:=by rw[<- hY];rfl
 have eC:Y.calm=true:=by rw[<- hY];exact hc
 have eE:Y.env=compEnvC scope cl g2.objs.size X.env:=by rw[<- hY];rfl
 have eX:Y.xe=λ_ _=>False:=by rw[<- hY];rfl
 have eN:Y.N=x::X.N:=by rw[<- hY];rfl
 have eEx:Y.ex=fp:=by rw[<- hY];rfl
 have eFs:Y.fs=frs X.stack:=by rw[<- hY];rfl
 have ePn:Y.pn=[]:=by rw[<- hY];rfl
 have ndY:Y.N.Nodup:=by
  rw[eN]
  exact List.nodup_cons.mpr ⟨λz=>hloc x z hx,hN⟩
 have locY:Y.env.scope.names.lookup x=some .local:=by rw[eE];exact lookup_relabel_local hx
 have fpY:∀{H':Hp},(∀b∈fp,H' b=none)->∀b∈fp,FpOk Y [] H' b:=λhn b hb=>by
  have g:=f3 b hb
  refine⟨hn b hb,?_,?_,.inl (by rw[eEx];exact hb),?_,λp hp=>absurd hp (by rw[ePn];simp)⟩
  ·rw[eE];exact Nat.ne_of_lt (fplt b hb)
  ·rw[eFs]
   intro z
   rcases List.mem_cons.mp (I3.stkSub b z) with z|z
   ·exact g.2.1 z
   ·exact g.2.2.1 z
  ·rw[eE]
   exact λy c e=>g.2.2.2.2.1 y c (hcl1 y c e)
 have loop:∀s₃:Shared,s₃={ s2 with heap:=h₁,toks:=s2.toks+([]:List (Str×Value)).length } ->
   codeAny (model X.prog X.w) X.A (.compLoop (.ListComp elt [⟨.Name x px,iter,[],0⟩] scope pos) 0 (.ref it) (.ref s2.heap.objs.size) (compEnvC scope cl g2.objs.size X.env))
    (compPost (model X.prog X.w) X.A X.xe none (EP X pins σ Q) (.ref s2.heap.objs.size) g2.objs.size) s₃:=by
  rintro s₃ rfl
  refine compLoop_any (λn s'=>∃i xs H' o,Inv Y [] (o::σ) H' s'/\tn i s'.heap/\(∀b∈fp,H' b=none)/\W i n xs H') ?_ m0
   ⟨0,[],_,none,J0,T.keep 0 _ _ st2 (λb hb o e=>keep b o (by rw[<- hg2];exact Heap.get?_push_of_some _ e)),λb hb=>(f3 b hb).1,w0⟩
  rintro n s3 ⟨i,xs,H3,o,I4,st3,fr3,w3⟩
  obtain⟨hDx,hlx,alt⟩:=turn i n xs H3 w3
  rcases alt with ⟨stop,qn⟩|⟨go,step⟩
  ·have D1:=T.done Y eP eW eK eC i [] s3 _ H3 (λ_ _=>False) I4 (fpY fr3) st3 stop
   rw[eA] at D1
   refine thn D1 λr s4 ⟨hr,I5⟩=>?_
   subst hr
   obtain⟨m4,hns4,_⟩:=id I5.loc
   rw[eE] at hns4
   refine⟨m4,hns4,λh' sb=>⟨.ref _,H3,?_,rfl,qn⟩⟩
   rw[<- hY] at I5
   exact comp_end I3 rfl f3 I5 sb
  ·have G1:=T.item Y eP eW eK eC i [] s3 _ H3 (λ_ _=>False) I4 (fpY fr3) st3 go
   rw[eA] at G1
   refine thn G1 λr s4 ⟨u,hr,h4⟩=>?_
   subst hr
   refine thn h4 λ_ s5 ⟨y,H5,I5,r5,y5,st5,fr5⟩=>?_
   have I5':=I5.pinned (fpY fr5) (T.obj _ _ st5)
   have S1:=(pg_name (X:=Y) (pos:=px) (i:=0) ndY (by rw[eN];rfl) (.inl locY) (.inr locY)) _ s5 _ H5 y u (λσ6 H6=>σ6=some y::σ/\H6=H5) I5' r5 ⟨rfl,rfl⟩
   rw[eP,eW,eA,eE,eX] at S1
   refine thn S1 λ_ s6 ⟨σ6,H6,I6,e6,e6'⟩=>?_
   subst e6 e6'
   have S2:=eY _ s6 _ _ _ I6 (step y _ y5)
   rw[eP,eW,eA,eE,eX] at S2
   refine thn S2 λxv s7 ⟨v7,H7,I7,r7,hD7,m',hm',w7⟩=>?_
   have S3:=mt_append (X:=Y) _ s7 _ H7 (.ref s2.heap.objs.size) [v7] (.ref s2.heap.objs.size) [xv] (λ_ H8=>H8=upd H7 s2.heap.objs.size (.lst (xs++[v7]))) I7 rfl (.cons r7 .nil) ⟨_,xs,v7,rfl,rfl,hD7,hlx,rfl⟩
   rw[eP,eW,eA,eX] at S3
   refine thn S3 λ_ s8 ⟨v8,H8,I8,_,e8⟩=>?_
   subst e8
   have pin:∀b∈fp,∀ob,s5.heap.get? b=some ob->s8.heap.get? b=some ob/\(upd H7 s2.heap.objs.size (.lst (xs++[v7]))) b=none:=λb hb ob e=>by
    have z:=I8.pin (b,ob) (List.mem_append_right _ (List.mem_append_right _ (mem_pinsAt hb e)))
    exact⟨z.1,z.2.1⟩
   refine⟨m',hm',i+1,xs++[v7],_,some y,I8.unpinned,T.keep _ _ _ st5 (λb hb ob e=>(pin b hb ob e).1),λb hb=>?_,w7⟩
   obtain⟨ob,e,_⟩:=T.obj _ _ st5 b hb
   exact (pin b hb ob e).2
 exact codeAny_compStart_list (loop _ rfl) (T.self _ 0 _ _ _ (T.keep 0 _ _ st2 (λb hb o e=>keep b o (by rw[<- hg2];exact Heap.get?_push_of_some _ e))) (loop _ rfl))
end
end L2
namespace L2
open PySem PySem.Spec PyProof.Rows
section
variable {κ:Type}[DecidableEq κ]
def valV (kvs:List (κ×V)) (k:κ):Option V:=(kvs.find? λkv=>decide (kv.1=k)).map (·.2)
def putK (kvs:List (κ×V)) (k:κ) (v:V):List (κ×V):=
 if (kvs.any λkv=>decide (kv.1=k))=true then kvs.map (λkv=>if kv.1=k then (kv.1,v) else kv) else kvs++[(k,v)]
def dropK (kvs:List (κ×V)) (k:κ):List (κ×V):=kvs.filter λkv=>decide (kv.1≠k)
theorem valV_pos {p:κ×V}{r:List (κ×V)}{k:κ}(e:p.1=k):valV (p::r) k=some p.2:=by simp[valV,List.find?_cons,e]
theorem valV_neg {p:κ×V}{r:List (κ×V)}{k:κ}(e:¬p.1=k):valV (p::r) k=valV r k:=by simp[valV,List.find?_cons,e]
theorem valV_any (k:κ):∀kvs:List (κ×V),(kvs.any λkv=>decide (kv.1=k))=(valV kvs k).isSome
 |[]=>rfl
 |p::r=>by
  rw[List.any_cons]
  by_cases e:p.1=k
  ·simp only[valV_pos e,decide_eq_true e,Bool.true_or,Option.isSome_some]
  ·rw[valV_neg e,decide_eq_false e,Bool.false_or];exact valV_any k r
theorem length_putK (kvs:List (κ×V)) (k:κ) (v:V):(putK kvs k v).length<=kvs.length+1:=by
 unfold putK
 split
 ·rw[List.length_map];lia
 ·rw[List.length_append,List.length_cons,List.length_nil];lia
theorem RelO.isSome_eq {o:Option V}{u:Option Value}(r:RelO o u):o.isSome=u.isSome:=by
 cases o with
 |none=>cases u with
  |none=>rfl
  |some _=>exact (show False from r).elim
 |some _=>cases u with
  |none=>exact (show False from r).elim
  |some _=>rfl
theorem RelO.getD {o:Option V}{u:Option Value}{d:V}{d':Value}(r:RelO o u) (rd:RelV d d'):RelV (o.getD d) (u.getD d'):=by
 cases o with
 |none=>cases u with
  |none=>exact rd
  |some _=>exact (show False from r).elim
 |some _=>cases u with
  |none=>exact (show False from r).elim
  |some _=>exact r
theorem KV.val {kvs:List (κ×V)}{vs:List (κ×Value)}(r:KV kvs vs) (k:κ):RelO (valV kvs k) (valueAt vs k):=by
 unfold KV at r
 induction r with
 |nil=>exact True.intro
 |@cons p q ps qs h t ih=>
  obtain⟨h1,h2⟩:=h
  by_cases e:p.1=k
  ·have e':q.1=k:=h1.symm.trans e
   have b:valueAt (q::qs) k=some q.2:=by simp[valueAt,List.find?_cons,e']
   rw[valV_pos e,b];exact h2
  ·have e':¬q.1=k:=λz=>e (h1.trans z)
   have b:valueAt (q::qs) k=valueAt qs k:=by simp[valueAt,List.find?_cons,e']
   rw[valV_neg e,b];exact ih
theorem KV.any {kvs:List (κ×V)}{vs:List (κ×Value)}(r:KV kvs vs) (k:κ):(kvs.any λkv=>decide (kv.1=k))=vs.any λkv=>decide (kv.1=k):=by
 unfold KV at r
 induction r with
 |nil=>rfl
 |cons h t ih=>rw[List.any_cons,List.any_cons,ih,h.1]
theorem KV.repl {kvs:List (κ×V)}{vs:List (κ×Value)}(r:KV kvs vs) (k:κ){y:V}{u:Value}(ry:RelV y u) :
  KV (kvs.map λkv=>if kv.1=k then (kv.1,y) else kv) (vs.map λkv=>if kv.1=k then (kv.1,u) else kv):=by
 unfold KV at r ⊢
 induction r with
 |nil=>exact .nil
 |@cons p q ps qs h t ih=>
  rw[List.map_cons,List.map_cons]
  refine .cons ?_ ih
  obtain⟨h1,h2⟩:=h
  by_cases e:p.1=k
  ·rw[if_pos e,if_pos (h1.symm.trans e)];exact⟨h1,ry⟩
  ·rw[if_neg e,if_neg (λz=>e (h1.trans z))];exact⟨h1,h2⟩
theorem KV.put {kvs:List (κ×V)}{vs:List (κ×Value)}(r:KV kvs vs) (k:κ){y:V}{u:Value}(ry:RelV y u):KV (putK kvs k y) (stored vs k u):=by
 unfold putK stored
 rw[r.any k]
 by_cases e:(vs.any λkv=>decide (kv.1=k))=true
 ·rw[if_pos e,if_pos e];exact r.repl k ry
 ·rw[if_neg e,if_neg e];exact Paired.snoc r ⟨rfl,ry⟩
theorem KV.drop {kvs:List (κ×V)}{vs:List (κ×Value)}(r:KV kvs vs) (k:κ):KV (dropK kvs k) (without vs k):=by
 unfold KV at r ⊢
 unfold dropK without
 induction r with
 |nil=>exact .nil
 |@cons p q ps qs h t ih=>
  obtain⟨h1,h2⟩:=h
  rw[List.filter_cons,List.filter_cons]
  by_cases e:p.1=k
  ·have a:¬decide (p.1≠k)=true:=by simp[e]
   have b:¬decide (q.1≠k)=true:=by simp[h1.symm.trans e]
   rw[if_neg a,if_neg b];exact ih
  ·have e':¬q.1=k:=λz=>e (h1.trans z)
   have a:decide (p.1≠k)=true:=by simp[e]
   have b:decide (q.1≠k)=true:=by simp[e']
   rw[if_pos a,if_pos b];exact .cons ⟨h1,h2⟩ ih
theorem KV.keys {kvs:List (κ×V)}{vs:List (κ×Value)}(r:KV kvs vs):kvs.map (·.1)=vs.map (·.1):=by
 unfold KV at r
 induction r with
 |nil=>rfl
 |cons h t ih=>rw[List.map_cons,List.map_cons,ih,h.1]
theorem KV.length {kvs:List (κ×V)}{vs:List (κ×Value)}(r:KV kvs vs):kvs.length=vs.length:=Paired.length r
end
theorem kV_is {P:Program}{w:World}{k:Key}{u:Value}(r:RelV (kV k) u):(mixKind P w).is k u=true:=by
 cases k with
 |inl i=>obtain⟨t,e⟩:=(show ∃t,u=Value.int i t from r);subst e;exact mixKind_int P w i t
 |inr x=>obtain⟨t,e⟩:=(show ∃t,u=Value.str x t from r);subst e;exact mixKind_str P w x t
theorem items_are {P:Program}{w:World}:∀{ks:List Key}{us:List Value},Vals (ks.map kV) us->ItemsAre (mixKind P w) ks us
 |[],_,r=>by rw[List.map_nil] at r;cases r;exact .nil
 |k::ks,_,r=>by
  rw[List.map_cons] at r
  cases r with
  |cons h t=>exact .cons (kV_is h) (items_are t)
abbrev KT (H:Hp):List (List Key×V)->List (List Key×Addr×Value)->Prop:=Paired λp q=>p.1=q.1/\H q.2.1=some (.tup (p.1.map kV))/\RelV p.2 q.2.2
theorem KT.val {H:Hp}{kvs:List (List Key×V)}{xs:List (List Key×Addr×Value)}(r:KT H kvs xs) (k:List Key):RelO (valV kvs k) ((atKey xs k).map (·.2)):=by
 induction r with
 |nil=>exact True.intro
 |@cons p q ps qs h t ih=>
  obtain⟨h1,_,h2⟩:=h
  by_cases e:p.1=k
  ·have e':q.1=k:=h1.symm.trans e
   have b:atKey (q::qs) k=some q.2:=by simp[atKey,List.find?_cons,e']
   rw[valV_pos e,b];exact h2
  ·have e':¬q.1=k:=λz=>e (h1.trans z)
   have b:atKey (q::qs) k=atKey qs k:=by simp[atKey,List.find?_cons,e']
   rw[valV_neg e,b];exact ih
theorem KT.repl {H:Hp}{kvs:List (List Key×V)}{xs:List (List Key×Addr×Value)}(r:KT H kvs xs) (k:List Key){y:V}{u:Value}(ry:RelV y u) :
  KT H (kvs.map λkv=>if kv.1=k then (kv.1,y) else kv) (xs.map (putAt k u)):=by
 induction r with
 |nil=>exact .nil
 |@cons p q ps qs h t ih=>
  rw[List.map_cons,List.map_cons]
  refine .cons ?_ ih
  obtain⟨h1,h2,h3⟩:=h
  unfold putAt
  by_cases e:p.1=k
  ·rw[if_pos e,if_pos (h1.symm.trans e)];exact⟨h1,h2,ry⟩
  ·rw[if_neg e,if_neg (λz=>e (h1.trans z))];exact⟨h1,h2,h3⟩
theorem KT.put {H:Hp}{kvs:List (List Key×V)}{xs:List (List Key×Addr×Value)}(r:KT H kvs xs) (k:List Key){b:Addr}{y:V}{u:Value}(hb:H b=some (.tup (k.map kV))) (ry:RelV y u) :
  KT H (putK kvs k y) (storedH xs k b u):=by
 have e:(kvs.any λkv=>decide (kv.1=k))=(atKey xs k).isSome:=by
  rw[valV_any,(r.val k).isSome_eq,Option.isSome_map]
 unfold putK storedH
 rw[e]
 by_cases q:(atKey xs k).isSome=true
 ·rw[if_pos q,if_pos q];exact r.repl k ry
 ·rw[if_neg q,if_neg q];exact Paired.snoc r ⟨rfl,hb,ry⟩
theorem KT.keeps {H H':Hp}{kvs:List (List Key×V)}{xs:List (List Key×Addr×Value)}(r:KT H kvs xs) (ht:∀b ys,H b=some (.tup ys)->H' b=some (.tup ys)):KT H' kvs xs:=
 Paired.mapP r λ_ _ z=>⟨z.1,ht _ _ z.2.1,z.2.2⟩
section
variable {P:Program}{w:World}{H:Hp}{h:Heap}{a:Addr}
theorem rd_of {u:HO}(ok:HOk P w H h) (e:Rd H a u):ObjOk P w H h a u:=e.ok ok
theorem dk_rd {kvs:List (Key×V)}(ok:HOk P w H h) (e:Rd H a (.dK kvs)):kvs.length<=sizeLine/\(a==sysModules)=false/\∃vs,KV kvs vs/\h.DictOf (mixKind P w) a vs:=
 show ObjOk P w H h a (.dK kvs) from rd_of ok e
theorem dk_of {kvs:List (Key×V)}(ok:HOk P w H h) (e:H a=some (.dK kvs)):kvs.length<=sizeLine/\(a==sysModules)=false/\∃vs,KV kvs vs/\h.DictOf (mixKind P w) a vs:=dk_rd ok (.inl e)
theorem key_of {ks:List Key}(ok:HOk P w H h) (e:H a=some (.tup (ks.map kV))):(tupleKind (mixKind P w)).is h ks a:=by
 obtain⟨_,its,r,o,h1,h2,n,h3⟩:=(show ObjOk P w H h a (.tup (ks.map kV)) from ok a _ e)
 exact⟨o,its.toArray,n,h1,h2,h3,by simpa using items_are r⟩
theorem dt_rd {kvs:List (List Key×V)}(ok:HOk P w H h) (e:Rd H a (.dT kvs)):kvs.length<=sizeLine/\(a==sysModules)=false /\
  ∃xs,KT H kvs xs/\h.DictOfH (tupleKind (mixKind P w)) a xs:=by
 obtain⟨z,y,xs,r,o,es,ep,h1,h2,h3,h4,h5⟩:=(show ObjOk P w H h a (.dT kvs) from rd_of ok e)
 refine⟨z,y,xs,r,o,es,ep,h1,h2,h3,h4,λx hx=>?_,h5⟩
 have all:∀{l:List (List Key×V)}{m:List (List Key×Addr×Value)},KT H l m->∀x∈m,(tupleKind (mixKind P w)).is h x.1 x.2.1:=by
  intro l m q
  induction q with
  |nil=>intro x hx;exact nomatch hx
  |@cons p q ps qs hq t ih=>
   intro x hx
   rcases List.mem_cons.mp hx with e|hx
   ·subst e
    exact key_of ok (by rw[<- hq.1];exact hq.2.1)
   ·exact ih x hx
 exact all r x hx
theorem dt_of {kvs:List (List Key×V)}(ok:HOk P w H h) (e:H a=some (.dT kvs)):kvs.length<=sizeLine/\(a==sysModules)=false /\
  ∃xs,KT H kvs xs/\h.DictOfH (tupleKind (mixKind P w)) a xs:=dt_rd ok (.inl e)
end
def DGet (H:Hp) (a:Addr) (y:V) (r:Option V):Prop:=
 (∃kvs k,Rd H a (.dK kvs)/\y=kV k/\r=valV kvs k)\/∃kvs k b,Rd H a (.dT kvs)/\y=.ref b/\H b=some (.tup (k.map kV))/\r=valV kvs k
def DPut (H:Hp) (a:Addr) (y v:V) (H':Hp):Prop:=
 (∃kvs k,H a=some (.dK kvs)/\y=kV k/\kvs.length<sizeLine/\H'=upd H a (.dK (putK kvs k v))) \/
 ∃kvs k b,H a=some (.dT kvs)/\y=.ref b/\H b=some (.tup (k.map kV))/\kvs.length<sizeLine/\H'=upd H a (.dT (putK kvs k v))
theorem DGet.k {H:Hp}{a:Addr}{kvs:List (Key×V)}{k:Key}(e:H a=some (.dK kvs)):DGet H a (kV k) (valV kvs k):=.inl ⟨kvs,k,.inl e,rfl,rfl⟩
theorem DGet.t {H:Hp}{a b:Addr}{kvs:List (List Key×V)}{k:List Key}(e:H a=some (.dT kvs)) (eb:H b=some (.tup (k.map kV))):DGet H a (.ref b) (valV kvs k):=.inr ⟨kvs,k,b,.inl e,rfl,eb,rfl⟩
theorem DPut.k {H:Hp}{a:Addr}{kvs:List (Key×V)}{k:Key}{v:V}(e:H a=some (.dK kvs)) (hl:kvs.length<sizeLine):DPut H a (kV k) v (upd H a (.dK (putK kvs k v))):=.inl ⟨kvs,k,e,rfl,hl,rfl⟩
theorem DPut.t {H:Hp}{a b:Addr}{kvs:List (List Key×V)}{k:List Key}{v:V}(e:H a=some (.dT kvs)) (eb:H b=some (.tup (k.map kV))) (hl:kvs.length<sizeLine) :
  DPut H a (.ref b) v (upd H a (.dT (putK kvs k v))):=.inr ⟨kvs,k,b,e,rfl,eb,hl,rfl⟩
section
variable {X:Cx}{pins:List (Addr×Obj)}{σ:St}{H:Hp}{s:Shared}{a:Addr}{y v:V}{u r:Value}{o:Option V}{A:Around}{E:Value->Shared->Prop}
theorem Inv.big (I:Inv X pins σ H s):sysModules<s.heap.objs.size:=by
 have h:mainGlobals<s.heap.objs.size:=(I.mod.glob.keeps I.bk).lt
 exact Nat.lt_trans (by decide) h
theorem d_getItem {Q:Value->Shared->Prop}(hu:A.units+1<cLine) (I:Inv X pins σ H s) (g:DGet H a y (some v)) (ry:RelV y u) (h:∀w' s',Inv X pins σ H s'->RelV v w'->Q w' s') :
  wpAny (model X.prog X.w) A (getItem (.ref a) u) Q E s:=by
 rcases g with ⟨kvs,k,e,ey,l⟩|⟨kvs,k,b,e,ey,eb,l⟩
 ·subst ey
  obtain⟨z,hd,vs,rel,dd⟩:=dk_rd I.hok e
  obtain⟨w',hw,rw'⟩:=RelO.some_of (v:=v) (o:=valueAt vs k) (by rw[l];exact rel.val k)
  exact wpAny_getItem_of (kV_is ry) dd.mapOf hw (h w' _ (I.tok _) rw')
 ·subst ey
  cases (show u=Value.ref b from ry)
  obtain⟨z,hd,xs,rel,dd⟩:=dt_rd I.hok e
  obtain⟨w',hw,rw'⟩:=RelO.some_of (v:=v) (o:=(atKey xs k).map (·.2)) (by rw[l];exact rel.val k)
  obtain⟨p,hp,hp2⟩:=Option.map_eq_some_iff.mp hw
  refine wpAny_getItem_heap (tupleKind_room_in1 hu) (key_of I.hok eb) dd hp ?_
  rw[hp2]
  exact h w' _ (I.tok _) rw'
theorem d_in {Q:Value->Shared->Prop}(hu:A.units+1<cLine) (I:Inv X pins σ H s) (g:DGet H a y o) (ry:RelV y u) (h:∀s',Inv X pins σ H s'->Q (.bool o.isSome) s') :
  wpAny (model X.prog X.w) A (compareOp .In u (.ref a)) Q E s:=by
 rcases g with ⟨kvs,k,e,ey,l⟩|⟨kvs,k,b,e,ey,eb,l⟩
 ·subst ey
  obtain⟨z,hd,vs,rel,dd⟩:=dk_rd I.hok e
  refine wpAny_in_of (kV_is ry) hd dd.mapOf ?_
  rw[<- (rel.val k).isSome_eq,<- l]
  exact h _ (I.tok _)
 ·subst ey
  cases (show u=Value.ref b from ry)
  obtain⟨z,hd,xs,rel,dd⟩:=dt_rd I.hok e
  refine wpAny_in_heap (tupleKind_room_in1 hu) (key_of I.hok eb) hd dd ?_
  have q:=(rel.val k).isSome_eq
  rw[Option.isSome_map] at q
  rw[<- q,<- l]
  exact h _ (I.tok _)
theorem d_notIn {Q:Value->Shared->Prop}(hu:A.units+1<cLine) (I:Inv X pins σ H s) (g:DGet H a y o) (ry:RelV y u) (h:∀s',Inv X pins σ H s'->Q (.bool (!o.isSome)) s') :
  wpAny (model X.prog X.w) A (compareOp .NotIn u (.ref a)) Q E s:=by
 rcases g with ⟨kvs,k,e,ey,l⟩|⟨kvs,k,b,e,ey,eb,l⟩
 ·subst ey
  obtain⟨z,hd,vs,rel,dd⟩:=dk_rd I.hok e
  refine wpAny_notIn_of (kV_is ry) hd dd.mapOf ?_
  rw[<- (rel.val k).isSome_eq,<- l]
  exact h _ (I.tok _)
 ·subst ey
  cases (show u=Value.ref b from ry)
  obtain⟨z,hd,xs,rel,dd⟩:=dt_rd I.hok e
  refine wpAny_notIn_heap (tupleKind_room_in1 hu) (key_of I.hok eb) hd dd ?_
  have q:=(rel.val k).isSome_eq
  rw[Option.isSome_map] at q
  rw[<- q,<- l]
  exact h _ (I.tok _)
theorem d_write {h':Heap}{t':Nat}{ob:HO}(I:Inv X pins σ H s) (mu:Mut (H a)) (hs:Heap.SameBut a s.heap h') (he:∃q,h'.get? a=some q) (new:ObjOk X.prog X.w (upd H a ob) h' a ob) :
  Inv X pins σ (upd H a ob) { s with heap:=h',toks:=t' }:=
 I.write (x:=a) (e:=a) mu (.inl rfl) (λb q hb z=>(hs.2 b hb).trans z) he new
theorem dk_new {P:Program}{w:World}{H':Hp}{h':Heap}{kvs:List (Key×V)}{vs:List (Key×Value)}(z:kvs.length<=sizeLine) (hd:(a==sysModules)=false) (rel:KV kvs vs) (dd:h'.DictOf (mixKind P w) a vs) :
  ObjOk P w H' h' a (.dK kvs):=⟨z,hd,vs,rel,dd⟩
theorem d_setItem {H':Hp}{Q:Unit->Shared->Prop}(hu:A.units+1<cLine) (I:Inv X pins σ H s) (g:DPut H a y v H') (ry:RelV y u) (rv:RelV v r) (h:∀s',Inv X pins σ H' s'->Q () s') :
  wpAny (model X.prog X.w) A (setItem (.ref a) u r) Q E s:=by
 rcases g with ⟨kvs,k,e,ey,l,eH⟩|⟨kvs,k,b,e,ey,eb,l,eH⟩
 ·subst ey eH
  obtain⟨z,hd,vs,rel,dd⟩:=dk_of I.hok e
  have hz:vs.length<=sizeLine:=by rw[<- rel.length];exact z
  have hl:(putK kvs k v).length<=sizeLine:=by have:=length_putK kvs k v;lia
  refine wpAny_setItem_pairs (hsz:=hz) (kV_is ry) dd λh' dd' hs=>h _ ?_
  have he:∃q,h'.get? a=some q:=let ⟨q,_,_,hq,_⟩:=dd';⟨q,hq⟩
  exact d_write I (by rw[e];exact True.intro) hs he (dk_new hl hd (rel.put k rv) dd')
 ·subst ey eH
  cases (show u=Value.ref b from ry)
  obtain⟨z,hd,xs,rel,dd⟩:=dt_of I.hok e
  have hz:xs.length<=sizeLine:=by rw[<- Paired.length rel];exact z
  have hl:(putK kvs k v).length<=sizeLine:=by have:=length_putK kvs k v;lia
  refine wpAny_setItem_heap (hsz:=hz) (tupleKind_room_in1 hu) (key_of I.hok eb) dd λh' dd' hs=>h _ ?_
  obtain⟨q,es,ep,hq,h2,h3,h4,_,h5⟩:=dd'
  refine d_write I (by rw[e];exact True.intro) hs ⟨q,hq⟩ ⟨hl,hd,_,(rel.put k eb rv).keeps λc ys ec=>?_,q,es,ep,hq,h2,h3,h4,h5⟩
  rw[upd_ne (ne_of ec e (λz=>nomatch z))]
  exact ec
end
section
variable {X:Cx}{pins:List (Addr×Obj)}{σ:St}{H:Hp}{s:Shared}{a:Addr}{kvs:List (Key×V)}{k:Key}{u:Value}{A:Around}{E:Value->Shared->Prop}
end
def NoSl (i:Expr):Prop:=∀ov iv,subscripted i false ov iv=operate [ov,iv] (getItem ov iv)
theorem subD_of {prog:Program}{w:World}{A:Around}{E:Value->Shared->Prop}{s:Shared}{env:Env}{value slice:Expr}{pos:Pos}{T id:String}{Q:Value->Shared->Prop}
  (hl:typeLookup (.type T) "__getitem__" = pure (some (.builtin id))) (hs:NoSl slice)
  (h:wpAny (model prog w) A (eval value env) (λo s₁=>wpAny (model prog w) A (eval slice env) (λi s₂=>s₂.TypeIs o T/\wpAny (model prog w) A (getItem o i) Q E s₂) E s₁) E s) :
  wpAny (model prog w) A (eval (.Subscript value slice pos) env) Q E s:=by
 refine Subscript_ (wpAny_mono h (λo s₁ h₁=>wpAny_mono h₁ (λi s₂ h₂=>?_) λ_ _ x=>x) λ_ _ x=>x)
 obtain⟨hT,h₂⟩:=h₂
 unfold subscriptTail
 refine wpAny_bind ?_
 rw[getitemInPython_of_ne hT.not_modules]
 refine wpAny_bind (wpAny_specialOf hT hl ?_)
 have fin:wpAny (model prog w) A (subscripted slice false o i) (λr s₃=>wpAny (model prog w) A (letTemporaryGo value o r >>= λ_=>pure r) Q E s₃) E s₂:=by
  rw[hs o i]
  exact wpAny_operating (wpAny_mono h₂ (λr s₃ h₃=>wpAny_bind (wpAny_letTemporaryGo (wpAny_pure h₃))) λ_ _ x=>x)
 first
  |exact wpAny_pure (wpAny_bind fin)
  |exact wpAny_bind (wpAny_pure (wpAny_bind fin))
  |exact wpAny_bind fin
theorem dict_typeIs {X:Cx}{pins:List (Addr×Obj)}{σ:St}{H:Hp}{s:Shared}{a:Addr}{y:V}{o:Option V}(I:Inv X pins σ H s) (g:DGet H a y o):s.TypeIs (.ref a) "dict":=by
 rcases g with ⟨kvs,k,e,_,_⟩|⟨kvs,k,b,e,_,_,_⟩
 ·obtain⟨_,_,vs,_,dd⟩:=dk_rd I.hok e
  exact dd.typeIs
 ·obtain⟨_,_,xs,_,dd⟩:=dt_rd I.hok e
  exact dd.typeIs
def tDGet (td ty:TE):TE:=λσ H Q=>td σ H λx H1=>ty σ H1 λy H2=>∃a v,x=.ref a/\DGet H2 a y (some v)/\Q v H2
def tDIn (ty td:TE):TE:=λσ H Q=>ty σ H λy H1=>td σ H1 λx H2=>∃a o,x=.ref a/\DGet H2 a y o/\Q (.bl o.isSome) H2
def tDNotIn (ty td:TE):TE:=λσ H Q=>ty σ H λy H1=>td σ H1 λx H2=>∃a o,x=.ref a/\DGet H2 a y o/\Q (.bl (!o.isSome)) H2
def sDPut (td ty tv:TE):TS:=λD σ H=>tv σ H λv H1=>td σ H1 λx H2=>ty σ H2 λy H3=>∃a H4,x=.ref a/\DPut H3 a y v H4/\D.nx σ H4
section
variable {X:Cx}{o i e value:Expr}{pos pos' tpos:Pos}{td ty tv:TE}
theorem pe_dget (hu:X.A.units+1<cLine) (ho:PE X o td) (hi:PE X i ty) (hs:NoSl i):PE X (.Subscript o i pos) (tDGet td ty):=by
 intro pins s σ H Q I h
 refine subD_of PySem.F.slot_dict_getitem.lookup hs (thn (ho pins s σ H _ I h) λu s1 ⟨x,H1,I1,rx,q1⟩=>thn (hi pins s1 σ H1 _ I1 q1) λiv s2 ⟨y,H2,I2,ry,a,v,ex,g,q2⟩=>?_)
 subst ex
 obtain rfl:u=Value.ref a:=rx
 exact⟨dict_typeIs I2 g,d_getItem hu I2 g ry λw' s3 I3 rw'=>⟨v,H2,I3,rw',q2⟩⟩
theorem pc_din (hu:X.A.units+1<cLine) (hi:PE X i ty) (ho:PE X o td):PC X .In i o (tDIn ty td):=by
 intro pins s σ H Q I h
 refine thn (hi pins s σ H _ I h) λiv s1 ⟨y,H1,I1,ry,q1⟩=>thn (ho pins s1 σ H1 _ I1 q1) λu s2 ⟨x,H2,I2,rx,a,ov,ex,g,q2⟩=>?_
 subst ex
 obtain rfl:u=Value.ref a:=rx
 exact d_in hu I2 g ry λs3 I3=>⟨.bl ov.isSome,H2,I3,rfl,q2⟩
theorem pc_dnotin (hu:X.A.units+1<cLine) (hi:PE X i ty) (ho:PE X o td):PC X .NotIn i o (tDNotIn ty td):=by
 intro pins s σ H Q I h
 refine thn (hi pins s σ H _ I h) λiv s1 ⟨y,H1,I1,ry,q1⟩=>thn (ho pins s1 σ H1 _ I1 q1) λu s2 ⟨x,H2,I2,rx,a,ov,ex,g,q2⟩=>?_
 subst ex
 obtain rfl:u=Value.ref a:=rx
 exact d_notIn hu I2 g ry λs3 I3=>⟨.bl (!ov.isSome),H2,I3,rfl,q2⟩
theorem ps_dput (hu:X.A.units+1<cLine) (ho:PE X o td) (hi:PE X i ty) (hv:PE X value tv) (hs:swapsWith value (some (.Subscript o i pos')) pos.line X.env=pure false) :
  PS X (.Assign [.Subscript o i pos'] value pos) (sDPut td ty tv):=by
 intro pins s σ H D I h
 refine wpAny_Assign_Subscript (thn (hv pins s σ H _ I h) λr s1 ⟨v,H1,I1,rv,q1⟩=>thn (ho pins s1 σ H1 _ I1 q1) λu s2 ⟨x,H2,I2,rx,q2⟩=>thn (hi pins s2 σ H2 _ I2 q2) λiv s3 ⟨y,H3,I3,ry,a,H4,ex,g,q3⟩=>?_) hs
 subst ex
 obtain rfl:u=Value.ref a:=rx
 exact d_setItem hu I3 g ry rv λs4 I4=>⟨σ,H4,I4,q3⟩
end
theorem dt_empty {P:Program}{w:World}{H:Hp}(h:Heap) (hb:sysModules<h.objs.size):ObjOk P w H (h.push { cls:=.type "dict",data:=.dict #[] }) h.objs.size (.dT []):=
 ⟨Nat.zero_le _,beq_eq_false_iff_ne.mpr (Ne.symm (Nat.ne_of_lt hb)),[],.nil,_,#[],0,Heap.get?_push_size _ rfl,⟨rfl,rfl,rfl⟩,rfl,rfl,List.nodup_nil⟩
def tDNewT:TE:=λ_ H Q=>∀p,H p=none->Q (.ref p) (upd H p (.dT []))
section
variable {X:Cx}{pos:Pos}
theorem pe_dnewT:PE X (.Dict [] [] pos) tDNewT:=λpins s σ H Q I h=>
 wpAny_Dict_empty ⟨.ref s.heap.objs.size,_,I.laid (a:=s.heap.objs.size) (o:=.dT []) (t':=s.toks) (λ_ _ q=>Heap.get?_push_of_some _ q) (Nat.le_refl _) (dt_empty s.heap I.big),rfl,h _ (I.hok.fresh (Nat.le_refl _))⟩
end
def tPairs:List (TE×TE)->St->Hp->(List (V×V)->Hp->Prop)->Prop
 |[],_,H,Q=>Q [] H
 |(tk,tv)::r,σ,H,Q=>tk σ H λx H1=>tv σ H1 λy H2=>tPairs r σ H2 λps H3=>Q ((x,y)::ps) H3
abbrev VV:List (V×V)->List (Value×Value)->Prop:=Paired λp q=>RelV p.1 q.1/\RelV p.2 q.2
def PPs (X:Cx) (pos:Pos) (keys:List (Option Expr)) (values:List Expr) (trs:List (TE×TE)):Prop:=
 ∀(pins:List (Addr×Obj)) (s:Shared) (σ:St) (H:Hp) (Q:List (V×V)->Hp->Prop),Inv X pins σ H s->tPairs trs σ H Q ->
  wpAny (model X.prog X.w) X.A (evalPairs (pairTrees keys values X.env pos)) (λvs s'=>∃ps H',Inv X pins σ H' s'/\VV ps vs/\Q ps H') X.xe s
theorem pps_nil {X:Cx}{pos:Pos}:PPs X pos [] [] []:=λpins s σ H Q I h=>pairTrees_nil_walk ⟨[],H,I,.nil,h⟩
theorem pps_cons {X:Cx}{pos:Pos}{k v:Expr}{ks:List (Option Expr)}{vs:List Expr}{tk tv:TE}{trs:List (TE×TE)}(hk:PE X k tk) (hv:PE X v tv) (hr:PPs X pos ks vs trs) :
  PPs X pos (some k::ks) (v::vs) ((tk,tv)::trs):=λpins s σ H Q I h=>
 pairTrees_cons_walk (thn (hk pins s σ H _ I h) λu s1 ⟨x,H1,I1,rx,q1⟩=>thn (hv pins s1 σ H1 _ I1 q1) λw2 s2 ⟨y,H2,I2,ry,q2⟩=>
  thn (hr pins s2 σ H2 _ I2 q2) λws s3 ⟨ps,H3,I3,rel,q3⟩=>⟨(x,y)::ps,H3,I3,.cons ⟨rx,ry⟩ rel,q3⟩)
structure M1 (X:Cx) (o:Expr) (m:Str) (apos:Pos) (e:Expr) (cpos:Pos):Prop where
 base:attributeBase o m X.env (eval o X.env)=eval o X.env
 few:((backTo cpos (starEach [e] X.env)).all (λx=>!x.1)&&(backToKw cpos (keywordEach [] X.env)).all (λx=>x.1.isSome)
  && decide (([e]:List Expr).length+([]:List Keyword).length+(if ([]:List Keyword).isEmpty then 0 else 1)<30))=true
 line:(apos.endLine==cpos.line)=true
 trees:backTo cpos (starEach [e] X.env)=[(false,eval e X.env)]
structure M2 (X:Cx) (o:Expr) (m:Str) (apos:Pos) (e f:Expr) (cpos:Pos):Prop where
 base:attributeBase o m X.env (eval o X.env)=eval o X.env
 few:((backTo cpos (starEach [e,f] X.env)).all (λx=>!x.1)&&(backToKw cpos (keywordEach [] X.env)).all (λx=>x.1.isSome)
  && decide (([e,f]:List Expr).length+([]:List Keyword).length+(if ([]:List Keyword).isEmpty then 0 else 1)<30))=true
 line:(apos.endLine==cpos.line)=true
 trees:backTo cpos (starEach [e,f] X.env)=[(false,eval e X.env),(false,eval f X.env)]
section
variable {X:Cx}{pins:List (Addr×Obj)}{σ:St}{H:Hp}{s:Shared}{a:Addr}{y d:V}{u r:Value}{o:Option V}{A:Around}{E:Value->Shared->Prop}
end
section
variable {X:Cx}{o e f:Expr}{apos cpos:Pos}{td ty tx:TE}
end
section
variable {X:Cx}{pins:List (Addr×Obj)}{σ:St}{H:Hp}{s:Shared}{a:Addr}{kvs:List (Key×V)}{A:Around}{E:Value->Shared->Prop}
end
section
variable {X:Cx}{pins:List (Addr×Obj)}{σ:St}{H:Hp}{s:Shared}{a:Addr}{y:V}{u:Value}{A:Around}{E:Value->Shared->Prop}
end
end L2
namespace L2
open PySem PySem.Spec PyProof.Rows
section
variable {X:Cx}
end
section
variable {κ:Type}[DecidableEq κ]
end
end L2
namespace SetT
open PySem
def g:Nat->Nat
 |0=>0
 |n+1=>5*g n+1
def F:Nat->Nat->Nat
 |0,x=>x
 |n+1,x=>5*F n x+1
theorem F_eq (n x:Nat):F n x=x+g n*(4*x+1):=by
 induction n with
 |zero=>simp[F,g]
 |succ n ih=>
  show 5*F n x+1=x+(5*g n+1)*(4*x+1)
  rw[ih,Nat.add_mul,Nat.one_mul,Nat.mul_assoc]
  lia
theorem F_add (m n x:Nat):F (m+n) x=F m (F n x):=by
 induction m with
 |zero=>simp[F]
 |succ m ih=>
  rw[Nat.succ_add]
  show 5*F (m+n) x+1=5*F m (F n x)+1
  rw[ih]
theorem g_F (n:Nat):g n=F n 0:=by
 rw[F_eq];simp
theorem g_add (m n:Nat):g (m+n)=g n+g m*(4*g n+1):=by
 rw[g_F,F_add,F_eq m,<- g_F n]
theorem g_pow:∀k:Nat,∃c,g (2^k)=2^k*(2*c+1)
 |0=>⟨0,rfl⟩
 |k+1=>by
  obtain⟨c,hc⟩:=g_pow k
  have e:g (2^(k+1))=g (2^k)*(4*g (2^k)+2):=by
   rw[Nat.pow_succ,Nat.mul_two,g_add]
   generalize g (2^k)=y
   rw[Nat.mul_add,Nat.mul_add]
   lia
  rw[e,hc]
  refine⟨2^k*(2*c+1)*(2*c+1)+c,?_⟩
  rw[Nat.pow_succ]
  generalize 2^k=p
  have h1:p*(2*c+1)*(4*(p*(2*c+1))+2)=p*2*((2*c+1)*(2*(p*(2*c+1))+1)):=by
   have:4*(p*(2*c+1))+2=2*(2*(p*(2*c+1))+1):=by lia
   rw[this,Nat.mul_assoc,Nat.mul_assoc,Nat.mul_left_comm (2*c+1) 2]
  rw[h1]
  congr 1
  rw[Nat.mul_add,Nat.mul_one,Nat.mul_left_comm,Nat.mul_comm (2*c+1) (p*(2*c+1))]
  lia
theorem low_bit (k a q:Nat):(2^k*a+q)%2^(k+1)=(2^k*(a%2)+q)%2^(k+1):=by
 have ha:a=2*(a/2)+a%2:=by lia
 have:2^k*a+q=(2^k*(a%2)+q)+2^(k+1)*(a/2):=by
  have h:2^k*a+q=2^k*(2*(a/2)+a%2)+q:=by rw[<- ha]
  rw[h,Nat.pow_succ,Nat.mul_add,Nat.mul_assoc]
  lia
 rw[this,Nat.add_mul_mod_self_left]
theorem cover:∀(k x y:Nat),∃r,r<2^k/\F r x%2^k=y%2^k
 |0,x,y=>⟨0,by decide,by simp[Nat.mod_one]⟩
 |k+1,x,y=>by
  obtain⟨r,hr,e⟩:=cover k x y
  have hp:0<2^k:=Nat.two_pow_pos k
  have h2:(2:Nat)^(k+1)=2^k+2^k:=by rw[Nat.pow_succ,Nat.mul_two]
  obtain⟨c,hc⟩:=g_pow k
  have e2:F (2^k+r) x=F r x+2^k*(2*c+1)*(4*F r x+1):=by
   rw[F_add,F_eq (2^k),hc]
  have y1:2^k*(y/2^k)+y%2^k=y:=Nat.div_add_mod y _
  have z1:2^k*(F r x/2^k)+F r x%2^k=F r x:=Nat.div_add_mod _ _
  by_cases h:F r x/2^k%2=y/2^k%2
  ·refine⟨r,by lia,?_⟩
   rw[<- z1,<- y1,low_bit,h,<- low_bit,e]
  ·refine⟨2^k+r,by lia,?_⟩
   rw[e2]
   generalize F r x=z at *
   have o:(2*c+1)*(4*z+1)=2*(c*(4*z+1)+2*z)+1:=by
    rw[Nat.add_mul,Nat.one_mul,Nat.mul_assoc]
    lia
   have e3:z+2^k*(2*c+1)*(4*z+1)=2^k*(z/2^k+(2*(c*(4*z+1)+2*z)+1))+z%2^k:=by
    rw[Nat.mul_assoc,o,Nat.mul_add (2^k) (z/2^k)]
    lia
   rw[e3,<- y1,low_bit,e]
   have e4:(z/2^k+(2*(c*(4*z+1)+2*z)+1))%2=y/2^k%2:=by lia
   rw[e4,<- low_bit]
def starts (mask:Nat):Nat->Nat->Nat->Nat
 |0,i,_=>i
 |r+1,i,p=>starts mask r (SetTable.leap mask i p).1 (SetTable.leap mask i p).2
theorem starts_calm (k:Nat):∀(r i:Nat),starts (2^k-1) r (i%2^k) 0=F r i%2^k
 |0,i=>rfl
 |r+1,i=>by
  have hp:0<2^k:=Nat.two_pow_pos k
  show starts (2^k-1) r ((i%2^k*5+1+0/32)%(2^k-1+1)) (0/32)=_
  have e1:2^k-1+1=2^k:=by lia
  have e2:(i%2^k*5+1+0/32)%2^k=(5*i+1)%2^k:=by
   simp only[Nat.zero_div,Nat.add_zero]
   rw[Nat.add_mod,Nat.mul_mod,Nat.mod_mod,<- Nat.mul_mod,<- Nat.add_mod,Nat.mul_comm]
  rw[e1,e2,Nat.zero_div,starts_calm k r (5*i+1)]
  have:F r (5*i+1)=F (r+1) i:=by rw[F_add r 1 i];rfl
  rw[this]
theorem starts_add (mask:Nat):∀(a b i p:Nat),starts mask (a+b) i p=starts mask b (starts mask a i p) (p/32^a)
 |0,b,i,p=>by simp[starts]
 |a+1,b,i,p=>by
  rw[Nat.succ_add]
  show starts mask (a+b) _ _=starts mask b (starts mask a _ _) _
  rw[starts_add mask a b]
  show starts mask b _ (p/32/32^a)=_
  rw[Nat.div_div_eq_div_mul,Nat.pow_succ,Nat.mul_comm (32^a) 32]
theorem starts_lt (mask:Nat):∀(a i p:Nat),i<mask+1->starts mask a i p<mask+1
 |0,i,p,h=>h
 |a+1,i,p,_=>starts_lt mask a _ _ (Nat.mod_lt _ (Nat.succ_pos _))
theorem starts_meet (k i p j:Nat) (hi:i<2^k) (hp:p<2^64) (hj:j<2^k):∃r,r<13+2^k/\starts (2^k-1) r i p=j:=by
 have hk:0<2^k:=Nat.two_pow_pos k
 have hl:=starts_lt (2^k-1) 13 i p (by lia)
 obtain⟨r,hr,e⟩:=cover k (starts (2^k-1) 13 i p) j
 refine⟨13+r,by lia,?_⟩
 rw[starts_add]
 have hz:p/32^13=0:=Nat.div_eq_of_lt (Nat.lt_trans hp (by decide))
 have hm:starts (2^k-1) 13 i p=starts (2^k-1) 13 i p%2^k:=(Nat.mod_eq_of_lt (by lia)).symm
 rw[hz,hm,starts_calm,e,Nat.mod_eq_of_lt hj]
theorem runEnd_le (mask i:Nat):SetTable.runEnd mask i-i<=9:=by unfold SetTable.runEnd;split<;>lia
def adv (t:SetTable):Nat->SetTable.Probe->SetTable.Probe
 |0,p=>p
 |n+1,p=>adv t n (t.advance p)
theorem adv_run (t:SetTable):∀(m:Nat) (p:SetTable.Probe),m<=p.more->adv t m p={ p with j:=p.j+m,more:=p.more-m }
 |0,p,_=>by simp[adv]
 |m+1,p,h=>by
  have e:t.advance p={ p with j:=p.j+1,more:=p.more-1 }:=by
   unfold SetTable.advance
   rw[if_pos (by lia)]
  show adv t m (t.advance p)=_
  rw[e,adv_run t m _ (by show m<=p.more-1;lia)]
  show SetTable.Probe.mk _ _ _ _ _=SetTable.Probe.mk _ _ _ _ _
  congr 1
  ·show p.j+1+m=p.j+(m+1);lia
  ·show p.more-1-m=p.more-(m+1);lia
theorem adv_add (t:SetTable):∀(a b:Nat) (p:SetTable.Probe),adv t (a+b) p=adv t b (adv t a p)
 |0,b,p=>by simp[adv]
 |a+1,b,p=>by rw[Nat.succ_add];exact adv_add t a b _
structure Head (t:SetTable) (i perturb:Nat) (d:Option Nat) (p:SetTable.Probe):Prop where
 e:p={ j:=i,more:=SetTable.runEnd t.mask i-i,i:=i,perturb:=perturb,dummy:=d }
theorem head_next {t:SetTable}{i q:Nat}{d:Option Nat}{p:SetTable.Probe}(h:Head t i q d p):∃n,n<=10/\Head t (SetTable.leap t.mask i q).1 (SetTable.leap t.mask i q).2 d (adv t n p):=by
 have hr:=runEnd_le t.mask i
 refine⟨(SetTable.runEnd t.mask i-i)+1,by lia,⟨?_⟩⟩
 rw[adv_add,adv_run t _ p (by rw[h.e];exact Nat.le_refl _)]
 show t.advance _=_
 rw[h.e]
 unfold SetTable.advance
 rw[if_neg (by show ¬(SetTable.runEnd t.mask i-i)-(SetTable.runEnd t.mask i-i)>0;lia)]
theorem head_at {t:SetTable}{d:Option Nat}:∀(r:Nat){i q:Nat}{p:SetTable.Probe},Head t i q d p->∃n,n<=10*r/\(adv t n p).j=starts t.mask r i q/\(adv t n p).dummy=d
 |0,i,q,p,h=>⟨0,Nat.le_refl _,by show p.j=i;rw[h.e],by show p.dummy=d;rw[h.e]⟩
 |r+1,i,q,p,h=>by
  obtain⟨n,hn,h1⟩:=head_next h
  obtain⟨m,hm,e1,e2⟩:=head_at r h1
  exact⟨n+m,by lia,by rw[adv_add];exact e1,by rw[adv_add];exact e2⟩
theorem adv_dummy (t:SetTable):∀(n:Nat) (p:SetTable.Probe),(adv t n p).dummy=p.dummy
 |0,p=>rfl
 |n+1,p=>by
  show (adv t n (t.advance p)).dummy=_
  rw[adv_dummy t n]
  unfold SetTable.advance
  split<;>rfl
theorem bits_lt (h:Int):SetTable.bits h<2^64:=by
 unfold SetTable.bits
 have:=Int.emod_lt_of_pos h (show (0:Int)<2^64 by decide)
 have h0:=Int.emod_nonneg h (show (2^64:Int)≠0 by decide)
 lia
theorem meet {t:SetTable}{k:Nat}(hm:t.mask=2^k-1) (h:Int){j:Nat}(hj:j<2^k):∃n,n<10*SetTable.turns t.mask/\(adv t n (t.probeStart h)).j=j:=by
 have hk:0<2^k:=Nat.two_pow_pos k
 have hd:Head t (SetTable.bits h%(t.mask+1)) (SetTable.bits h) none (t.probeStart h):=⟨rfl⟩
 obtain⟨r,hr,e⟩:=starts_meet k (SetTable.bits h%(t.mask+1)) (SetTable.bits h) j (by rw[hm];have:=Nat.mod_lt (SetTable.bits h) hk;rw[show 2^k-1+1=2^k by lia];exact this) (bits_lt h) hj
 obtain⟨n,hn,e1,_⟩:=head_at r hd
 refine⟨n,?_,by rw[e1];rw[<- hm] at e;exact e⟩
 unfold SetTable.turns
 lia
theorem has_none (j:Nat):SetTable.has #[] j=false:=by
 unfold SetTable.has
 simp
theorem slot_of {t:SetTable}(hd:t.dummies=#[]) (j:Nat):(t.slot j=.empty)\/∃i,t.slot j=.live i/\t.place[i]?=some j:=by
 unfold SetTable.slot
 simp only
 split
 ·rename_i h
  exact .inr ⟨_,rfl,by simpa using h⟩
 ·rw[hd,has_none]
  exact .inl rfl
theorem slot_free {t:SetTable}(hd:t.dummies=#[]){j:Nat}(h:j∉t.place.toList):t.slot j=.empty:=by
 rcases slot_of hd j with e|⟨i,_,e⟩
 ·exact e
 ·refine absurd ?_ h
  have:=Array.mem_of_getElem? e
  simpa using this
theorem pigeon:∀(n:Nat) (l:List Nat),l.length<n->∃j,j<n/\j∉l
 |0,l,h=>absurd h (Nat.not_lt_zero _)
 |n+1,l,h=>by
  by_cases hn:n∈l
  ·obtain⟨j,hj,hl⟩:=pigeon n (l.erase n) (by rw[List.length_erase_of_mem hn];have:=List.length_pos_of_mem hn;lia)
   refine⟨j,by lia,λm=>hl ?_⟩
   exact (List.mem_erase_of_ne (by lia)).mpr m
  ·exact⟨n,Nat.lt_succ_self n,hn⟩
structure Grown (t:SetTable) (n:Nat):Prop where
 pl:t.place.size=n
 du:t.dummies=#[]
 ma:∃k,t.mask=2^k-1/\1<=k
 le:n<=t.mask
theorem Grown.fill {t:SetTable}{n:Nat}(h:Grown t n):t.fill=n:=by unfold SetTable.fill;rw[h.pl,h.du];rfl
theorem Grown.way {t:SetTable}{n:Nat}(h:Grown t n):t.gaveWay=false:=by
 obtain⟨k,e,hk⟩:=h.ma
 unfold SetTable.gaveWay
 rw[e]
 obtain⟨k,rfl⟩:∃m,k=m+1:=⟨k-1,by lia⟩
 have:=Nat.two_pow_pos k
 have e2:(2^(k+1)-1)%2=1:=by rw[Nat.pow_succ];lia
 rw[e2]
 rfl
theorem Grown.meets {t:SetTable}{n:Nat}(g:Grown t n) (h:Int):∃m,m<10*SetTable.turns t.mask/\t.slot (adv t m (t.probeStart h)).j=.empty:=by
 obtain⟨k,e,_⟩:=g.ma
 have hk:=Nat.two_pow_pos k
 obtain⟨j,hj,hl⟩:=pigeon (2^k) t.place.toList (by simp only[Array.length_toList,g.pl];have:=g.le;lia)
 obtain⟨m,hm,ej⟩:=meet e h hj
 exact⟨m,hm,by rw[ej];exact slot_free g.du hl⟩
theorem size_insertAt {α:Type}(xs:Array α) (p:Nat) (x:α):(SetTable.insertAt xs p x).size=xs.size+1:=by
 unfold SetTable.insertAt
 simp
 lia
theorem Grown.put {t:SetTable}{n:Nat}(g:Grown t n) (hf:t.tooFull=false) (j:Nat):Grown (t.put j).1 (n+1):=by
 have e:(t.put j).1={ t with place:=SetTable.insertAt t.place (SetTable.below t.place j) j }:=by
  unfold SetTable.put
  simp only
  rw[g.du,has_none]
  simp[g.du]
 rw[e]
 refine⟨by rw[size_insertAt,g.pl],g.du,g.ma,?_⟩
 show n+1<=t.mask
 unfold SetTable.tooFull at hf
 rw[g.fill] at hf
 have:=of_decide_eq_false hf
 lia
theorem free_some {mask:Nat}{owner:Array (Option Nat)}:∀(f r i p:Nat),r<f->(owner.getD (starts mask r i p) (some 0)).isNone=true ->
  ∃j,SetTable.layClean.free mask owner f i p=some j/\(owner.getD j (some 0)).isNone=true
 |0,r,i,p,h,_=>absurd h (Nat.not_lt_zero _)
 |f+1,r,i,p,h,hn=>by
  unfold SetTable.layClean.free
  cases e:(List.range (SetTable.runEnd mask i+1-i)).find? λk=>(owner.getD (i+k) (some 0)).isNone with
  |some k=>
   have:=List.find?_some e
   exact⟨i+k,rfl,this⟩
  |none=>
   cases r with
   |zero=>
    have h0:∀x∈List.range (SetTable.runEnd mask i+1-i),¬(owner.getD (i+x) (some 0)).isNone=true:=by simpa using e
    have hm:0∈List.range (SetTable.runEnd mask i+1-i):=List.mem_range.mpr (by unfold SetTable.runEnd;split<;>lia)
    exact absurd hn (h0 0 hm)
   |succ r=>exact free_some f r _ _ (by lia) hn
def cnt (owner:Array (Option Nat)):Nat:=(owner.toList.filter Option.isSome).length
theorem cnt_set_list:∀(l:List (Option Nat)) (j k:Nat),l[j]?=some none->((l.set j (some k)).filter Option.isSome).length=(l.filter Option.isSome).length+1
 |[],j,k,h=>by simp at h
 |a::l,0,k,h=>by
  have:a=none:=by simpa using h
  subst this
  simp
 |a::l,j+1,k,h=>by
  have ih:=cnt_set_list l j k (by simpa using h)
  rw[List.set_cons_succ,List.filter_cons,List.filter_cons]
  split
  ·rw[List.length_cons,List.length_cons,ih]
  ·exact ih
theorem none_in:∀(l:List (Option Nat)),(l.filter Option.isSome).length<l.length->∃j:Nat,l[j]?=some none
 |[],h=>by simp at h
 |none::l,_=>⟨0,rfl⟩
 |some a::l,h=>by
  obtain⟨j,hj⟩:=none_in l (by simpa using h)
  exact⟨j+1,by simpa using hj⟩
structure Laid (mask:Nat) (owner:Array (Option Nat)) (K:Nat):Prop where
 sz:owner.size=mask+1
 ct:cnt owner=K
 lt:∀v,some v∈owner.toList->v<K
theorem Laid.step {mask k K:Nat}{owner:Array (Option Nat)}(hm:mask=2^k-1) (g:Laid mask owner K) (hK:K<=mask) (h:Int) :
  ∃j,SetTable.layClean.free mask owner (SetTable.turns mask) (SetTable.bits h%(mask+1)) (SetTable.bits h)=some j/\Laid mask (owner.setIfInBounds j (some K)) (K+1):=by
 have hk:=Nat.two_pow_pos k
 obtain⟨j0,hj0⟩:=none_in owner.toList (by
  have:=g.ct
  unfold cnt at this
  rw[this,Array.length_toList,g.sz]
  lia)
 have hl:j0<mask+1:=by
  have:=(List.getElem?_eq_some_iff.mp hj0).1
  rw[Array.length_toList,g.sz] at this
  exact this
 have e1:mask+1=2^k:=by lia
 obtain⟨r,hr,er⟩:=starts_meet k (SetTable.bits h%(mask+1)) (SetTable.bits h) j0 (by rw[<- e1];exact Nat.mod_lt _ (Nat.succ_pos _)) (bits_lt h) (by lia)
 rw[<- hm] at er
 have hgd:∀j,(owner.getD j (some 0)).isNone=true<->owner.toList[j]?=some none:=λj=>by
  rw[Array.getElem?_toList]
  by_cases hj:j<owner.size
  ·simp[Array.getD,hj]
  ·simp[Array.getD,hj]
 obtain⟨j,ej,hj⟩:=free_some (mask:=mask) (owner:=owner) (SetTable.turns mask) r _ _ (by unfold SetTable.turns;lia) (by rw[er];exact (hgd j0).mpr hj0)
 have hj':=(hgd j).mp hj
 refine⟨j,ej,by rw[Array.size_setIfInBounds];exact g.sz,?_,λv hv=>?_⟩
 ·unfold cnt
  rw[Array.toList_setIfInBounds,cnt_set_list _ _ _ hj']
  have:=g.ct
  unfold cnt at this
  rw[this]
 ·rw[Array.toList_setIfInBounds] at hv
  rcases List.mem_or_eq_of_mem_set hv with hv|hv
  ·have:=g.lt v hv;lia
  ·have:v=K:=by simpa using hv
   lia
theorem lay_fold {mask k:Nat}(hm:mask=2^k-1):∀(hs:List Int) (owner:Array (Option Nat)) (K:Nat),Laid mask owner K->K+hs.length<=mask ->
  ∃owner',(hs.foldl (λ(acc:Option (Array (Option Nat)×Nat)) (h:Int)=>do
   let (owner,k) <- acc
   let j <- SetTable.layClean.free mask owner (SetTable.turns mask) (SetTable.bits h%(mask+1)) (SetTable.bits h)
   pure (owner.setIfInBounds j (some k),k+1)) (some (owner,K)))=some (owner',K+hs.length)/\Laid mask owner' (K+hs.length)
 |[],owner,K,g,_=>⟨owner,rfl,g⟩
 |h::hs,owner,K,g,hl=>by
  rw[List.length_cons] at hl
  obtain⟨j,ej,g'⟩:=g.step hm (by lia) h
  obtain⟨o',e',g''⟩:=lay_fold hm hs _ (K+1) g' (by lia)
  refine⟨o',?_,by rw[List.length_cons,show K+(hs.length+1)=K+1+hs.length by lia];exact g''⟩
  rw[List.foldl_cons,List.length_cons,show K+(hs.length+1)=K+1+hs.length by lia,<- e']
  congr 1
  show (SetTable.layClean.free mask owner (SetTable.turns mask) (SetTable.bits h%(mask+1)) (SetTable.bits h)).bind _=_
  rw[ej]
  rfl
theorem lay_all {mask k:Nat}(hm:mask=2^k-1) (hs:Array Int) (hl:hs.size<=mask):∃owner,SetTable.layClean mask hs=some owner/\Laid mask owner hs.size:=by
 have g0:Laid mask (Array.replicate (mask+1) none) 0:=⟨by simp,by unfold cnt;simp,λv hv=>by simp at hv⟩
 obtain⟨o,e,g⟩:=lay_fold hm hs.toList _ 0 g0 (by simpa using hl)
 refine⟨o,?_,by simpa using g⟩
 unfold SetTable.layClean
 rw[<- Array.foldl_toList,e]
 rfl
theorem fm_congr {α β:Type}{f g:α->Option β}:∀(l:List α),(∀x∈l,f x=g x)->l.filterMap f=l.filterMap g
 |[],_=>rfl
 |a::l,h=>by
  rw[List.filterMap_cons,List.filterMap_cons,h a List.mem_cons_self,fm_congr l λx hx=>h x (List.mem_cons_of_mem _ hx)]
theorem live_len:∀(l:List (Option Nat)) (a:Nat),((List.range' a l.length).filterMap λj=>((l[j-a]?).getD none).map (λv=>(j,v))).length=(l.filter Option.isSome).length
 |[],a=>rfl
 |x::l,a=>by
  rw[List.length_cons,List.range'_succ,List.filterMap_cons]
  have ih:=live_len l (a+1)
  have e:(List.range' (a+1) l.length).filterMap (λj=>(((x::l)[j-a]?).getD none).map (λv=>(j,v)))=(List.range' (a+1) l.length).filterMap λj=>((l[j-(a+1)]?).getD none).map (λv=>(j,v)):=by
   refine fm_congr _ λj hj=>?_
   have:=(List.mem_range'_1.mp hj).1
   obtain⟨d,rfl⟩:∃d,j=a+1+d:=⟨j-(a+1),by lia⟩
   rw[show a+1+d-a=d+1 by lia,show a+1+d-(a+1)=d by lia,List.getElem?_cons_succ]
  rw[e,Nat.sub_self]
  cases x with
  |none=>simpa using ih
  |some v=>simpa using ih
theorem laid_some {mask k finger moves:Nat}{led plain:Bool}(hm:mask=2^k-1) (h1:1<=k) (hs:Array Int) (hl:hs.size<=mask) :
  ∃t order,SetTable.laid mask finger moves led plain hs=some (t,order)/\Grown t hs.size/\t.mask=mask/\t.led=led/\t.moves=moves/\order.size=hs.size/\∀v∈order,v<hs.size:=by
 obtain⟨owner,e,g⟩:=lay_all hm hs hl
 have el:∀a:Nat,(List.range (mask+1)).filterMap (λj=>(owner.getD j none).map (λv=>(j,v)))=(List.range' 0 owner.toList.length).filterMap λj=>((owner.toList[j-0]?).getD none).map (λv=>(j,v)):=λ_=>by
  rw[Array.length_toList,g.sz,<- List.range_eq_range']
  refine fm_congr _ λj hj=>?_
  have hj':=List.mem_range.mp hj
  rw[Nat.sub_zero,Array.getElem?_toList]
  simp[Array.getD,g.sz,hj']
 have len:((List.range (mask+1)).filterMap (λj=>(owner.getD j none).map (λv=>(j,v)))).length=hs.size:=by
  rw[el 0,live_len,<- g.ct]
  rfl
 refine⟨_,_,by unfold SetTable.laid;rw[e];rfl,⟨?_,rfl,⟨k,hm,h1⟩,hl⟩,rfl,rfl,rfl,?_,λv hv=>?_⟩
 ·show ((((List.range (mask+1)).filterMap (λj=>(owner.getD j none).map (λv=>(j,v)))).map (·.1)).toArray).size=_
  rw[List.size_toArray,List.length_map,len]
 ·show ((((List.range (mask+1)).filterMap (λj=>(owner.getD j none).map (λv=>(j,v)))).map (·.2)).toArray).size=_
  rw[List.size_toArray,List.length_map,len]
 ·have hv':v∈((List.range (mask+1)).filterMap (λj=>(owner.getD j none).map (λv=>(j,v)))).map (·.2):=by simpa using hv
  obtain⟨q,hq,rfl⟩:=List.mem_map.mp hv'
  obtain⟨j,hj,ej⟩:=List.mem_filterMap.mp hq
  obtain⟨v',ev,rfl⟩:=Option.map_eq_some_iff.mp ej
  refine g.lt v' ?_
  have hj':=List.mem_range.mp hj
  have:owner[j]'(by rw[g.sz];exact hj')=some v':=by simpa [Array.getD,g.sz,hj'] using ev
  rw[<- this]
  simp
theorem above_pow:∀(f k n:Nat),3<=k->n<2^(k+f)->∃k',SetTable.sizeAbove.go n f (2^k)=2^k'/\3<=k'/\n<2^k'/\(2^k<=2*n+8->2^k'<=2*n+8)
 |0,k,n,hk,h=>⟨k,rfl,hk,h,λz=>z⟩
 |f+1,k,n,hk,h=>by
  unfold SetTable.sizeAbove.go
  by_cases hc:2^k<=n
  ·rw[if_pos hc,<- Nat.pow_succ]
   obtain⟨k',e,h1,h2,h3⟩:=above_pow f (k+1) n (by lia) (by rw[show k+1+f=k+(f+1) by lia];exact h)
   exact⟨k',e,h1,h2,λ_=>h3 (by rw[Nat.pow_succ];lia)⟩
  ·rw[if_neg hc]
   exact⟨k,rfl,hk,by lia,λz=>z⟩
theorem sizeAbove_is {n:Nat}(h:n<2^60):∃k,SetTable.sizeAbove n=2^k/\3<=k/\n<2^k/\2^k<=2*n+8:=by
 obtain⟨k,e,h1,h2,h3⟩:=above_pow 64 3 n (by decide) (Nat.lt_trans h (by decide))
 exact⟨k,e,h1,h2,h3 (by show 8<=2*n+8;lia)⟩
theorem relaid_some {t:SetTable}{hs:Array Int}{wanted:Nat}(hw:wanted<2^60) (hl:hs.size<wanted) :
  ∃t' order,t.relaid hs wanted=some (t',order)/\Grown t' hs.size/\wanted<=t'.mask/\t'.mask<=2*wanted+8/\t'.led=t.led/\order.size=hs.size/\∀v∈order,v<hs.size:=by
 obtain⟨k,e,h1,h2,h3⟩:=sizeAbove_is hw
 have hk:=Nat.two_pow_pos k
 obtain⟨t',order,el,g,em,eled,_,eo,ev⟩:=laid_some (mask:=2^k-1) (k:=k) (finger:=t.finger) (moves:=t.movedTo (2^k-1)) (led:=t.led) (plain:=t.plain) rfl (by lia) hs (by lia)
 refine⟨t',order,?_,g,by rw[em];lia,by rw[em];lia,eled,eo,ev⟩
 unfold SetTable.relaid
 rw[e]
 exact el
theorem size_pick {α:Type}{es:Array α}{order:Array Nat}(h:∀v∈order,v<es.size):(order.filterMap (es[·]?)).size=order.size:=by
 rw[<- Array.length_toList,Array.toList_filterMap,<- Array.length_toList (xs:=order)]
 have:∀l:List Nat,(∀v∈l,v<es.size)->(l.filterMap (es[·]?)).length=l.length:=λl=>by
  induction l with
  |nil=>intro _;rfl
  |cons a l ih=>
   intro hh
   rw[List.filterMap_cons]
   have ha:=hh a List.mem_cons_self
   rw[show es[a]?=some es[a] by simp[ha]]
   simp[ih λv hv=>hh v (List.mem_cons_of_mem _ hv)]
 exact this _ λv hv=>h v (by simpa using hv)
end SetT
namespace SetT
open PySem PySem.Spec PyProof.Rows
section
variable {prog:Program}{w:World}{K:Type}[DecidableEq K]{knd:KeyKind prog w K}{A:Around}{E:Value->Shared->Prop}{s:Shared}
theorem noClass_byValue (n:Nat){v:Value}(h:carriedByValue v=true):ofAClassStatement n v=pure false:=by
 cases v with
 |ref a=>simp[carriedByValue] at h
 |_=>first|rfl|(unfold ofAClassStatement;rfl)|(cases n<;>rfl)
theorem seqItems?_of {M:Model}{a:Addr}{o:Obj}{items:Array Value}{n:Nat}{Q:Option (Array Value)->Shared->Prop}(ho:s.heap.get? a=some o) (hd:o.data=.seq items n) (h:Q (some items) s) :
  wpAny M A (seqItems? (.ref a)) Q E s:=wpAny_seqItems ho hd h
theorem noClass_tuple {ks:List K}{a:Addr}{Q:Bool->Shared->Prop}(hk:IsTupleKey knd s.heap ks a) (h:Q false s):wpAny (model prog w) A (ofAClassStatement 8 (.ref a)) Q E s:=by
 have hT:=hk.typeIs
 obtain⟨o,items,n,ho,_,hd,hi⟩:=hk
 unfold ofAClassStatement
 refine wpAny_bind (wpAny_typeOf hT ?_)
 show wpAny _ _ ((if ("tuple" == "tuple")=true then pure true else isSubtype (.type "tuple") (.type "tuple")) >>= _) _ _ s
 rw[if_pos (by decide)]
 refine wpAny_bind (wpAny_pure ?_)
 simp only[Bool.not_true,Bool.false_eq_true,if_false]
 refine wpAny_bind (seqItems?_of ho hd ?_)
 dsimp only
 refine wpAny_bind ?_
 show wpAny _ _ (forIn items _ _) _ _ s
 rw[<- Array.forIn_toList]
 refine wpAny_forIn_list _ (λrest r s'=>r.1=none/\s'=s/\∀v∈rest,carriedByValue v=true) _ ?_ ?_ _ _ ⟨rfl,rfl,hi.byValue⟩
 ·rintro v rest r s' ⟨hr,rfl,hall⟩
  rw[noClass_byValue _ (hall v List.mem_cons_self)]
  refine wpAny_bind (wpAny_pure ?_)
  simp only[Bool.false_eq_true,if_false]
  exact wpAny_pure ⟨rfl,rfl,λu hu'=>hall u (List.mem_cons_of_mem _ hu')⟩
 ·rintro⟨r1,r2⟩ s' ⟨hr,rfl,_⟩
  simp only at hr
  subst hr
  exact wpAny_pure h
theorem unseen {ks:List K}{a:Addr}{Q:Bool->Shared->Prop}(hk:IsTupleKey knd s.heap ks a) (h:Q false s){stored:List Value}(hst:∀y∈stored,∃b ks',y=.ref b/\IsTupleKey knd s.heap ks' b) :
  wpAny (model prog w) A (searchCouldBeSeen (.ref a) stored) Q E s:=by
 unfold searchCouldBeSeen
 refine wpAny_bind ?_
 refine wpAny_forIn_list _ (λrest r s'=>r.1=none/\s'=s/\∀y∈rest,∃b ks',y=.ref b/\IsTupleKey knd s.heap ks' b) _ ?_ ?_ _ _ ⟨rfl,rfl,hst⟩
 ·rintro y rest r s' ⟨hr,rfl,hall⟩
  obtain⟨b,ks',rfl,hb⟩:=hall y List.mem_cons_self
  have rest':∀y∈rest,∃b ks',y=.ref b/\IsTupleKey knd s'.heap ks' b:=λu hu'=>hall u (List.mem_cons_of_mem _ hu')
  dsimp only
  split
  ·exact wpAny_pure ⟨rfl,rfl,rest'⟩
  ·refine wpAny_bind (wpAny_eqIsQuiet_tuple hk ?_)
   simp only[Bool.not_true,Bool.false_eq_true,if_false]
   refine wpAny_bind (wpAny_eqIsQuiet_tuple hb ?_)
   simp only[Bool.not_true,Bool.false_eq_true,if_false]
   refine wpAny_bind (noClass_tuple hk ?_)
   simp only[Bool.false_eq_true,if_false]
   refine wpAny_bind (noClass_tuple hb ?_)
   simp only[Bool.false_eq_true,if_false]
   exact wpAny_pure ⟨rfl,rfl,rest'⟩
 ·rintro⟨r1,r2⟩ s' ⟨hr,rfl,_⟩
  simp only at hr
  subst hr
  exact wpAny_pure h
def Hb (v:Value):Prop:=∃b,∀n,hashByValue n v=pure b
theorem Hb.int (k:Int) (t:Tok):Hb (.int k t):=⟨true,λn=>by cases n<;>rfl⟩
theorem Hb.str (x:Str) (t:Tok):Hb (.str x t):=⟨false,λn=>by cases n<;>rfl⟩
theorem hashBy_tuple {a:Addr}{o:Obj}{items:Array Value}{n:Nat}{Q:Bool->Shared->Prop}(ho:s.heap.get? a=some o) (hc:o.cls=.type "tuple") (hd:o.data=.seq items n) (hi:∀v∈items.toList,Hb v) (h:∀b,Q b s) :
  wpAny (model prog w) A (hashByValue 8 (.ref a)) Q E s:=by
 have hT:s.TypeIs (.ref a) "tuple":=⟨o,ho,hc⟩
 unfold hashByValue
 refine wpAny_bind (wpAny_specialOf hT F.slot_tuple_hash.lookup ?_)
 dsimp only
 refine wpAny_bind (seqItems?_of ho hd ?_)
 dsimp only [Option.getD]
 refine wpAny_bind ?_
 show wpAny _ _ (forIn items _ _) _ _ s
 rw[<- Array.forIn_toList]
 refine wpAny_forIn_list _ (λrest r s'=>r.1=none/\s'=s/\∀v∈rest,Hb v) _ ?_ ?_ _ _ ⟨rfl,rfl,hi⟩
 ·rintro v rest r s' ⟨hr,rfl,hall⟩
  obtain⟨b,hb⟩:=hall v List.mem_cons_self
  rw[hb]
  refine wpAny_bind (wpAny_pure ?_)
  cases b with
  |true=>
   simp only[Bool.not_true,Bool.false_eq_true,if_false]
   exact wpAny_pure ⟨rfl,rfl,λu hu'=>hall u (List.mem_cons_of_mem _ hu')⟩
  |false=>
   simp only[Bool.not_false,if_true]
   exact wpAny_pure (wpAny_pure (h false))
 ·rintro⟨r1,r2⟩ s' ⟨hr,rfl,_⟩
  simp only at hr
  subst hr
  exact wpAny_pure (h true)
theorem Grown.fits {t:SetTable}{n:Nat}(g:Grown t n):t.fits n=true:=by
 unfold SetTable.fits
 rw[g.pl,g.fill]
 simp[g.le]
structure SetR (knd:KeyKind prog w K) (h:Heap) (a:Addr) (Ks:List (List K)) (n:Nat):Prop where
 ex:∃o es ep t,h.get? a=some o/\o.ExactSet/\o.data=.set es ep t/\Grown t es.size/\t.tooFull=false/\t.mask<=8*n+8/\es.size=n/\∀e∈es,∃b ks,e.2=.ref b/\ks∈Ks/\IsTupleKey knd h ks b
theorem key_other {h:Heap}{a b:Addr}{o:Obj}{ks:List K}{es:Array (Int×Value)}{ep:Nat}{t:SetTable}(x:IsTupleKey knd h ks b) (ho:h.get? a=some o) (hd:o.data=.set es ep t):b≠a:=by
 rintro rfl
 obtain⟨o',items,n,ho',_,hd',_⟩:=x
 obtain rfl:o'=o:=Option.some.inj (ho'.symm.trans ho)
 rw[hd] at hd';exact nomatch hd'
theorem key_keeps {h h':Heap}{a b:Addr}{ks:List K}(x:IsTupleKey knd h ks b) (hne:b≠a) (hs:Heap.SameBut a h h'):IsTupleKey knd h' ks b:=by
 obtain⟨o',items,n,ho',hc,hd',hi⟩:=x
 exact⟨o',items,n,(hs.2 b hne).trans ho',hc,hd',hi⟩
theorem put_set {h:Heap}{a:Addr}{o:Obj}{es es':Array (Int×Value)}{ep:Nat}{t t':SetTable}(ho:h.get? a=some o) (hd:o.data=.set es ep t) :
  (h.update a (Obj.putSet es' t')).get? a=some { o with data:=.set es' (ep+1) t' }:=by
 have:=Heap.get?_update_self (Obj.putSet es' t') ho (by rw[putSet_of es' t' hd];rfl)
 rw[putSet_of es' t' hd] at this;exact this
end
end SetT
namespace SetT
open PySem PySem.Spec PyProof.Rows
section
variable {prog:Program}{w:World}{K:Type}[DecidableEq K]{knd:KeyKind prog w K}
def TupK (knd:KeyKind prog w K) (h:Heap) (ks:List K) (b:Addr):Prop:=∃o items n,h.get? b=some o/\o.cls=.type "tuple" /\ o.data=.seq items n/\ItemsAre knd ks items.toList/\∀v∈items.toList,Hb v
theorem TupK.key {h:Heap}{ks:List K}{b:Addr}(x:TupK knd h ks b):IsTupleKey knd h ks b:=let ⟨o,items,n,h1,h2,h3,h4,_⟩:=x;⟨o,items,n,h1,h2,h3,h4⟩
theorem TupK.hb {h:Heap}{ks:List K}{b:Addr}(x:TupK knd h ks b):∀o items m,h.get? b=some o->o.data=.seq items m->∀v∈items.toList,Hb v:=λo items m e1 e2=>by
 obtain⟨o',items',n',h1,_,h3,_,h5⟩:=x
 rw[e1] at h1;cases h1
 rw[e2] at h3;cases h3
 exact h5
theorem TupK.at {h h':Heap}{ks:List K}{b:Addr}(x:TupK knd h ks b) (k:∀o,h.get? b=some o->h'.get? b=some o):TupK knd h' ks b:=let ⟨o,items,n,h1,r⟩:=x;⟨o,items,n,k o h1,r⟩
theorem SetR.at {h h':Heap}{a:Addr}{Ks:List (List K)}{n:Nat}(S:SetR knd h a Ks n) (k:∀b o,h.get? b=some o->h'.get? b=some o\/b≠a/\¬∃ks,IsTupleKey knd h ks b):SetR knd h' a Ks n:=by
 obtain⟨o,es,ep,t,ho,hex,hd,g,hf,hmk,hn,hel⟩:=S.ex
 refine⟨o,es,ep,t,?_,hex,hd,g,hf,hmk,hn,λe he=>?_⟩
 ·rcases k a o ho with z|z
  ·exact z
  ·exact absurd rfl z.1
 ·obtain⟨b,ks,e1,e2,e3⟩:=hel e he
  refine⟨b,ks,e1,e2,?_⟩
  obtain⟨o',items,n',ho',r⟩:=id e3
  rcases k b o' ho' with z|z
  ·exact⟨o',items,n',z,r⟩
  ·exact absurd ⟨ks,e3⟩ z.2
variable {A:Around}{R:Result->Shared->Prop}{I:Addr}{fp wr:List Addr}{G:Array GenState->Array GenState->Prop}{n:Nat}{P:Nat->Value->Prop}{St:Nat->Shared->Prop}
def Items (knd:KeyKind prog w K) (S:Addr) (wr:List Addr) (P:Nat->Value->Prop) (val:Nat->List K) (h:Heap):Prop:=∀i v,P i v->∃b,v=.ref b/\b≠S/\b∉wr/\TupK knd h (val i) b
def NoTup (knd:KeyKind prog w K) (wr:List Addr) (h:Heap):Prop:=∀b∈wr,¬∃ks,IsTupleKey knd h ks b
end
end SetT
namespace SetT
open PySem PySem.Spec
section
variable {prog:Program}{w:World}{K:Type}[DecidableEq K]{knd:KeyKind prog w K}{A:Around}{E:Value->Shared->Prop}{s:Shared}
abbrev newS (led:Bool):Obj:={ cls:=.type "set",dict:=none,data:=.set #[] 0 (.fresh 0 0 led) }
end
end SetT
namespace L2
open PySem PySem.Spec PyProof.Rows PySem.W
def Noted (h base:Heap) (e:Addr) (cls fl:Value):Prop:=∃oe vs T oT ts,h.get? e=some oe/\oe.cls=cls/\oe.data=.fields vs/\vs[1]?=some (.ref T)/\vs[2]?=some .none/\base.get? T=none/\T≠e/\h.get? T=some oT/\oT.data=.fields ts/\ts[3]?=some fl
structure Over (base:Heap) (l:List Env) (e:Addr) (cls fl:Value) (h:Heap):Prop where
 stays:base.StaysIn h
 new:base.get? e=none
 frames:h.FunFrames base l
 noted:Noted h base e cls fl
section
variable {M:Model}{A:Around}{E:Value->Shared->Prop}{s:Shared}{base:Heap}{env:Env}{outer:List Env}{L e:Addr}{oe:Obj}{vs:Array Value}{head:Value}{hadNext:Bool}
theorem entry_put {Q:Unit->Shared->Prop}(hfr:A.frames=some (env::outer)) (hl:s.heap.FunFrames base (env::outer)) (hf:env.frame=some L) (he:s.heap.get? e=some oe) (kb:base.StaysIn s.heap) (ne:base.get? e=none)
  (hd:oe.data=.fields vs) (h2:vs[2]?=some .none) (hQ:∀h',Over base (env::outer) e oe.cls (rawInt L) h'->s.heap.UpToSlots h'->Q () { s with heap:=h' }) :
  wpAny M A (do let a <- frameOf env;let pl <- entryPlaceOf L hadNext;let b <- EntryCells.newEntry head a .none (rawInt L) .none pl;setField (.ref e) 1 b) Q E s:=by
 have v1:1<vs.size:=Nat.lt_trans (by decide) (Array.getElem?_eq_some_iff.mp h2).1
 have nf:e∉(env::outer).filterMap (·.frame):=λz=>by
  obtain⟨_,o,q1,q2⟩:=hl.mem z
  rw[he] at q1;cases q1
  exact q2 vs hd
 refine wpAny_bind (wpAny_frameOf_fun hfr hl hf λg1 c1=>?_)
 refine wpAny_bind (wpAny_entryPlaceOf λpl hpl=>?_)
 unfold EntryCells.newEntry newFields
 refine wpAny_bind (wpAny_newObj_type ?_ (hpl.sizeOk5 _ _ _ _ _))
 dsimp only
 have e1:g1.get? e=some oe:=(c1.2.1 e nf).trans he
 have k1:base.StaysIn g1:=λb o q=>(c1.2.1 b (λz=>by rw[(hl.mem z).1] at q;cases q)).trans (kb b o q)
 have hts:(([head,.ref L,.none,rawInt L,.none]++(if pl.isEmpty then List.replicate 6 Value.none else pl)).toArray:Array Value)[3]?=some (rawInt L):=by
  simp
 generalize ([head,.ref L,.none,rawInt L,.none]++(if pl.isEmpty then List.replicate 6 Value.none else pl)).toArray=ts at hts
 have e2:(g1.push { cls:=.type "traceback",dict:=none,data:=.fields ts }).get? e=some oe:=Heap.get?_push_of_some _ e1
 have nT:g1.objs.size≠e:=Nat.ne_of_gt (Heap.lt_size e1)
 refine wpAny_setField e2 hd v1 (hQ _ ⟨?_,ne,?_,?_⟩ ?_)
 ·exact λb o q=>(Heap.get?_update_other _ _ (λz=>by rw[z,q] at ne;cases ne)).trans (Heap.get?_push_of_some _ (k1 b o q))
 ·refine hl.of_keeps λb o q d=>?_
  obtain⟨sl,q1⟩:=c1.2.2 b o q
  exact⟨_,(Heap.get?_update_other _ _ (λz=>by rw[<- z,he] at q;cases q;exact d vs hd)).trans (Heap.get?_push_of_some _ q1),rfl⟩
 ·refine⟨_,_,g1.objs.size,_,ts,Heap.get?_update_self _ e2 (Obj.isFreed_of_fields (Obj.data_mapFields hd _)),Obj.cls_mapFields _ _,Obj.data_mapFields hd _,by simp[v1],?_,k1.fresh,nT,(Heap.get?_update_other _ _ (Ne.symm nT)).trans (Heap.get?_push_size g1 rfl),rfl,hts⟩
  rw[Array.getElem?_setIfInBounds_ne (by decide)]
  exact h2
 ·intro b o q d
  obtain⟨sl,q1⟩:=c1.2.2 b o q
  exact⟨sl,(Heap.get?_update_other _ _ (λz=>by rw[<- z,he] at q;cases q;exact d vs hd)).trans (Heap.get?_push_of_some _ q1)⟩
theorem flight_off {Q:Unit->Shared->Prop}{l:List Env}{cls fl:Value}(O:Over base l e cls fl s.heap) (hQ:∀h',Over base l e cls .none h'->s.heap.UpToSlots h'->Q () { s with heap:=h' }):wpAny M A (setFlight (.ref e) none) Q E s:=by
 obtain⟨kb,ne,hl,oe,vs,T,oT,ts,he,hc,hd,h1,h2,bT,nT,hT,dT,h3⟩:=O
 have t3:=(Array.getElem?_eq_some_iff.mp h3).1
 unfold setFlight
 refine wpAny_bind (wpAny_field he hd h1 ?_)
 rw[if_pos (by simp)]
 refine wpAny_setField hT dT t3 (hQ _ ⟨?_,ne,?_,?_⟩ ?_)
 ·exact λb o q=>(Heap.get?_update_other _ _ (λz=>by rw[z,q] at bT;cases bT)).trans (kb b o q)
 ·exact hl.of_keeps λb o q d=>⟨o,(Heap.get?_update_other _ _ (λz=>by rw[<- z,hT] at q;cases q;exact d ts dT)).trans q,rfl⟩
 ·exact⟨oe,vs,T,_,_,(Heap.get?_update_other _ _ nT).trans he,hc,hd,h1,h2,bT,nT,Heap.get?_update_self _ hT (Obj.isFreed_of_fields (Obj.data_mapFields dT _)),Obj.data_mapFields dT _,by simp[t3]⟩
 ·exact λb o q d=>⟨o.slots,(Heap.get?_update_other _ _ (λz=>by rw[<- z,hT] at q;cases q;exact d ts dT)).trans q⟩
theorem note_first {Q:Unit->Shared->Prop}(hfr:A.frames=some (env::outer)) (hl:s.heap.FunFrames base (env::outer)) (hf:env.frame=some L) (he:s.heap.get? e=some oe) (kb:base.StaysIn s.heap) (ne:base.get? e=none)
  (hd:oe.data=.fields vs) (h1:vs[1]?=some .none) (h2:vs[2]?=some .none) (hQ:∀h',Over base (env::outer) e oe.cls (rawInt L) h'->s.heap.UpToSlots h'->Q () { s with heap:=h' }):wpAny M A (noteFrame (.ref e) env) Q E s:=by
 unfold noteFrame
 simp only[hf]
 refine wpAny_bind (wpAny_field he hd h1 ?_)
 rw[if_neg (by decide)]
 exact entry_put hfr hl hf he kb ne hd h2 hQ
theorem note_next {Q:Unit->Shared->Prop}{cls:Value}(hfr:A.frames=some (env::outer)) (hf:env.frame=some L) (O:Over base (env::outer) e cls .none s.heap) (hQ:∀h',Over base (env::outer) e cls (rawInt L) h'->s.heap.UpToSlots h'->Q () { s with heap:=h' }) :
  wpAny M A (noteFrame (.ref e) env) Q E s:=by
 obtain⟨kb,ne,hl,oe,vs,T,oT,ts,he,hc,hd,h1,h2,bT,nT,hT,dT,h3⟩:=O
 subst hc
 have t3:=(Array.getElem?_eq_some_iff.mp h3).1
 unfold noteFrame
 simp only[hf]
 refine wpAny_bind (wpAny_field he hd h1 ?_)
 rw[if_pos (by simp)]
 refine wpAny_bind (wpAny_field hT dT h3 ?_)
 rw[if_neg (by simp[rawInt])]
 refine wpAny_bind (wpAny_setField hT dT t3 ?_)
 have ot:∀b o,s.heap.get? b=some o->(∀ws,o.data≠.fields ws)->T≠b:=λb o q d z=>by rw[<- z,hT] at q;cases q;exact d ts dT
 refine entry_put (s:={ s with heap:=_ }) hfr ?_ hf ((Heap.get?_update_other _ _ nT).trans he) ?_ ne hd h2 λh' O' U'=>hQ h' O' λb o q d=>?_
 ·exact hl.of_keeps λb o q d=>⟨o,(Heap.get?_update_other _ _ (ot b o q d)).trans q,rfl⟩
 ·exact λb o q=>(Heap.get?_update_other _ _ (λz=>by rw[z,q] at bT;cases bT)).trans (kb b o q)
 ·exact U' b o ((Heap.get?_update_other _ _ (ot b o q d)).trans q) d
theorem leave_first {Q:Unit->Shared->Prop}(hfr:A.frames=some (env::outer)) (hl:s.heap.FunFrames base (env::outer)) (hf:env.frame=some L) (he:s.heap.get? e=some oe) (kb:base.StaysIn s.heap) (ne:base.get? e=none)
  (hd:oe.data=.fields vs) (h1:vs[1]?=some .none) (h2:vs[2]?=some .none) (hQ:∀h',Over base outer e oe.cls .none h'->s.heap.UpToSlots h'->Q () { s with heap:=h' }):wpAny M A (leaving env (.ref e)) Q E s:=by
 unfold leaving
 refine wpAny_bind (note_first hfr hl hf he kb ne hd h1 h2 λg O U=>?_)
 refine flight_off O λg' O' U'=>hQ g' ⟨O'.stays,O'.new,O'.frames.2.2,O'.noted⟩ (U.trans U')
theorem leave_next {Q:Unit->Shared->Prop}{cls:Value}(hfr:A.frames=some (env::outer)) (hf:env.frame=some L) (O:Over base (env::outer) e cls .none s.heap) (hQ:∀h',Over base outer e cls .none h'->s.heap.UpToSlots h'->Q () { s with heap:=h' }) :
  wpAny M A (leaving env (.ref e)) Q E s:=by
 unfold leaving
 refine wpAny_bind (note_next hfr hf O λg O1 U=>?_)
 refine flight_off O1 λg' O' U'=>hQ g' ⟨O'.stays,O'.new,O'.frames.2.2,O'.noted⟩ (U.trans U')
end
end L2
namespace L2
open PySem PySem.Spec PyProof.Rows
theorem ObjOk.there {P:Program}{w:World}{H:Hp}{h:Heap}{a:Addr}{o:HO}(x:ObjOk P w H h a o):∃ob,h.get? a=some ob:=by
 cases o with
 |lst xs=>obtain⟨_,_,_,_,e⟩:=x;exact⟨_,e⟩
 |tup xs=>obtain⟨_,_,_,o,e,_⟩:=x;exact⟨_,e⟩
 |dK kvs=>obtain⟨_,_,_,_,o,_,_,e,_⟩:=x;exact⟨_,e⟩
 |dT kvs=>obtain⟨_,_,_,_,o,_,_,e,_⟩:=x;exact⟨_,e⟩
 |set S n=>obtain⟨o,_,_,_,e,_⟩:=x;exact⟨_,e⟩
 |ins C dx fs=>obtain⟨_,_,_,e,_⟩:=x;exact⟨_,e⟩
 |own y=>exact x
 |xd fs=>obtain⟨_,⟨_,_,_,e,_⟩,_⟩:=x;exact⟨_,e⟩
 |rng lo hi=>obtain⟨_,_,_,e⟩:=x;exact⟨_,e⟩
 |frz ob u=>obtain⟨e,_⟩:=x;exact⟨_,e⟩
 |tbl ps=>exact⟨_,(show h.get? a=some _ from x)⟩
 |met f y=>exact⟨_,(show h.get? a=some _ from x)⟩
 |ext φ=>exact x.2.1
def Fly (P:Program) (w:World) (outer:List Env) (H H':Hp) (h h':Heap) (x:Addr) (cls:Value):Prop:=
 ∃(B:Heap),Un (frs outer) [] H H' h h'/\HOk P w H' h'/\Over B outer x cls .none h'/\(∀b o,h.get? b=some o->b∉frs outer->∃ob,B.get? b=some ob)/\(∀b o,H' b=some o->∃ob,B.get? b=some ob)/\H' x=none
def CX1 (P:Program) (w:World):CXT:=λouter H s E e s'=>∃(x:Addr) (cls:Value) (H':Hp),e=.ref x/\s'.os=s.os/\AllBare s'.gens/\Fly P w outer H H' s.heap s'.heap x cls/\E cls none H'
def Raises (X:Cx) (E:XK):Prop:=∀(pins:List (Addr×Obj)) (σ:St) (H:Hp) (s:Shared) (h':Heap) (e:Addr) (cls:Value) (args:List Value),Inv X pins σ H s->Heap.MadeExcOf s.heap h' e cls args->E cls none H->X.xe (.ref e) { s with heap:=h' }
section
variable {P:Program}{w:World}{H H1 H':Hp}{h h1 h':Heap}{outer:List Env}{env:Env}{x L:Addr}{cls:Value}
theorem Fly.left {B:Heap}(U0:Un (frs outer) [] H H1 h h1) (hL:∀b o,h.get? b=some o->b≠L) (hf:env.frame=some L) (U1:Un (frs (env::outer)) [] H1 H' h1 h') (K:HOk P w H' h')
  (c1:∀b o,h1.get? b=some o->b∉frs (env::outer)->∃ob,B.get? b=some ob) (c2:∀b o,H' b=some o->∃ob,B.get? b=some ob) (hx:H' x=none) (st:B.StaysIn h') (ff:h.FunFrames B' outer)
  {h2:Heap}(F2:Over B outer x cls .none h2) (sm:h'.UpToSlots h2):Fly P w outer H H' h h2 x cls:=by
 have fr:∀b,b∉frs outer->b≠L->b∉frs (env::outer):=λb hb hn hm=>by
  unfold frs at hm hb
  rw[List.filterMap_cons,hf] at hm
  rcases List.mem_cons.mp hm with z|z
  ·exact hn z
  ·exact hb z
 have fr':∀b,b∈frs outer->b∈frs (env::outer):=λb hb=>by
  unfold frs at hb ⊢
  rw[List.filterMap_cons,hf]
  exact List.mem_cons_of_mem _ hb
 have nox:∀b:Addr,b∉([]:List Addr):=λb=>by simp
 have same:∀b ob o,B.get? b=some ob->h'.get? b=some o->h2.get? b=some o:=λb ob o e1 e2=>by
  have q1:=st b ob e1
  have q2:=F2.stays b ob e1
  rw[e2] at q1;cases q1;exact q2
 refine⟨B,⟨λb o e n hb _=>?_,λb o e n hb _=>?_,λb o e n _=>?_,λb o e _=>?_,λb xs e=>U1.tups b xs (U0.tups b xs e),λb o u e=>U1.frzs b o u (U0.frzs b o u e),λb ps e=>?_⟩,λb o e=>?_,F2,λb o e hb=>?_,c2,hx⟩
 ·have e1:=U0.keep b o e n hb (nox b)
  have hb':=fr b hb (hL b o e)
  have e2:=U1.keep b o e1 (U0.free b o e n (nox b)) hb' (nox b)
  obtain⟨ob,z⟩:=c1 b o e1 hb'
  exact same b ob o z e2
 ·obtain⟨sl,e1⟩:=U0.slot b o e n hb (nox b)
  obtain⟨sl',e2⟩:=U1.slot b _ e1 (U0.free b o e n (nox b)) (fr' b hb) (nox b)
  obtain⟨_,o',ho',hd⟩:=ff.mem hb
  rw[e] at ho';cases ho'
  obtain⟨sl2,e3⟩:=sm b _ e2 hd
  exact⟨sl2,e3⟩
 ·obtain⟨o',e1⟩:=U0.there b o e (nox b)
  exact U1.free b o' e1 (U0.free b o e n (nox b)) (nox b)
 ·obtain⟨o1,e1⟩:=U0.there b o e (nox b)
  by_cases hb:b∈frs (env::outer)
  ·by_cases hb2:b∈frs outer
   ·obtain⟨_,o2,e2,_⟩:=F2.frames.mem hb2
    exact⟨o2,e2⟩
   ·exact absurd hb (fr b hb2 (hL b o e))
  ·obtain⟨ob,z⟩:=c1 b o1 e1 hb
   exact⟨ob,F2.stays b ob z⟩
 ·obtain⟨m1,e1⟩:=U0.tbls b ps e
  obtain⟨m2,e2⟩:=U1.tbls b _ e1
  exact⟨m1++m2,by rw[e2,Array.append_assoc]⟩
 ·refine (K b o e).stay (λc u hc q=>?_) (λ_ q=>q) λ_ _ q=>q
  rcases hc with z|z
  ·obtain⟨ob,zz⟩:=c2 b o e
   rw[z] at q ⊢
   exact same b ob u zz q
  ·obtain⟨ob,zz⟩:=c2 c _ z
   exact same c ob u zz q
 ·obtain⟨o1,e1⟩:=U0.there b o e (nox b)
  exact c1 b o1 e1 (fr b hb (hL b o e))
end
section
variable {P:Program}{w:World}{K:PySem.W.Frag}{mg:Str->Option Value}{base:Heap}{N:List Str}{qual:Str}{scope:Scope}{f:Addr}{cd:Value}{A:Around}{outer:List Env}{s₀:Shared}{H₀:Hp}{E:XK}
theorem passes1:Passes (CX1 P w) (cxOf (CX1 P w) P w K mg base N qual scope f cd A outer s₀ H₀ E) E:=by
 intro pins σ H s e s' I h
 obtain⟨x,cls,H',rfl,ho,hb,⟨B,U,HK,FW,c1,c2,hx⟩,hE⟩:=h
 have hf:(envOfC qual scope s₀.heap.objs.size f cd).frame=some s₀.heap.objs.size:=rfl
 refine leave_next I.ok.frames hf FW λh2 F2 sm=>?_
 refine⟨x,cls,H',rfl,ho.trans I.os,hb,?_,hE⟩
 exact Fly.left I.base (λb o e=>Nat.ne_of_lt (Heap.lt_size e)) hf U HK c1 c2 hx FW.stays I.ok.funs F2 sm
theorem raises1:Raises (cxOf (CX1 P w) P w K mg base N qual scope f cd A outer s₀ H₀ E) E:=by
 intro pins σ H s h' e cls args I hm hE
 have hf:(envOfC qual scope s₀.heap.objs.size f cd).frame=some s₀.heap.objs.size:=rfl
 have FS:s.heap.FunFrames base (envOfC qual scope s₀.heap.objs.size f cd::outer):=I.stack
 have hin:∀env∈(envOfC qual scope s₀.heap.objs.size f cd::outer),∀a,env.frame=some a->a∈frs (envOfC qual scope s₀.heap.objs.size f cd::outer):=λenv he a ha=>List.mem_filterMap.mpr ⟨env,he,ha⟩
 obtain⟨t,he,_,_⟩:=hm.there
 have hen:(PySem.W.hideAll s.heap (frs (envOfC qual scope s₀.heap.objs.size f cd::outer))).get? e=none:=by
  cases q:(PySem.W.hideAll s.heap (frs (envOfC qual scope s₀.heap.objs.size f cd::outer))).get? e with
  |none=>rfl
  |some o=>
   have:=PySem.W.of_hideAll _ q
   rw[hm.new] at this;cases this
 have hxn:H e=none:=by
  cases z:H e with
  |none=>rfl
  |some o=>
   obtain⟨ob,q⟩:=(I.hok e o z).there
   rw[hm.new] at q;cases q
 refine leave_first (base:=PySem.W.hideAll s.heap (frs (envOfC qual scope s₀.heap.objs.size f cd::outer))) I.ok.frames ((PySem.W.funFrames_hide FS hin).of_keeps λb o hb _=>⟨o,hm.keeps b o hb,rfl⟩) hf he
  (λb o hb=>hm.keeps b o (PySem.W.of_hideAll _ hb)) hen rfl rfl rfl λh2 O2 k4=>?_
 refine⟨e,cls,H,rfl,I.os,I.bare,?_,hE⟩
 refine Fly.left (B:=PySem.W.hideAll s.heap (frs (envOfC qual scope s₀.heap.objs.size f cd::outer))) (h':=h') I.base (λb o z=>Nat.ne_of_lt (Heap.lt_size z)) hf (Un.kept hm.keeps) (I.hok.kept hm.keeps) (λb o z hb=>⟨o,PySem.W.hideAll_get _ z hb⟩) (λb o z=>?_) hxn (λb o hb=>hm.keeps b o (PySem.W.of_hideAll _ hb)) I.ok.funs O2 k4
 obtain⟨ob,q⟩:=(I.hok b o z).there
 refine⟨ob,PySem.W.hideAll_get _ q λhmm=>?_⟩
 have:=I.stkFree b hmm
 rw[z] at this;cases this
end
end L2
namespace L2
open PySem PySem.Spec PyProof.Rows
def SetN (r:Addr) (n:Nat) (h:Heap):Prop:=∃o es ep t,h.get? r=some o/\o.ExactSet/\o.data=.set es ep t/\t.fits es.size=true/\es.size=n
section
variable {X:Cx}
theorem hb_kV {k:Key}{u:Value}(r:RelV (kV k) u):SetT.Hb u:=by
 cases k with
 |inl i=>obtain⟨t,rfl⟩:=r;exact SetT.Hb.int i t
 |inr x=>obtain⟨t,rfl⟩:=r;exact SetT.Hb.str x t
theorem hbs_kV:∀{ks:List Key}{us:List Value},Vals (ks.map kV) us->∀v∈us,SetT.Hb v
 |[],_,.nil,v,hv=>by cases hv
 |k::ks,_,.cons r t,v,hv=>by
  rcases List.mem_cons.mp hv with rfl|hv
  ·exact hb_kV r
  ·exact hbs_kV t v hv
theorem tupK_of {P:Program}{w:World}{H:Hp}{h:Heap}{b:Addr}{ks:List Key}(ok:HOk P w H h) (e:H b=some (.tup (ks.map kV))):SetT.TupK (mixKind P w) h ks b:=by
 obtain⟨_,its,r,o,ho,hc,n,hd⟩:=ok b _ e
 exact⟨o,its.toArray,n,ho,hc,hd,by simpa using items_are r,λv hv=>hbs_kV r v (by simpa using hv)⟩
theorem call_lenSet:CallR X (.builtin "len") (λxs H Q=>∃(r:Addr) (n:Nat),xs=[.ref r]/\H r=some (.ext (SetN r n))/\n<=1200/\Q (.int n) H):=by
 intro pins s σ H xs us Q I rv h
 obtain⟨r,n,rfl,hr,hn,q⟩:=h
 obtain⟨u,rfl,ru⟩:=vals1 rv
 cases ru
 obtain⟨⟨o,es,ep,t,ho,hex,hd,hf,rfl⟩,_⟩:=I.hok r _ hr
 have hb:(es.size:Int)<=1200:=by lia
 exact call_len_set ho hex hd hf (Int.lt_of_le_of_lt hb (by decide)) ⟨.int es.size,H,I.tok _,⟨_,rfl⟩,q⟩
end
end L2
namespace L2
open PySem PySem.Spec PyProof.Rows
mutual
inductive DataAt (H:Hp):V->PyData->Prop
 |non:DataAt H .non .none
 |bl (b:Bool):DataAt H (.bl b) (.bool b)
 |int (i:Int):DataAt H (.int i) (.int i)
 |str (x:Str):DataAt H (.str x) (.str x)
 |lst {a:Addr}{xs:List V}{ds:List PyData}(h:H a=some (.lst xs)) (r:DatasAt H xs ds):DataAt H (.ref a) (.list ds)
 |tup {a:Addr}{xs:List V}{ds:List PyData}(h:H a=some (.tup xs)) (r:DatasAt H xs ds):DataAt H (.ref a) (.tuple ds)
inductive DatasAt (H:Hp):List V->List PyData->Prop
 |nil:DatasAt H [] []
 |cons {x:V}{xs:List V}{d:PyData}{ds:List PyData}(h:DataAt H x d) (r:DatasAt H xs ds):DatasAt H (x::xs) (d::ds)
end
section
variable {P:Program}{w:World}{H:Hp}{h:Heap}
mutual
theorem DataAt.reads (ok:HOk P w H h):∀{x:V}{d:PyData}{u:Value},DataAt H x d->RelV x u->∃as,Reads h u d as
 |_,_,u,.non,r=>⟨[],by cases (show u=Value.none from r);exact .none⟩
 |_,_,u,.bl b,r=>⟨[],by cases (show u=Value.bool b from r);exact .bool b⟩
 |_,_,u,.int i,r=>⟨[],by obtain⟨t,rfl⟩:=r;exact .int i t⟩
 |_,_,u,.str x,r=>⟨[],by obtain⟨t,rfl⟩:=r;exact .str x t⟩
 |_,_,u,.lst (a:=a) e rs,r=>by
  cases (show u=Value.ref a from r)
  obtain⟨_,its,n,rv,ho⟩:=ok a _ e
  obtain⟨as,ra⟩:=DatasAt.reads ok rs rv
  exact⟨a::as,.list ho rfl rfl (by simpa using ra)⟩
 |_,_,u,.tup (a:=a) e rs,r=>by
  cases (show u=Value.ref a from r)
  obtain⟨_,its,rv,o,ho,hc,n,hd⟩:=ok a _ e
  obtain⟨as,ra⟩:=DatasAt.reads ok rs rv
  exact⟨as,.tuple ho hc hd (by simpa using ra)⟩
theorem DatasAt.reads (ok:HOk P w H h):∀{xs:List V}{ds:List PyData}{us:List Value},DatasAt H xs ds->Vals xs us->∃as,ReadsAll h us ds as
 |_,_,_,.nil,.nil=>⟨[],.nil⟩
 |_,_,_,.cons h1 r1,.cons r rr=>by
  obtain⟨as,ra⟩:=DataAt.reads ok h1 r
  obtain⟨bs,rb⟩:=DatasAt.reads ok r1 rr
  exact⟨as++bs,.cons ra rb⟩
end
mutual
theorem DataAt.same {H':Hp}(s:∀b o,H b=some o->H' b=some o):∀{x:V}{d:PyData},DataAt H x d->DataAt H' x d
 |_,_,.non=>.non
 |_,_,.bl b=>.bl b
 |_,_,.int i=>.int i
 |_,_,.str x=>.str x
 |_,_,.lst e r=>.lst (s _ _ e) (DatasAt.same s r)
 |_,_,.tup e r=>.tup (s _ _ e) (DatasAt.same s r)
theorem DatasAt.same {H':Hp}(s:∀b o,H b=some o->H' b=some o):∀{xs:List V}{ds:List PyData},DatasAt H xs ds->DatasAt H' xs ds
 |_,_,.nil=>.nil
 |_,_,.cons h r=>.cons (DataAt.same s h) (DatasAt.same s r)
end
theorem DatasAt.get:∀{xs:List V}{ds:List PyData}{i:Nat}{x:V},DatasAt H xs ds->xs[i]?=some x->∃d,ds[i]?=some d/\DataAt H x d
 |_,_,_,_,.nil,e=>by simp at e
 |_,_,0,_,.cons h r,e=>by simp at e;subst e;exact⟨_,rfl,h⟩
 |_,_,i+1,x,.cons h r,e=>by
  obtain⟨d,e1,e2⟩:=DatasAt.get (i:=i) (x:=x) r (by simpa using e)
  exact⟨d,by simpa using e1,e2⟩
theorem DatasAt.length:∀{xs:List V}{ds:List PyData},DatasAt H xs ds->xs.length=ds.length
 |_,_,.nil=>rfl
 |_,_,.cons h r=>by rw[List.length_cons,List.length_cons,DatasAt.length r]
theorem DatasAt.ints:∀(ns:List Int),DatasAt H (ns.map V.int) (ns.map PyData.int)
 |[]=>.nil
 |n::ns=>.cons (.int n) (DatasAt.ints ns)
end
section
variable {X:Cx}
theorem op_eqD {k:Nat}(hr:Room k X.A):OpR X (compareOp .Eq) (λx y H Q=>∃d e,DataAt H x d/\DataAt H y e/\d.canLay0=true/\e.canLay0=true/\d.depth<=60/\Q (.bl (PyData.eqv d e)) H):=by
 intro pins s σ H x y v u Q I rx ry h
 obtain⟨d,e,hd,he,c1,c2,dp,q⟩:=h
 obtain⟨as,ra⟩:=hd.reads I.hok rx
 obtain⟨bs,rb⟩:=he.reads I.hok ry
 have un:=hr.units
 exact SeqAt.rcAt_reads ra rb c1 c2 (by lia) X.prog X.w X.xe _ ⟨.bl _,H,I,rfl,q⟩
theorem op_neD {k:Nat}(hr:Room k X.A):OpR X (compareOp .NotEq) (λx y H Q=>∃d e,DataAt H x d/\DataAt H y e/\d.canLay0=true/\e.canLay0=true/\d.depth<=60/\Q (.bl (!PyData.eqv d e)) H):=by
 intro pins s σ H x y v u Q I rx ry h
 obtain⟨d,e,hd,he,c1,c2,dp,q⟩:=h
 obtain⟨as,ra⟩:=hd.reads I.hok rx
 obtain⟨bs,rb⟩:=he.reads I.hok ry
 have un:=hr.units
 exact SeqAt.rcNeAt_reads ra rb c1 c2 (by lia) X.prog X.w X.xe _ ⟨.bl _,H,I,rfl,q⟩
end
theorem eqvAll_ints:∀(a b:List Int),PyData.eqvAll (a.map PyData.int) (b.map PyData.int)=decide (a=b)
 |[],[]=>by simp[PyData.eqvAll]
 |x::a,[]=>by simp[PyData.eqvAll]
 |[],y::b=>by simp[PyData.eqvAll]
 |x::a,y::b=>by
  show (PyData.eqv (.int x) (.int y)&&PyData.eqvAll (a.map PyData.int) (b.map PyData.int))=_
  rw[eqvAll_ints a b,show PyData.eqv (.int x) (.int y)=(x==y) by simp[PyData.eqv]]
  rw[Bool.eq_iff_iff]
  simp
theorem layAll_ints:∀(a:List Int),PyData.canLayAll0 (a.map PyData.int)=true
 |[]=>by simp[PyData.canLayAll0]
 |x::a=>by
  show (PyData.canLay0 (.int x)&&PyData.canLayAll0 (a.map PyData.int))=true
  rw[layAll_ints a]
  simp[PyData.canLay0]
def dT (ns:List Int):PyData:=.tuple (ns.map PyData.int)
def dL (ns:List Int):PyData:=.list (ns.map PyData.int)
theorem dT_lay (ns:List Int):(dT ns).canLay0=true:=by
 show PyData.canLayAll0 (ns.map PyData.int)=true
 exact layAll_ints ns
theorem dL_lay (ns:List Int):(dL ns).canLay0=true:=by
 show PyData.canLayAll0 (ns.map PyData.int)=true
 exact layAll_ints ns
theorem dT_eqv (a b:List Int):PyData.eqv (dT a) (dT b)=decide (a=b):=by
 show PyData.eqvAll _ _=_
 exact eqvAll_ints a b
theorem dL_eqv (a b:List Int):PyData.eqv (dL a) (dL b)=decide (a=b):=by
 show PyData.eqvAll _ _=_
 exact eqvAll_ints a b
end L2
namespace EnumT
open PySem PySem.Spec
section
variable {prog:Program}{w:World}{A:Around}{E:Value->Shared->Prop}{s:Shared}
theorem inner_item {it t:Addr}{i:Nat}{items:Array Value}{x:Value}{Q:Value->Shared->Prop}(st:s.heap.IsTupleIter it t i) (ht:s.heap.IsTuple t items) (hx:items[i]?=some x)
  (q:∀h',h'.IsTupleIter it t (i+1)->Heap.SameBut it s.heap h'->Q x { s with heap:=h' }):wpAny (model prog w) A (Builtin.SmallTypes.nextOf (.ref it)) Q E s:=by
 obtain⟨o,e1,e2,e3⟩:=id st
 obtain⟨ot,f1,_,nt,f2⟩:=ht
 unfold Builtin.SmallTypes.nextOf
 refine wpAny_bind (wpAny_callSpecial?_slot (name:=Str.ofString "__next__") st.typeIs F.slot_tuple_iterator_next (wpAny_call_entry F.slot_tuple_iterator_next st.typeIs F.entry_tuple_iterator_next ?_ (F.args_tuple_iterator_next_1 _)))
 show wpAny _ _ (field (.ref it) 0 >>= _) _ _ s
 refine wpAny_bind (wpAny_field e1 e3 (x:=.ref t) rfl ?_)
 show wpAny _ _ (if (Value.ref t==Value.none)=true then _ else _) _ _ s
 rw[if_neg (show ¬((Value.ref t==Value.none)=true) from Bool.false_ne_true)]
 show wpAny _ _ (field (.ref it) 1 >>= _) _ _ s
 refine wpAny_bind (wpAny_field e1 e3 (x:=.int i 0) rfl ?_)
 show wpAny _ _ (seqItems? (.ref t) >>= _) _ _ s
 refine wpAny_bind (wpAny_seqItems f1 f2 ?_)
 simp only[Int.toNat_natCast,hx]
 refine wpAny_bind (wpAny_setField e1 e3 (by simp) (wpAny_pure ⟨x,rfl,wpAny_pure (q _ ⟨_,Heap.get?_update_self _ e1 (Obj.isFreed_of_fields (Obj.data_mapFields e3 _)),(Obj.cls_mapFields ..).trans e2,?_⟩ (Heap.SameBut.update ..))⟩))
 rw[Obj.data_mapFields e3];simp[rawInt]
theorem inner_end {it t:Addr}{i:Nat}{items:Array Value}{Q:Value->Shared->Prop}(hh:A.handled=none) (st:s.heap.IsTupleIter it t i) (ht:s.heap.IsTuple t items) (hx:items[i]?=none)
  (q:∀h' e,Heap.ExtBut it s.heap h'->(∃o,h'.get? e=some o/\o.cls=.type "StopIteration")->E (.ref e) { s with heap:=h' }):wpAny (model prog w) A (Builtin.SmallTypes.nextOf (.ref it)) Q E s:=by
 obtain⟨o,e1,e2,e3⟩:=id st
 obtain⟨ot,f1,_,nt,f2⟩:=ht
 unfold Builtin.SmallTypes.nextOf
 refine wpAny_bind (wpAny_callSpecial?_slot (name:=Str.ofString "__next__") st.typeIs F.slot_tuple_iterator_next (wpAny_call_entry F.slot_tuple_iterator_next st.typeIs F.entry_tuple_iterator_next ?_ (F.args_tuple_iterator_next_1 _)))
 show wpAny _ _ (field (.ref it) 0 >>= _) _ _ s
 refine wpAny_bind (wpAny_field e1 e3 (x:=.ref t) rfl ?_)
 show wpAny _ _ (if (Value.ref t==Value.none)=true then _ else _) _ _ s
 rw[if_neg (show ¬((Value.ref t==Value.none)=true) from Bool.false_ne_true)]
 show wpAny _ _ (field (.ref it) 1 >>= _) _ _ s
 refine wpAny_bind (wpAny_field e1 e3 (x:=.int i 0) rfl ?_)
 show wpAny _ _ (seqItems? (.ref t) >>= _) _ _ s
 refine wpAny_bind (wpAny_seqItems f1 f2 ?_)
 simp only[Int.toNat_natCast,hx]
 refine wpAny_bind (wpAny_rule (wpAny_bind (wpAny_setField e1 e3 (by simp) ?_)))
 show wpAny _ _ (newExc (.type "StopIteration") [] >>= _) _ _ _
 refine wpAny_bind ?_
 simp only[newExc,newTuple]
 refine wpAny_bind (wpAny_newObj_type ?_ (by size_fits))
 refine wpAny_bind (m:=firstArgMember _ _) (wpAny_of_eq (a:=Value.none) (by first|rfl|(simp only[firstArgMember];rfl)) ?_)
 refine wpAny_newObj_type ?_ (by size_fits)
 simp only[raiseNew]
 refine wpAny_bind (wpAny_handled ?_)
 first|rw[show A.in1.handled=none from hh]|rw[hh]
 refine wpAny_bind (wpAny_pure (wpAny_throw ?_))
 exact q _ _ (((Heap.SameBut.update ..).extBut.push _).push _) ⟨_,Heap.get?_push_size _ rfl,rfl⟩
theorem pair_next {e it:Addr}{i:Nat}{x old:Value}{St:Heap->Prop}{Q:Value->Shared->Prop}(he:IsEnum s.heap e it i old) (hne:e≠it)
  (nx:∀Q':Value->Shared->Prop,(∀h',Heap.SameBut it s.heap h'->St h'->Q' x { s with heap:=h' })->wpAny (model prog w) A (Builtin.SmallTypes.nextOf (.ref it)) Q' E s)
  (q:∀h1 h',Heap.SameBut it s.heap h1->St h1->IsEnumOut h' e it ((i:Int)+1) x s.heap.objs.size->h'.get? s.heap.objs.size=some { cls:=.type "tuple",data:=.seq #[.int i s.toks,x] } ->
   (∀b o,b≠e->h1.get? b=some o->h'.get? b=some o)->Q (.ref s.heap.objs.size) { s with heap:=h',toks:=s.toks+1 }) :
  wpAny (model prog w) A (Builtin.«enumerate.__next__» ⟨[.ref e],[]⟩) (λfin s'=>∃v,fin=.done (.ret v)/\Q v s') E s:=by
 obtain⟨hp,g,d,tk,os⟩:=s
 show wpAny _ _ (field (.ref e) 2 >>= _) _ _ _
 refine wpAny_bind (wpAny_field he rfl (x:=.ref it) rfl ?_)
 refine wpAny_bind (nx _ λh₁ s1 st1=>?_)
 replace s1:Heap.SameBut it hp h₁:=s1
 have he₁:IsEnum h₁ e it i old:=(s1.2 e hne).trans he
 show wpAny _ _ (field (.ref e) 3 >>= _) _ _ ⟨h₁,g,d,tk,os⟩
 refine wpAny_bind (wpAny_field he₁ rfl (x:=rawInt i) rfl ?_)
 show wpAny _ _ (field (.ref e) 4 >>= _) _ _ ⟨h₁,g,d,tk,os⟩
 refine wpAny_bind (wpAny_field he₁ rfl (x:=.none) rfl ?_)
 show wpAny _ _ (mkInt i >>= _) _ _ ⟨h₁,g,d,tk,os⟩
 refine wpAny_bind (wpAny_mkInt ?_)
 show wpAny _ _ (setField (.ref e) 3 (rawInt ((i:Int)+1)) >>= _) _ _ ⟨h₁,g,d,tk+1,os⟩
 refine wpAny_bind (wpAny_setField_rec he₁ (by simp) λh₂ he₂ s2=>?_)
 replace s2:Heap.SameBut e h₁ h₂:=s2
 replace he₂:IsEnum h₂ e it ((i:Int)+1) old:=he₂
 show wpAny _ _ (setField (.ref e) 4 .none >>= _) _ _ ⟨h₂,g,d,tk+1,os⟩
 refine wpAny_bind (wpAny_setField_rec he₂ (by simp) λh₃ he₃ s3=>?_)
 replace s3:Heap.SameBut e h₂ h₃:=s3
 replace he₃:IsEnum h₃ e it ((i:Int)+1) old:=he₃
 show wpAny _ _ (newTuple [.int i tk,x] >>= _) _ _ ⟨h₃,g,d,tk+1,os⟩
 refine wpAny_bind (wpAny_newTuple ?_)
 have z3:h₃.objs.size=hp.objs.size:=by rw[s3.1,s2.1,s1.1]
 have elt:e<hp.objs.size:=Heap.lt_size he
 obtain⟨h₄,e4⟩:∃h₄,h₃.push { cls:=.type "tuple",data:=.seq #[.int i tk,x] }=h₄:=⟨_,rfl⟩
 have he₄:IsEnum h₄ e it ((i:Int)+1) old:=by rw[<- e4];exact Heap.get?_push_of_some _ he₃
 have ht₄:h₄.get? hp.objs.size=some { cls:=.type "tuple",data:=.seq #[.int i tk,x] }:=by rw[<- e4,<- z3];exact Heap.get?_push_size _ rfl
 have k4:∀b o,b≠e->h₁.get? b=some o->h₄.get? b=some o:=λb o hb eb=>by
  rw[<- e4];exact Heap.get?_push_of_some _ (s3.extBut b o hb (s2.extBut b o hb eb))
 rw[e4]
 show wpAny _ _ (Builtin.SmallTypes.ownedTupleIsFree (.ref e) >>= _) _ _ ⟨h₄,g,d,tk+1,os⟩
 rw[z3]
 refine wpAny_bind ?_
 unfold Builtin.SmallTypes.ownedTupleIsFree
 refine wpAny_bind (wpAny_field he₄ rfl (x:=.none) rfl (wpAny_pure ?_))
 simp only[if_true]
 refine wpAny_bind (wpAny_rule ?_)
 refine wpAny_bind (wpAny_field he₄ rfl (x:=old) rfl ?_)
 refine wpAny_bind (wpAny_setField_rec he₄ (by simp) λh₅ he₅ s5=>?_)
 replace s5:Heap.SameBut e h₄ h₅:=s5
 replace he₅:IsEnum h₅ e it ((i:Int)+1) x:=he₅
 show wpAny _ _ (Builtin.SmallTypes.ownedTupleHandOut (.ref e) (.ref hp.objs.size) >>= _) _ _ ⟨h₅,g,d,tk+1,os⟩
 refine wpAny_bind ?_
 unfold Builtin.SmallTypes.ownedTupleHandOut
 refine wpAny_bind (wpAny_setField_rec he₅ (by simp) λh₆ he₆ s6=>?_)
 replace s6:Heap.SameBut e h₅ h₆:=s6
 replace he₆:IsEnumOut h₆ e it ((i:Int)+1) x hp.objs.size:=he₆
 refine wpAny_setField_rec he₆ (by simp) λh₇ he₇ s7=>?_
 replace s7:Heap.SameBut e h₆ h₇:=s7
 replace he₇:IsEnumOut h₇ e it ((i:Int)+1) x hp.objs.size:=he₇
 have k7:∀b o,b≠e->h₄.get? b=some o->h₇.get? b=some o:=λb o hb eb=>s7.extBut b o hb (s6.extBut b o hb (s5.extBut b o hb eb))
 exact wpAny_bind (wpAny_letGo (wpAny_pure ⟨_,rfl,q h₁ h₇ s1 st1 he₇ (k7 _ _ (Nat.ne_of_gt elt) ht₄) λb o hb eb=>k7 b o hb (k4 b o hb eb)⟩))
theorem next_pair {e it t:Addr}{i:Nat}{items:Array Value}{x old:Value}{Q:Option Value->Shared->Prop}(he:IsEnum s.heap e it i old) (hne:e≠it) (st:s.heap.IsTupleIter it t i) (ht:s.heap.IsTuple t items) (hx:items[i]?=some x)
  (q:∀h1 h',Heap.SameBut it s.heap h1->IsEnumOut h' e it ((i:Int)+1) x s.heap.objs.size->h'.IsTupleIter it t (i+1)->h'.get? s.heap.objs.size=some { cls:=.type "tuple",data:=.seq #[.int i s.toks,x] } ->
   (∀b o,b≠e->h1.get? b=some o->h'.get? b=some o)->Q (some (.ref s.heap.objs.size)) { s with heap:=h',toks:=s.toks+1 }):wpAny (model prog w) A (pyNext (.ref e)) Q E s:=by
 have hT:s.TypeIs (.ref e) "enumerate":=⟨_,he,rfl⟩
 unfold pyNext
 refine wpAny_bind (wpAny_attempt (wpAny_callSpecial?_slot (name:=Str.ofString "__next__") hT F.slot_enumerate_next (wpAny_call_entry F.slot_enumerate_next hT F.entry_enumerate_next
  (pair_next (St:=λh=>h.IsTupleIter it t (i+1)) he hne (λQ' q'=>inner_item st ht hx λh' st' sb=>q' h' sb st') λh1 h' sb st1 ho hT' kp=>wpAny_pure (q h1 h' sb ho ?_ hT' kp)) (F.args_enumerate_next_1 _))))
 obtain⟨o,x1,x2⟩:=st1
 exact⟨o,kp it o (Ne.symm hne) x1,x2⟩
theorem next_end {e it t:Addr}{i:Nat}{items:Array Value}{old:Value}{Q:Option Value->Shared->Prop}(hh:A.handled=none) (he:IsEnum s.heap e it i old) (st:s.heap.IsTupleIter it t i) (ht:s.heap.IsTuple t items) (hx:items[i]?=none)
  (q:∀h',Heap.ExtBut it s.heap h'->Q none { s with heap:=h' }):wpAny (model prog w) A (pyNext (.ref e)) Q E s:=by
 have hT:s.TypeIs (.ref e) "enumerate":=⟨_,he,rfl⟩
 unfold pyNext
 refine wpAny_bind (wpAny_attempt (wpAny_callSpecial?_slot (name:=Str.ofString "__next__") hT F.slot_enumerate_next (wpAny_call_entry F.slot_enumerate_next hT F.entry_enumerate_next ?_ (F.args_enumerate_next_1 _))))
 show wpAny _ _ (field (.ref e) 2 >>= _) _ _ _
 refine wpAny_bind (wpAny_field he rfl (x:=.ref it) rfl ?_)
 refine wpAny_bind (inner_end hh st ht hx λh' x eb ⟨o,ho,hc⟩=>?_)
 exact wpAny_bind (wpAny_isInstance (T:= "StopIteration") (b:=true) ⟨o,ho,hc⟩ isSubtype_stop (wpAny_pure (q _ eb)))
theorem meets_new (l:Addr) (items:Array Value) (n:Nat) (dct:Option Addr) (sl:Array (Option Value)) :
  Meets (Builtin.«enumerate.__new__» ⟨[.type "enumerate",.ref l],[]⟩) (λ_ R s=>s.heap.get? l=some { cls:=.type "tuple",dict:=dct,data:=.seq items n,slots:=sl } /\
   R (.ok (.ret (.ref (s.heap.push { cls:=.type "tuple_iterator",data:=.fields #[.ref l,.int 0 0] }).objs.size)))
    { s with heap:=(s.heap.push { cls:=.type "tuple_iterator",data:=.fields #[.ref l,.int 0 0] }).push { cls:=.type "enumerate",data:=.fields #[.none,.bool false,.ref s.heap.objs.size,rawInt 0,.none,.none] } }):=
 .of_wp λprog w A R s h=>by
  obtain⟨hp,g,d,tk,os⟩:=s;obtain⟨hl,h⟩:=h
  have f0:=sub_enumerate
  have hL:Heap.IsTuple (Shared.heap ⟨hp,g,d,tk,os⟩) l items:=⟨_,hl,rfl,n,rfl⟩
  wp_walk using AutoSeq1.wpAny_loadPart' hl
  refine wpAny_stack_any λst=>wpAny_pure ?_
  split
  ·rename_i c _ _ _ _ _
   cases (c==Value.type "enumerate")
   all_goals
    wp_walk using AutoSeq1.wpAny_loadPart' hl,wpAny_pyIter_tuple hL
    exact⟨_,rfl,h⟩
  ·wp_walk using AutoSeq1.wpAny_loadPart' hl,wpAny_pyIter_tuple hL
   exact⟨_,rfl,h⟩
theorem call_new {l:Addr}{items:Array Value}{Q:Value->Shared->Prop}(hL:s.heap.IsTuple l items)
  (q:∀h',IsEnum h' (s.heap.objs.size+1) s.heap.objs.size 0 .none->h'.IsTupleIter s.heap.objs.size l 0->(∀b o,s.heap.get? b=some o->h'.get? b=some o)->Q (.ref (s.heap.objs.size+1)) { s with heap:=h' }) :
  wpAny (model prog w) A (call (.type "enumerate") [.ref l]) Q E s:=by
 obtain⟨⟨c,dct,dt,sl⟩,hl,hc,n,hd⟩:=hL
 replace hc:c=.type "tuple":=hc
 replace hd:dt=.seq items n:=hd
 subst hc hd
 refine callType_new F.called_enumerate (by decide) (F.typeCall_enumerate_1 _) (F.newCall_enumerate_1 _) (λobj=>F.args_object_init_2 obj _) F.entry_enumerate_new (meets_new l items n dct sl) ⟨hl,?_⟩
 have z1:(s.heap.push { cls:=.type "tuple_iterator",data:=.fields #[.ref l,.int 0 0] }).objs.size=s.heap.objs.size+1:=Heap.size_push ..
 show _/\_
 rw[z1]
 have he:=Heap.get?_push_size (s.heap.push { cls:=.type "tuple_iterator",data:=.fields #[.ref l,.int 0 0] }) (o:={ cls:=.type "enumerate",data:=.fields #[.none,.bool false,.ref s.heap.objs.size,rawInt 0,.none,.none] }) rfl
 rw[z1] at he
 exact⟨⟨_,he,rfl⟩,q _ he ⟨_,Heap.get?_push_of_some _ (Heap.get?_push_size _ rfl),rfl,rfl⟩ λb o x=>Heap.get?_push_of_some _ (Heap.get?_push_of_some _ x)⟩
end
end EnumT
namespace L2
open PySem PySem.Spec PyProof.Rows
def Ite (K:PySem.W.Frag) (a:Addr):It:=
 ⟨λi H=>∃xs x,SqT K H a xs/\xs[i]?=some x,λi H y H'=>∃p x,H p=none/\(∀xs,SqT K H a xs->xs[i]?=some x)/\H'=upd H p (.tup [.int i,x])/\y=.ref p,λi H=>∃xs,SqT K H a xs/\xs.length<=i⟩
theorem push_lt {h:Heap}{o o':Obj}{b:Addr}(e:(h.push o).get? b=some o') (hlt:b<h.objs.size):h.get? b=some o':=by
 unfold Heap.get? Heap.push at *
 simp only[Array.getElem?_push] at e
 rw[if_neg (Nat.ne_of_lt hlt)] at e
 exact e
theorem turn_enumT {P:Program}{w:World}{K:PySem.W.Frag}{elts:List Expr}{x1:Nat}{tpos:Pos}(a e it:Addr) (hne:e≠it) :
  Turn P w K (.Tuple elts x1 tpos) (Ite K a) [e,it] e (λi h=>(∃old,IsEnum h e it i old)/\h.IsTupleIter it a i) where
 mem:=by simp
 obj:=λi h st b hb=>by
  rcases List.mem_cons.mp hb with rfl|hb
  ·obtain⟨⟨old,z⟩,_⟩:=st
   exact⟨_,z,λv q=>by
    have q':Data.fields _=Data.cell v:=q
    cases q'⟩
  ·have:b=it:=by simpa using hb
   subst this
   obtain⟨_,o,z,_,d⟩:=st
   exact⟨o,z,λv q=>by rw[d] at q;cases q⟩
 keep:=λi h h' st k=>by
  obtain⟨⟨old,z⟩,st2⟩:=st
  exact⟨⟨old,k e (by simp) _ z⟩,st2.at λo q=>k it (by simp) o q⟩
 item:=by
  intro X hP hw hK hc i pins s σ H E I hf st hg
  subst hP hw hK
  obtain⟨⟨old,he⟩,st2⟩:=st
  obtain⟨xs,x,hq,hx⟩:=hg
  obtain⟨its,rv,p,hz⟩:=I.tuple hq
  obtain⟨u,hu,ru⟩:=rv.get hx
  obtain⟨e0,e1,e2,e3,e4,e5⟩:=hf e (by simp)
  obtain⟨f0,f1,f2,f3,f4,f5⟩:=hf it (by simp)
  refine EnumT.next_pair he hne st2 (show s.heap.IsTuple a its.toArray from p) (x:=u) (by simpa using hu) λh1 h' sb ho st3 ht kp=>?_
  refine⟨_,rfl,wpAny_letOwnedTupleGo_enum ho λh2 he2 sb2=>?_⟩
  have elt:e<s.heap.objs.size:=Heap.lt_size he
  have ilt:it<s.heap.objs.size:=by obtain⟨o,z,_⟩:=st2;exact Heap.lt_size z
  have fresh:H s.heap.objs.size=none:=I.hok.fresh (Nat.le_refl _)
  have z1:h1.objs.size=s.heap.objs.size:=sb.1
  have J0:Inv X pins σ (upd H s.heap.objs.size (.tup [.int i,x])) { s with heap:=s.heap.push { cls:=.type "tuple",data:=.seq #[.int i s.toks,u] },toks:=s.toks+1 }:=
   I.laid (λb o q=>Heap.get?_push_of_some _ q) (Nat.le_refl _) ⟨by show 2<=sizeLine;decide,[.int i s.toks,u],.cons ⟨_,rfl⟩ (.cons ru .nil),_,Heap.get?_push_size _ rfl,rfl,⟨_,rfl⟩,rfl⟩
  have ne1:(upd H s.heap.objs.size (.tup [.int i,x])) it=none:=by rw[upd_ne (Nat.ne_of_lt ilt)];exact f0
  have ne2:(upd H s.heap.objs.size (.tup [.int i,x])) e=none:=by rw[upd_ne (Nat.ne_of_lt elt)];exact e0
  have J1:=J0.turned (it:=it) (h':=h1.push { cls:=.type "tuple",data:=.seq #[.int i s.toks,u] }) (t':=s.toks+1) (λb o hb q=>by
    have q:(s.heap.push { cls:=.type "tuple",data:=.seq #[.int i s.toks,u] }).get? b=some o:=q
    by_cases hlt:b<s.heap.objs.size
    ·have q':s.heap.get? b=some o:=push_lt q hlt
     exact Heap.get?_push_of_some _ ((sb.2 b hb).trans q')
    ·have hb2:b<s.heap.objs.size+1:=by have:=Heap.lt_size q;rw[Heap.size_push] at this;exact this
     have eb:b=s.heap.objs.size:=Nat.le_antisymm (Nat.le_of_lt_succ hb2) (Nat.le_of_not_lt hlt)
     subst eb
     rw[Heap.get?_push_size _ rfl] at q
     cases q
     have:=Heap.get?_push_size h1 (o:={ cls:=.type "tuple",data:=.seq #[.int i s.toks,u] }) rfl
     rw[z1] at this
     exact this) ne1 f1 f3 f4 f5
  have J2:=J1.turned (it:=e) (h':=h') (t':=s.toks+1) (λb o hb q=>by
    have q:(h1.push { cls:=.type "tuple",data:=.seq #[.int i s.toks,u] }).get? b=some o:=q
    by_cases hlt:b<s.heap.objs.size
    ·have q':h1.get? b=some o:=push_lt q (by rw[z1];exact hlt)
     exact kp b o hb q'
    ·have hb2:b<s.heap.objs.size+1:=by have:=Heap.lt_size q;rw[Heap.size_push,z1] at this;exact this
     have eb:b=s.heap.objs.size:=Nat.le_antisymm (Nat.le_of_lt_succ hb2) (Nat.le_of_not_lt hlt)
     subst eb
     have:=Heap.get?_push_size h1 (o:={ cls:=.type "tuple",data:=.seq #[.int i s.toks,u] }) rfl
     rw[z1] at this
     rw[this] at q
     cases q
     exact ht) ne2 e1 e3 e4 e5
  have J3:=J2.turned (it:=e) (h':=h2) (t':=s.toks+1) (λb o hb q=>(sb2.2 b hb).trans q) ne2 e1 e3 e4 e5
  refine⟨.ref s.heap.objs.size,_,J3,rfl,⟨_,x,fresh,λys hy=>by rw[I.tuple_inj hy hq];exact hx,rfl,rfl⟩,⟨⟨u,by
   have:(((i+1:Nat)):Int)=(i:Int)+1:=by lia
   rw[this];exact he2⟩,st3.at λo q=>(sb2.2 it (Ne.symm hne)).trans q⟩,λb hb=>?_⟩
  rcases List.mem_cons.mp hb with rfl|hb
  ·exact ne2
  ·have:b=it:=by simpa using hb
   subst this
   exact ne1
 done:=by
  intro X hP hw hK hc i pins s σ H E I hf st hg
  subst hP hw hK
  obtain⟨⟨old,he⟩,st2⟩:=st
  obtain⟨xs,hq,hx⟩:=hg
  obtain⟨its,rv,p,hz⟩:=I.tuple hq
  obtain⟨f0,f1,f2,f3,f4,f5⟩:=hf it (by simp)
  have hl:=rv.length
  exact EnumT.next_end (I.ok.hd hc) he st2 (show s.heap.IsTuple a its.toArray from p) (by simp;lia) λh' eb=>⟨rfl,I.turned (t':=s.toks) (λb o hb e=>eb b o hb e) f0 f1 f3 f4 f5⟩
 self:=λ_ _ _ _ _ st h=>by
  obtain⟨⟨old,he⟩,_⟩:=st
  exact wpAny_pyIter_enum he h
section
variable {X:Cx}{elts:List Expr}{x1:Nat}{tpos:Pos}
def iEnumT (K:PySem.W.Frag) (ta:TA):TI:=λσ H R=>ta σ H λvs H1=>∃a,vs=[.ref a]/\(∃xs,SqT K H1 a xs)/\R (Ite K a) H1
theorem pi_enumT {e:Expr}{ta:TA}{p pos:Pos}(hg:Gl X "enumerate") (hm:X.mg "enumerate" = none) (ha:PA X [e] ta) (hs:starEach [e] X.env=[(false,eval e X.env)]:=by rfl):PI X (.Tuple elts x1 tpos) (.Call (.Name "enumerate" p) [e] [] pos) (iEnumT X.K ta):=by
 intro pins s σ H R I h
 refine Call_ (ld_blt I hg hm PyProof.Rows.boot_enumerate (PyProof.Rows.callWith_type1 (thn (ha pos pins s σ H _ I h) λus s1 ⟨vs,H1,I1,r1,q1⟩=>?_) hs rfl))
 obtain⟨a,rfl,⟨xs,hq⟩,q⟩:=q1
 obtain⟨u,rfl,ru⟩:=vals1 r1
 cases ru
 obtain⟨its,rv,pt,hz⟩:=I1.tuple hq
 refine EnumT.call_new (show s1.heap.IsTuple a its.toArray from pt) λh' he st kp=>?_
 refine wpAny_pyIter_enum he ?_
 have J:Inv X pins σ H1 { s1 with heap:=h' }:=I1.kept (t':=s1.toks) kp
 refine⟨s1.heap.objs.size+1,[s1.heap.objs.size+1,s1.heap.objs.size],_,_,H1,rfl,J,turn_enumT a _ _ (Nat.succ_ne_self _),⟨⟨.none,he⟩,st⟩,λb hb=>?_,q⟩
 rcases List.mem_cons.mp hb with rfl|hb
 ·exact I1.fpOk (Nat.le_succ _) (I1.hok.fresh (Nat.le_succ _))
 ·have:b=s1.heap.objs.size:=by simpa using hb
  subst this
  exact I1.fpOk (Nat.le_refl _) (I1.hok.fresh (Nat.le_refl _))
end
end L2
namespace L2
open PySem PySem.Spec PyProof.Rows
section
variable {X:Cx}
def compCxG (X:Cx) (scope:Scope) (cl:List (Str×Addr)) (C:Addr) (ns:List Str) (fp:List Addr) (s₀:Shared) (H₀:Hp):Cx:=
 { X with N:=ns++X.N,s₀:=s₀,H₀:=H₀,env:=compEnvC scope cl C X.env,outer:=X.stack,stack:=X.stack,ex:=fp,fn:=λ_=>false,pn:=[],xe:=λ_ _=>False }
def tCompG (n:Nat) (wi:TI) (g:TG) (tt:TT) (te:TE):TE:=λσ H Q=>wi σ H λJ H1=>∀D,H1 D=none->∃W:Nat->Nat->List V->Hp->Prop,(∃m,W 0 m [] (upd H1 D (.lst []))) /\
 ∀i m xs H2,W i m xs H2->H2 D=some (.lst xs)/\xs.length<sizeLine/\((J.stop i H2/\Q (.ref D) H2)\/(J.go i H2/\∀y H3,J.yld i H2 y H3->∀os:St,os.length=n ->
  g y (os++σ) H3 λσ4 H4=>tt σ4 H4 λb H5=>if b=true then te σ4 H5 λv H6=>H6 D=some (.lst xs)/\∃m',m'<m/\W (i+1) m' (xs++[v]) (upd H6 D (.lst (xs++[v]))) else ∃m',m'<m/\W (i+1) m' xs H5))
theorem compLoopG {prog:Program}{w:World}{A:Around}{R:Result->Shared->Prop}{s:Shared}{elt target iter:Expr}{ifs:List Expr}{scope:Scope}{pos:Pos}{it acc:Value}{env:Env}(T:Sem Bool)
  (hT:compTurn (.ListComp elt [⟨target,iter,ifs,0⟩] scope pos) 0 it acc env=(standAt iter.pos >>= λ_=>pyNext it >>= λr=>match r with
   |none=>pure (.done .next)
   |some v=>letOwnedTupleGo target it v >>= λ_=>assign target env v >>= λ_=>T >>= λok=>(if ok=true then (eval elt env >>= λx=>call (.builtin "list.append") [acc,x] >>= λ_=>pure ()) else pure ()) >>= λ_=>
     again (.compLoop (.ListComp elt [⟨target,iter,ifs,0⟩] scope pos) 0 it acc env)))
  (I:Nat->Shared->Prop)
  (turn:∀n s,I n s->wpAny (model prog w) A (pyNext it) (λr s₁=>match r with
   |none=>R (.ok .next) s₁
   |some v=>wpAny (model prog w) A (letOwnedTupleGo target it v) (λ_ s₁'=>wpAny (model prog w) A (assign target env v) (λ_ s₂=>wpAny (model prog w) A T (λok s₃=>
     if ok=true then wpAny (model prog w) A (eval elt env) (λx s₄=>wpAny (model prog w) A (call (.builtin "list.append") [acc,x]) (λ_ s₅=>∃m,m<n/\I m s₅) (λ_ _=>False) s₄) (λ_ _=>False) s₃
     else ∃m,m<n/\I m s₃) (λ_ _=>False) s₂) (λ_ _=>False) s₁') (λ_ _=>False) s₁) (λ_ _=>False) s)
  (n:Nat) (h:I n s):codeAny (model prog w) A (.compLoop (.ListComp elt [⟨target,iter,ifs,0⟩] scope pos) 0 it acc env) R s:=by
 refine codeAny_loop rfl I (λn s hI=>?_) n h
 show wpAny _ A ((compTurn (.ListComp elt [⟨target,iter,ifs,0⟩] scope pos) 0 it acc env).onRaise (λx=>do noteFrame x env;theTreesLotGoes x)) _ _ s
 refine wpAny_noted ?_
 rw[hT]
 refine wpAny_bind (wpAny_standAt (wpAny_bind (wpAny_mono (turn n s hI) (λr s₁ h₁=>?_) λ_ _ h'=>h'.elim)))
 cases r with
 |none=>exact wpAny_pure h₁
 |some v=>
  refine wpAny_bind (wpAny_mono h₁ (λ_ s₁' h₁'=>?_) λ_ _ h'=>h'.elim)
  refine wpAny_bind (wpAny_mono h₁' (λ_ s₂ h₂=>wpAny_bind (wpAny_mono h₂ (λok s₃ h₃=>?_) λ_ _ h'=>h'.elim)) λ_ _ h'=>h'.elim)
  cases ok with
  |true=>
   rw[if_pos rfl] at h₃
   simp only[if_true]
   exact wpAny_bind (wpAny_bind (wpAny_mono h₃ (λx s₄ h₄=>wpAny_bind (wpAny_mono h₄ (λ_ s₅ h₅=>wpAny_pure (wpAny_pure ⟨rfl,h₅⟩)) λ_ _ h'=>h'.elim)) λ_ _ h'=>h'.elim))
  |false=>
   rw[if_neg Bool.false_ne_true] at h₃
   simp only[Bool.false_eq_true,if_false]
   exact wpAny_bind (wpAny_pure (wpAny_pure ⟨rfl,h₃⟩))
theorem turn_no (elt target iter:Expr) (scope:Scope) (pos:Pos) (it acc:Value) (env:Env):compTurn (.ListComp elt [⟨target,iter,[],0⟩] scope pos) 0 it acc env=(standAt iter.pos >>= λ_=>pyNext it >>= λr=>match r with
   |none=>pure (.done .next)
   |some v=>letOwnedTupleGo target it v >>= λ_=>assign target env v >>= λ_=>(pure true:Sem Bool) >>= λok=>(if ok=true then (eval elt env >>= λx=>call (.builtin "list.append") [acc,x] >>= λ_=>pure ()) else pure ()) >>= λ_=>
     again (.compLoop (.ListComp elt [⟨target,iter,[],0⟩] scope pos) 0 it acc env)):=by
 rw[compTurn_list1]
 congr 1
theorem turn_one (elt target iter c:Expr) (scope:Scope) (pos:Pos) (it acc:Value) (env:Env):compTurn (.ListComp elt [⟨target,iter,[c],0⟩] scope pos) 0 it acc env=(standAt iter.pos >>= λ_=>pyNext it >>= λr=>match r with
   |none=>pure (.done .next)
   |some v=>letOwnedTupleGo target it v >>= λ_=>assign target env v >>= λ_=>isTrue c env (eval c env) >>= λok=>(if ok=true then (eval elt env >>= λx=>call (.builtin "list.append") [acc,x] >>= λ_=>pure ()) else pure ()) >>= λ_=>
     again (.compLoop (.ListComp elt [⟨target,iter,[c],0⟩] scope pos) 0 it acc env)):=by
 rw[compTurn_list]
 refine bind_congr λ_=>bind_congr λr=>?_
 cases r with
 |none=>rfl
 |some v=>
  refine bind_congr λ_=>bind_congr λ_=>?_
  simp only[List.forIn_cons,List.forIn_nil,if_true,bind_assoc,pure_bind]
  refine bind_congr λok=>?_
  cases ok<;>simp
theorem compG_start {pins:List (Addr×Obj)}{σ:St}{H:Hp}{s:Shared}{h':Heap}{tk:Nat}{scope:Scope}{cl:List (Str×Addr)}{C:Addr}{nn:List Str}{fp:List Addr}{m:Str->Option Value}
  (I:Inv X pins σ H s) (hC:C=s.heap.objs.size) (keep:∀b o,s.heap.get? b=some o->h'.get? b=some o) (ns:h'.Ns C m) (hfp:∀b∈fp,FpOk X pins H b) (hfs:∀b∈fp,b<s.heap.objs.size)
  (hkind:scope.kind=.function) (hcell:∀y∈scope.names,y.2≠.cell) (hloc:∀y∈X.N,scope.names.lookup y≠some .local)
  (hcl1:∀y c,cl.lookup y=some c->X.env.cells.lookup y=some c) (hcl2:∀p∈scope.names,p.2=.free->(cl.lookup p.1).isSome=true)
  (hfr:∀p∈scope.names,p.2=.free->Vis X.env.scope p.1/\X.env.scope.names.lookup p.1≠some .local) :
  Inv (compCxG X scope cl C nn fp s H) [] ((nn.map λ_=>none)++σ) H { s with heap:=h',toks:=tk }:=by
 have cells:∀y c,cl.lookup y=some c->∃v,s.heap.IsCell c v:=λy c e=>I.cell y c (hcl1 y c e)
 have celllt:∀y c,cl.lookup y=some c->c<s.heap.objs.size:=λy c e=>by
  obtain⟨v,q⟩:=cells y c e
  exact q.lt
 have cellk:∀c v,s.heap.IsCell c v->h'.IsCell c v:=λc v ⟨o,e,d⟩=>⟨o,keep c o e,d⟩
 have stkl:∀b∈frs X.stack,∃o,s.heap.get? b=some o:=λb hb=>by
  rcases List.mem_cons.mp (I.stkSub b hb) with e|hb
  ·obtain⟨_,⟨o,_,_,ho,_⟩,_⟩:=I.loc
   exact⟨o,by rw[e];exact ho⟩
  ·obtain⟨_,o,ho,_⟩:=I.funs.mem hb
   exact⟨o,ho⟩
 refine⟨⟨I.ok.mod,hkind,I.ok.glob,I.ok.blt,Nat.le_of_eq hC.symm,λy z c h1 h2=>I.ok.inj y z c (hcl1 y c h1) (hcl1 z c h2),λy hy=>?_,λy c h _=>Bool.noConfusion h,I.ok.hd,I.ok.frames,.inl rfl,λb hb=>⟨?_,λy c e z=>?_⟩,I.bs,
  Nat.le_trans I.ok.bsz I.sz,λb o e hb=>?_,λb hb hf=>?_,I.stack,I.stkFree⟩,rfl,I.bare,Un.kept keep,⟨m,ns,λi y v h1 h2 h3=>?_⟩,λy c e=>?_,?_,λy c e=>?_,λp hp=>absurd hp (by simp[compCxG]),I.hok.kept keep,?_⟩
 ·
  have hy:(relabel scope X.env).names.lookup y=some .cell\/(relabel scope X.env).names.lookup y=some .free:=hy
  obtain⟨p,hp,e1,e2⟩:∃p∈scope.names,p.1=y/\p.2=.free:=by
   rcases hy with hy|hy
   ·exact relabel_vis hy hcell (.inl rfl)
   ·exact relabel_vis hy hcell (.inr rfl)
  obtain⟨c,e⟩:=Option.isSome_iff_exists.mp (hcl2 p hp e2)
  exact⟨c,by rw[<- e1];exact e⟩
 ·show b≠C
  rw[hC];exact Nat.ne_of_lt (hfs b hb)
 ·exact (hfp b hb).2.2.2.2.1 y c (hcl1 y c e) z
 ·rcases (hfp b hb).2.2.2.1 with z|z
  ·exact I.ok.noex b o e z
  ·exact absurd (Nat.lt_of_lt_of_le (Heap.lt_size (I.ok.bs b o e).1) z) (Nat.lt_irrefl _)
 ·rcases List.mem_cons.mp (I.stkSub b hf) with z|z
  ·exact (hfp b hb).2.1 z
  ·exact (hfp b hb).2.2.1 z
 ·
  by_cases hin:i<nn.length
  ·rw[List.getElem?_append_left (by simpa using hin)] at h2
   simp at h2
  ·obtain⟨j,rfl⟩:∃j,i=nn.length+j:=⟨i-nn.length,by lia⟩
   have h1:X.N[j]?=some y:=by
    have h1:(nn++X.N)[nn.length+j]?=some y:=h1
    rw[List.getElem?_append_right (Nat.le_add_right _ _),Nat.add_sub_cancel_left] at h1
    exact h1
   have h2:σ[j]?=some (some v):=by
    rw[List.getElem?_append_right (by simp)] at h2
    simpa using h2
   have h3:(relabel scope X.env).names.lookup y=some .local\/(relabel scope X.env).names.lookup y=some .cell\/(relabel scope X.env).names.lookup y=some .free:=h3
   rcases h3 with h3|h3
   ·exact absurd (relabel_local h3) (hloc y (List.mem_of_getElem? h1))
   ·obtain⟨p,hp,e1,e2⟩:∃p∈scope.names,p.1=y/\p.2=.free:=by
     rcases h3 with h3|h3
     ·exact relabel_vis h3 hcell (.inl rfl)
     ·exact relabel_vis h3 hcell (.inr rfl)
    obtain⟨hv,hnl⟩:=hfr p hp e2
    rw[e1] at hv hnl
    obtain⟨m0,_,hl0⟩:=I.loc
    obtain⟨u,ru,lk⟩:=hl0 j y v h1 h2 hv
    rcases lk with ⟨lk,_⟩|⟨_,c,hc,hcv⟩
    ·exact absurd lk hnl
    ·obtain⟨c',e'⟩:=Option.isSome_iff_exists.mp (hcl2 p hp e2)
     rw[e1] at e'
     have:=hcl1 y c' e'
     rw[hc] at this
     cases this
     refine⟨u,ru,.inr ⟨h3,c,e',cellk c _ hcv⟩⟩
 ·obtain⟨v,q⟩:=cells y c e
  exact⟨v,cellk c v q⟩
 ·show H C=none
  exact I.hok.fresh (Nat.le_of_eq hC.symm)
 ·exact I.freeC y c (hcl1 y c e)
 ·show ((nn.map λ_=>none)++σ).length=(nn++X.N).length
  simp[I.len]
theorem compG_end {pins:List (Addr×Obj)}{σ σ':St}{H H':Hp}{s s':Shared}{h':Heap}{scope:Scope}{cl:List (Str×Addr)}{C:Addr}{nn:List Str}{fp:List Addr}
  (I:Inv X pins σ H s) (hC:C=s.heap.objs.size) (hfp:∀b∈fp,FpOk X pins H b) (J:Inv (compCxG X scope cl C nn fp s H) [] σ' H' s') (sb:Heap.SameBut C s'.heap h'):Inv X pins σ H' { s' with heap:=h' }:=by
 have ne:∀b o,s.heap.get? b=some o->b≠C:=λb o e=>by rw[hC];exact Nat.ne_of_lt (Heap.lt_size e)
 have B:Un (frs X.stack) fp H H' s.heap s'.heap:=J.base
 have U:Un (frs X.stack) fp H H' s.heap h':=
  ⟨λb o e n hb hx=>(sb.2 b (ne b o e)).trans (B.keep b o e n hb hx),λb o e n hb hx=>by
   obtain⟨sl,q⟩:=B.slot b o e n hb hx
   exact⟨sl,(sb.2 b (ne b o e)).trans q⟩,B.free,λb o e hx=>by
   obtain⟨o',q⟩:=B.there b o e hx
   exact⟨o',(sb.2 b (ne b o e)).trans q⟩,B.tups,B.frzs,B.tbls⟩
 have hf:H' C=none:=J.free
 have K:HOk X.prog X.w H' h':=λb o e=>(J.hok b o e).stay (λc u hc q=>(sb.2 c (by
  rintro rfl
  rcases hc with z|z
  ·rw[z,e] at hf;cases hf
  ·rw[hf] at z;cases z)).trans q) (λ_ q=>q) λ_ _ q=>q
 refine I.call' (s':={ s' with heap:=h' }) (ch:=fp) J.os U K J.bare λb hb=>?_
 obtain⟨_,h2,_,h4,h5,h6⟩:=hfp b hb
 exact⟨h4,h2,h5,h6⟩
end
end L2
namespace L2
open PySem PySem.Spec PyProof.Rows
section
variable {X:Cx}
theorem pe_compG {nn:List Str}{tg:Expr}{ifs:List Expr}{pos:Pos}{elt iter:Expr}{scope:Scope}{wi:TI}{g:TG}{tt:TT}{te:TE}(T:Env->Sem Bool) (hc:X.calm=true) (hi:PI X tg iter wi)
  (hturn:∀it acc env,compTurn (.ListComp elt [⟨tg,iter,ifs,0⟩] scope pos) 0 it acc env=(standAt iter.pos >>= λ_=>pyNext it >>= λr=>match r with
   |none=>pure (.done .next)
   |some v=>letOwnedTupleGo tg it v >>= λ_=>assign tg env v >>= λ_=>T env >>= λok=>(if ok=true then (eval elt env >>= λx=>call (.builtin "list.append") [acc,x] >>= λ_=>pure ()) else pure ()) >>= λ_=>
     again (.compLoop (.ListComp elt [⟨tg,iter,ifs,0⟩] scope pos) 0 it acc env)))
  (hgt:∀cl C fp s₀ H₀,PG (compCxG X scope cl C nn fp s₀ H₀) tg g)
  (hloc2:∀y (os σ:St) H R,os.length=nn.length->g y (os++σ) H R->g y (os++σ) H λσ' H'=>(∃os':St,os'.length=nn.length/\σ'=os'++σ)/\R σ' H')
  (htt:∀cl C fp s₀ H₀ (pins:List (Addr×Obj)) (s:Shared) (σ:St) (H:Hp) (Q:Bool->Hp->Prop),Inv (compCxG X scope cl C nn fp s₀ H₀) pins σ H s->tt σ H Q->wpAny (model X.prog X.w) X.A (T (compEnvC scope cl C X.env)) (TP (compCxG X scope cl C nn fp s₀ H₀) pins σ Q) (λ_ _=>False) s)
  (he:∀cl C fp s₀ H₀,PE (compCxG X scope cl C nn fp s₀ H₀) elt te)
  (hkind:scope.kind=.function) (hcell:∀y∈scope.names,y.2≠.cell) (hnames:∀y∈scope.names,y.2=.local->scope.names.lookup y.1=some .local)
  (hloc:∀y∈X.N,scope.names.lookup y≠some .local) (hfr:∀p∈scope.names,p.2=.free->Vis X.env.scope p.1/\X.env.scope.names.lookup p.1≠some .local)
  (hs:∀x,foldedSetIterable iter X.env x=pure x):PE X (.ListComp elt [⟨tg,iter,ifs,0⟩] scope pos) (tCompG nn.length wi g tt te):=by
 intro pins s σ H Q I h
 rw[eval_ListComp]
 obtain⟨cl,hclos,hcl1,hcl2⟩:=closureFor_some (scope:=scope) (env:=X.env) (λp hp hk=>by
  obtain⟨hv,hn⟩:=hfr p hp hk
  refine I.ok.has p.1 ?_
  rcases hv with z|z
  ·exact absurd z hn
  ·exact z)
 refine wpAny_comprehension_free (use:=none) rfl hs hclos hkind hnames (thn (hi pins s σ H _ I h) λv s1 h1=>thn h1 λitv s2 h2=>?_)
 obtain⟨it,fp,tn,J,H2,rfl,I2,T',st2,f2,q⟩:=h2
 have hD:H2 s2.heap.objs.size=none:=I2.hok.fresh (Nat.le_refl _)
 obtain⟨W,⟨m0,w0⟩,turn⟩:=q _ hD
 refine wpAny_newObj_type (wpAny_newFunctionEnv hcell (by intro y hy;simp at hy) (λh₁ hns₁ hsb₁=>?_) hkind)
 dsimp only at hns₁ hsb₁ ⊢
 have I3:Inv X pins σ (upd H2 s2.heap.objs.size (.lst [])) { s2 with heap:=s2.heap.push { cls:=.type "list",dict:=none,data:=.seq ([]:List Value).toArray } }:=
  I2.laid (t':=s2.toks) (λb u e=>Heap.get?_push_of_some _ e) (Nat.le_refl _) ⟨Nat.zero_le _,[],0,.nil,Heap.get?_push_size _ rfl⟩
 have fpn:∀b∈fp,b≠s2.heap.objs.size:=λb hb=>by
  obtain⟨o,e,_⟩:=T'.obj 0 s2.heap st2 b hb
  exact Nat.ne_of_lt (Heap.lt_size e)
 have fplt:∀b∈fp,b<(s2.heap.push { cls:=.type "list",dict:=none,data:=.seq ([]:List Value).toArray }).objs.size:=λb hb=>by
  obtain⟨o,e,_⟩:=T'.obj 0 s2.heap st2 b hb
  rw[Heap.size_push];exact Nat.lt_succ_of_lt (Heap.lt_size e)
 have f3:∀b∈fp,FpOk X pins (upd H2 s2.heap.objs.size (.lst [])) b:=λb hb=>⟨by rw[upd_ne (fpn b hb)];exact (f2 b hb).1,(f2 b hb).2⟩
 generalize hg2:s2.heap.push { cls:=.type "list",dict:=none,data:=.seq ([]:List Value).toArray }=g2 at hns₁ hsb₁ I3 fplt ⊢
 have keep:∀b o,g2.get? b=some o->h₁.get? b=some o:=λb o e=>(hsb₁.2 b (Nat.ne_of_lt (Heap.lt_size e))).trans (Heap.get?_push_of_some _ e)
 have J0:=compG_start (nn:=nn) (tk:=s2.toks+([]:List (Str×Value)).length) I3 (C:=g2.objs.size) rfl keep hns₁ f3 fplt hkind hcell hloc hcl1 hcl2 hfr
 generalize hY:compCxG X scope cl g2.objs.size nn fp { s2 with heap:=g2 } (upd H2 s2.heap.objs.size (.lst []))=Y at J0
 have eY:PE Y elt te:=by rw[<- hY];exact he _ _ _ _ _
 have eG:PG Y tg g:=by rw[<- hY];exact hgt _ _ _ _ _
 have eT:∀(pins:List (Addr×Obj)) (s:Shared) (σ:St) (H:Hp) (Q:Bool->Hp->Prop),Inv Y pins σ H s->tt σ H Q->wpAny (model Y.prog Y.w) Y.A (T Y.env) (TP Y pins σ Q) Y.xe s:=by rw[<- hY];exact htt _ _ _ _ _
 have eP:Y.prog=X.prog:=by rw[<- hY];rfl
 have eW:Y.w=X.w:=by rw[<- hY];rfl
 have eK:Y.K=X.K:=by rw[<- hY];rfl
 have eA:Y.A=X.A:=by rw[<- hY];rfl
 have eC:Y.calm=true:=by rw[<- hY];exact hc
 have eE:Y.env=compEnvC scope cl g2.objs.size X.env:=by rw[<- hY];rfl
 have eX:Y.xe=λ_ _=>False:=by rw[<- hY];rfl
 have eN:Y.N=nn++X.N:=by rw[<- hY];rfl
 have eEx:Y.ex=fp:=by rw[<- hY];rfl
 have eFs:Y.fs=frs X.stack:=by rw[<- hY];rfl
 have ePn:Y.pn=[]:=by rw[<- hY];rfl
 have fpY:∀{H':Hp},(∀b∈fp,H' b=none)->∀b∈fp,FpOk Y [] H' b:=λhn b hb=>by
  have g:=f3 b hb
  refine⟨hn b hb,?_,?_,.inl (by rw[eEx];exact hb),?_,λp hp=>absurd hp (by rw[ePn];simp)⟩
  ·rw[eE];exact Nat.ne_of_lt (fplt b hb)
  ·rw[eFs]
   intro z
   rcases List.mem_cons.mp (I3.stkSub b z) with z|z
   ·exact g.2.1 z
   ·exact g.2.2.1 z
  ·rw[eE]
   exact λy c e=>g.2.2.2.2.1 y c (hcl1 y c e)
 have loop:∀s₃:Shared,s₃={ s2 with heap:=h₁,toks:=s2.toks+([]:List (Str×Value)).length } ->
   codeAny (model X.prog X.w) X.A (.compLoop (.ListComp elt [⟨tg,iter,ifs,0⟩] scope pos) 0 (.ref it) (.ref s2.heap.objs.size) (compEnvC scope cl g2.objs.size X.env))
    (compPost (model X.prog X.w) X.A X.xe none (EP X pins σ Q) (.ref s2.heap.objs.size) g2.objs.size) s₃:=by
  rintro s₃ rfl
  refine compLoopG (T (compEnvC scope cl g2.objs.size X.env)) (hturn _ _ _) (λn s'=>∃i xs H' os,os.length=nn.length/\Inv Y [] (os++σ) H' s'/\tn i s'.heap/\(∀b∈fp,H' b=none)/\W i n xs H') ?_ m0
   ⟨0,[],_,nn.map λ_=>none,by simp,J0,T'.keep 0 _ _ st2 (λb hb o e=>keep b o (by rw[<- hg2];exact Heap.get?_push_of_some _ e)),λb hb=>(f3 b hb).1,w0⟩
  rintro n s3 ⟨i,xs,H3,os,hos,I4,st3,fr3,w3⟩
  obtain⟨hDx,hlx,alt⟩:=turn i n xs H3 w3
  rcases alt with ⟨stop,qn⟩|⟨go,step⟩
  ·have D1:=T'.done Y eP eW eK eC i [] s3 _ H3 (λ_ _=>False) I4 (fpY fr3) st3 stop
   rw[eA] at D1
   refine thn D1 λr s4 ⟨hr,I5⟩=>?_
   subst hr
   obtain⟨m4,hns4,_⟩:=id I5.loc
   rw[eE] at hns4
   refine⟨m4,hns4,λh' sb=>⟨.ref _,H3,?_,rfl,qn⟩⟩
   rw[<- hY] at I5
   exact compG_end I3 rfl f3 I5 sb
  ·have G1:=T'.item Y eP eW eK eC i [] s3 _ H3 (λ_ _=>False) I4 (fpY fr3) st3 go
   rw[eA] at G1
   refine thn G1 λr s4 ⟨u,hr,h4⟩=>?_
   subst hr
   refine thn h4 λ_ s5 ⟨y,H5,I5,r5,y5,st5,fr5⟩=>?_
   have I5':=I5.pinned (fpY fr5) (T'.obj _ _ st5)
   have S1:=eG _ s5 _ H5 y u _ I5' r5 (hloc2 y os σ H5 _ hos (step y _ y5 os hos))
   rw[eP,eW,eA,eE,eX] at S1
   refine thn S1 λ_ s6 ⟨σ6,H6,I6,⟨os6,hos6,e6⟩,q6⟩=>?_
   subst e6
   have S2:=eT _ s6 _ _ _ I6 q6
   rw[eP,eW,eA,eE,eX] at S2
   refine thn S2 λok s7 ⟨H7,I7,q7⟩=>?_
   have back:∀{s9:Shared}{H9:Hp}{m':Nat}{zs:List V},Inv Y ([]++pinsAt fp s5.heap) (os6++σ) H9 s9->m'<n->W (i+1) m' zs H9->∃m,m<n/\∃i xs H' os,os.length=nn.length/\Inv Y [] (os++σ) H' s9/\tn i s9.heap/\(∀b∈fp,H' b=none)/\W i m xs H':=λ{s9 H9 m' zs} I9 hm' w9=>by
    have pin:∀b∈fp,∀ob,s5.heap.get? b=some ob->s9.heap.get? b=some ob/\H9 b=none:=λb hb ob e=>by
     have z:=I9.pin (b,ob) (List.mem_append_right _ (List.mem_append_right _ (mem_pinsAt hb e)))
     exact⟨z.1,z.2.1⟩
    refine⟨m',hm',i+1,zs,H9,os6,hos6,I9.unpinned,T'.keep _ _ _ st5 (λb hb ob e=>(pin b hb ob e).1),λb hb=>?_,w9⟩
    obtain⟨ob,e,_⟩:=T'.obj _ _ st5 b hb
    exact (pin b hb ob e).2
   cases ok with
   |true=>
    rw[if_pos rfl] at q7
    rw[if_pos rfl]
    have S3:=eY _ s7 _ _ _ I7 q7
    rw[eP,eW,eA,eE,eX] at S3
    refine thn S3 λxv s8 ⟨v8,H8,I8,r8,hD8,m',hm',w8⟩=>?_
    have S4:=mt_append (X:=Y) _ s8 _ H8 (.ref s2.heap.objs.size) [v8] (.ref s2.heap.objs.size) [xv] (λ_ H9=>H9=upd H8 s2.heap.objs.size (.lst (xs++[v8]))) I8 rfl (.cons r8 .nil) ⟨_,xs,v8,rfl,rfl,hD8,hlx,rfl⟩
    rw[eP,eW,eA,eX] at S4
    refine thn S4 λ_ s9 ⟨v9,H9,I9,_,e9⟩=>?_
    subst e9
    exact back I9 hm' w8
   |false=>
    rw[if_neg Bool.false_ne_true] at q7
    rw[if_neg Bool.false_ne_true]
    obtain⟨m',hm',w8⟩:=q7
    exact back I7 hm' w8
 exact codeAny_compStart_list (loop _ rfl) (T'.self _ 0 _ _ _ (T'.keep 0 _ _ st2 (λb hb o e=>keep b o (by rw[<- hg2];exact Heap.get?_push_of_some _ e))) (loop _ rfl))
theorem scopes_ok {scope sc:Scope}{N:List Str}(hNe:X.N=N) (hsc:X.env.scope=sc)
  (hcell:scope.names.all (λy=>y.2 != .cell)=true) (hnames:scope.names.all (λy=>y.2 != .local||scope.names.lookup y.1==some .local)=true) (hloc:N.all (λy=>scope.names.lookup y != some .local)=true)
  (hfr:scope.names.all (λp=>p.2 != .free||(sc.names.lookup p.1==some .cell||sc.names.lookup p.1==some .free))=true) :
  (∀y∈scope.names,y.2≠.cell)/\(∀y∈scope.names,y.2=.local->scope.names.lookup y.1=some .local)/\(∀y∈X.N,scope.names.lookup y≠some .local)/\(∀p∈scope.names,p.2=.free->Vis X.env.scope p.1/\X.env.scope.names.lookup p.1≠some .local):=by
 refine⟨λy hy=>?_,λy hy hl=>?_,λy hy=>?_,λp hp hk=>?_⟩
 ·have:=List.all_eq_true.mp hcell y hy
  simpa using this
 ·have:=List.all_eq_true.mp hnames y hy
  simpa [hl] using this
 ·have:=List.all_eq_true.mp hloc y (by rw[<- hNe];exact hy)
  simpa using this
 ·have:=List.all_eq_true.mp hfr p hp
  rw[hk] at this
  have z:sc.names.lookup p.1=some .cell\/sc.names.lookup p.1=some .free:=by simpa using this
  rw[hsc]
  refine⟨.inr z,λq=>?_⟩
  rcases z with z|z<;>(rw[z] at q;cases q)
theorem loc1 {y:V}{os σ:St}{H:Hp}{R:St->Hp->Prop}(ho:os.length=1) (h:gName 0 y (os++σ) H R):gName 0 y (os++σ) H λσ' H'=>(∃os':St,os'.length=1/\σ'=os'++σ)/\R σ' H':=by
 match os,ho with
 |[o],_=>exact⟨⟨[some y],rfl,rfl⟩,h⟩
theorem loc2 {K:PySem.W.Frag}{y:V}{os σ:St}{H:Hp}{R:St->Hp->Prop}(ho:os.length=2) (h:gTup K 2 (gCons (gName 0) (gCons (gName 1) gNil)) y (os++σ) H R) :
  gTup K 2 (gCons (gName 0) (gCons (gName 1) gNil)) y (os++σ) H λσ' H'=>(∃os':St,os'.length=2/\σ'=os'++σ)/\R σ' H':=by
 match os,ho with
 |[o1,o2],_=>
  obtain⟨a,xs,e1,e2,e3,v,r,e4,v2,r2,e5,e6,q⟩:=h
  exact⟨a,xs,e1,e2,e3,v,r,e4,v2,r2,e5,e6,⟨[some v,some v2],rfl,rfl⟩,q⟩
theorem pe_compIf {x:Str}{px pos:Pos}{elt iter c:Expr}{scope:Scope}{wi:TI}{tt:TT}{te:TE}(N:List Str) (sc:Scope) (hNe:X.N=N) (hsc:X.env.scope=sc) (hc:X.calm=true) (hN:X.N.Nodup) (hi:PI X (.Name x px) iter wi)
  (ht:∀cl C fp s₀ H₀,PT (compCxG X scope cl C [x] fp s₀ H₀) c tt) (he:∀cl C fp s₀ H₀,PE (compCxG X scope cl C [x] fp s₀ H₀) elt te)
  (hkind:scope.kind=.function:=by rfl) (hcell:scope.names.all (λy=>y.2 != .cell)=true:=by decide +kernel) (hnames:scope.names.all (λy=>y.2 != .local||scope.names.lookup y.1==some .local)=true:=by decide +kernel)
  (hx:scope.names.lookup x=some .local:=by rfl) (hloc:N.all (λy=>scope.names.lookup y != some .local)=true:=by decide +kernel)
  (hfr:scope.names.all (λp=>p.2 != .free||(sc.names.lookup p.1==some .cell||sc.names.lookup p.1==some .free))=true:=by decide +kernel)
  (hs:∀x,foldedSetIterable iter X.env x=pure x:=by intro _;rfl):PE X (.ListComp elt [⟨.Name x px,iter,[c],0⟩] scope pos) (tCompG 1 wi (gName 0) tt te):=by
 obtain⟨s1,s2,s3,s4⟩:=scopes_ok hNe hsc hcell hnames hloc hfr
 refine pe_compG (nn:=[x]) (λenv=>isTrue c env (eval c env)) hc hi (λit acc env=>turn_one elt _ iter c scope pos it acc env) (λcl C fp s₀ H₀=>?_) (λy os σ H R ho h=>loc1 ho h) (λcl C fp s₀ H₀ pins s σ H Q I h=>ht cl C fp s₀ H₀ pins s σ H Q I h) he hkind s1 s2 s3 s4 hs
 have l:(compCxG X scope cl C [x] fp s₀ H₀).env.scope.names.lookup x=some .local:=lookup_relabel_local hx
 exact pg_name (i:=0) (List.nodup_cons.mpr ⟨λz=>s3 x z hx,hN⟩) rfl (.inl l) (.inr l)
theorem gpair {x y:Str}{p1 p2 tpos:Pos}{k:Nat}{scope:Scope}{cl:List (Str×Addr)}{C:Addr}{fp:List Addr}{s₀:Shared}{H₀:Hp}(hc:X.calm=true) (hN:X.N.Nodup) (hxy:x≠y) (s3:∀z∈X.N,scope.names.lookup z≠some .local) (hx:scope.names.lookup x=some .local) (hy:scope.names.lookup y=some .local) :
  PG (compCxG X scope cl C [x,y] fp s₀ H₀) (.Tuple [.Name x p1,.Name y p2] k tpos) (gTup X.K 2 (gCons (gName 0) (gCons (gName 1) gNil))):=by
 have lx:(compCxG X scope cl C [x,y] fp s₀ H₀).env.scope.names.lookup x=some .local:=lookup_relabel_local hx
 have ly:(compCxG X scope cl C [x,y] fp s₀ H₀).env.scope.names.lookup y=some .local:=lookup_relabel_local hy
 have nd:(compCxG X scope cl C [x,y] fp s₀ H₀).N.Nodup:=List.nodup_cons.mpr ⟨λz=>by
  rcases List.mem_cons.mp z with z|z
  ·exact hxy z
  ·exact s3 x z hx,List.nodup_cons.mpr ⟨λz=>s3 y z hy,hN⟩⟩
 exact pg_tup (X:=compCxG X scope cl C [x,y] fp s₀ H₀) hc (pgs_cons (pg_name (i:=0) nd rfl (.inl lx) (.inr lx)) (pgs_cons (pg_name (i:=1) nd rfl (.inl ly) (.inr ly)) pgs_nil))
def ttYes:TT:=λ_ H Q=>Q true H
theorem pe_comp2 {x y:Str}{p1 p2 tpos pos:Pos}{k:Nat}{elt iter:Expr}{scope:Scope}{wi:TI}{te:TE}(N:List Str) (sc:Scope) (hNe:X.N=N) (hsc:X.env.scope=sc) (hc:X.calm=true) (hN:X.N.Nodup) (hi:PI X (.Tuple [.Name x p1,.Name y p2] k tpos) iter wi)
  (he:∀cl C fp s₀ H₀,PE (compCxG X scope cl C [x,y] fp s₀ H₀) elt te) (hxy:x≠y:=by decide)
  (hkind:scope.kind=.function:=by rfl) (hcell:scope.names.all (λy=>y.2 != .cell)=true:=by decide +kernel) (hnames:scope.names.all (λy=>y.2 != .local||scope.names.lookup y.1==some .local)=true:=by decide +kernel)
  (hx:scope.names.lookup x=some .local:=by rfl) (hy:scope.names.lookup y=some .local:=by rfl) (hloc:N.all (λy=>scope.names.lookup y != some .local)=true:=by decide +kernel)
  (hfr:scope.names.all (λp=>p.2 != .free||(sc.names.lookup p.1==some .cell||sc.names.lookup p.1==some .free))=true:=by decide +kernel)
  (hs:∀x,foldedSetIterable iter X.env x=pure x:=by intro _;rfl):PE X (.ListComp elt [⟨.Tuple [.Name x p1,.Name y p2] k tpos,iter,[],0⟩] scope pos) (tCompG 2 wi (gTup X.K 2 (gCons (gName 0) (gCons (gName 1) gNil))) ttYes te):=by
 obtain⟨s1,s2,s3,s4⟩:=scopes_ok hNe hsc hcell hnames hloc hfr
 exact pe_compG (nn:=[x,y]) (λ_=>pure true) hc hi (λit acc env=>turn_no elt _ iter scope pos it acc env) (λcl C fp s₀ H₀=>gpair hc hN hxy s3 hx hy) (λy os σ H R ho h=>loc2 ho h) (λcl C fp s₀ H₀ pins s σ H Q I h=>wpAny_pure ⟨H,I,h⟩) he hkind s1 s2 s3 s4 hs
end
end L2
namespace L2
open PySem PySem.Spec PyProof.Rows PySem.W PySem.Builtin PySem.Builtin.ObjectAttr PySem.Builtin.Getset_descriptor
section
variable {prog:Program}{w:World}{A:Around}{E:Value->Shared->Prop}{s:Shared}{K:Frag}{x C:Addr}
def ExcAt (x C:Addr) (h:Heap):Prop:=∃ox vs,h.get? x=some ox/\ox.cls=.ref C/\ox.data=.fields vs/\vs[2]?=some .none
theorem ExcAt.type {M:Model}{h:Heap}(I:ExcAt x C h):Looks M h (typeOf (.ref x)) (.ref C):=by
 obtain⟨ox,_,h1,h2,_⟩:=I
 have z:=(Looks.ld (M:=M) (part:=none) h1).andThen (f:=λo=>pure o.cls) (Looks.now (a:=ox.cls))
 rw[h2] at z
 exact z
theorem exc_get {tp:Value}{R:Result->Shared->Prop}(X:K.In s.heap) (I:ExcAt x C s.heap) (hm:mroIn K C (.type "object")=some true) (h:R (.ok (.ret (.ref C))) s) :
  codeAny (model prog w) A (.call (.builtin "getset_descriptor.__get__") ⟨[.builtin "object.__class__",.ref x,tp],[]⟩) R s:=by
 obtain⟨h1,g1,d1,t1,o1⟩:=s
 have Lt:=I.type (M:=model prog w)
 have Lm:=looks_mroIn (M:=model prog w) X hm
 refine codeAny_call_builtin KF.slot_gs.plain KF.entry_gs ?_
 refine KF.slot_gs.check _ _ _ _ _ _ _ _ KF.type_class (KF.args_gs _ _ _) ?_
 unfold Builtin.«getset_descriptor.__get__» descrGet
 rw[dga_obj]
 refine wpAny_bind (wpAny_pure ?_)
 unfold descrGetter descrCheckInstance descrNameAndClass isInstance
 simp only[KF.owner_class]
 repeat lk
 refine⟨Code.quiet_builtin _ (by decide +kernel),codeAny_builtin KF.entry_class ?_⟩
 unfold Builtin.«object.__class__» shownTypeOf
 repeat lk
 exact h
theorem exc_entry {tk:Tok}{Q:Fin->Shared->Prop}(X:K.In s.heap) (I:ExcAt x C s.heap)
  (ha:findIn K (.ref C) "__class__" = some (some (.builtin "object.__class__"))) (hn:specialIn K (.builtin "object.__class__") "__get__" = some (some (.builtin "getset_descriptor.__get__"))) (htk:takesIn K (.builtin "object.__class__")=some true)
  (hm:mroIn K C (.type "object")=some true) (hc:(clsIn K C).isSome=true) (h:Q (.done (.ret (.ref C))) s):wpAny (model prog w) A (Builtin.«object.__getattribute__» ⟨[.ref x,.str "__class__" tk],[]⟩) Q E s:=by
 obtain⟨hh,g,d,t,os⟩:=s
 have L0:=I.type (M:=model prog w)
 have L4:Looks (model prog w) hh (Builtin.ObjectAttr.find (.ref x) (.ref C) "__class__") (Builtin.ObjectAttr.Found.bind (.builtin "getset_descriptor.__get__") (.builtin "object.__class__")):=by
  have y1:=looks_findIn (M:=model prog w) X ha
  have y2:Looks (model prog w) hh (Builtin.ObjectAttr.getOf (some (.builtin "object.__class__"))) (some (.builtin "getset_descriptor.__get__")):=looks_specialIn X hn
  have y3:=looks_takesIn (M:=model prog w) X htk
  have y4:Looks (model prog w) hh (Builtin.ObjectAttr.dataDescriptor? (some (.builtin "object.__class__")) (some (.builtin "getset_descriptor.__get__"))) (some (.builtin "getset_descriptor.__get__",.builtin "object.__class__")):=y3.andThen .now
  exact y1.andThen (y2.andThen (y4.andThen (Looks.tag .now)))
 unfold Builtin.«object.__getattribute__»
 repeat (first|with_reducible refine L0.at ?_|with_reducible refine L4.at ?_|wp_step)
 refine exc_get X I hm ?_
 repeat (any_goals (first|assumption|wp_step))
theorem exc_check {M:Model}{nameV:Value}{P:Unit->Shared->Prop}(X:K.In s.heap) (I:ExcAt x C s.heap) (hb:mroIn K C (.type "BaseException")=some true) (h:P () s) :
  wpAny M A (checkBuiltinCall "BaseException.__getattribute__" ⟨[.ref x,nameV],[]⟩) P E s:=by
 have hk:builtinKind "BaseException.__getattribute__" = some .slot:=by decide +kernel
 have hsplit:splitId "BaseException.__getattribute__" = some ("BaseException", "__getattribute__"):=by decide +kernel
 have hargs:=F.args_bexc_ga (.ref x) nameV
 obtain⟨hh,g,d,t,os⟩:=s
 have L0:=I.type (M:=M)
 have L3:=looks_mroIn (M:=M) X hb
 simp only[checkBuiltinCall,hk,hsplit]
 refine wpAny_bind ?_
 unfold isInstance
 refine wpAny_bind (L0.at (L3.at ?_))
 repeat (first|assumption|wp_step)
theorem exc_call {tk:Tok}{R:Result->Shared->Prop}(X:K.In s.heap) (I:ExcAt x C s.heap)
  (ha:findIn K (.ref C) "__class__" = some (some (.builtin "object.__class__"))) (hn:specialIn K (.builtin "object.__class__") "__get__" = some (some (.builtin "getset_descriptor.__get__"))) (htk:takesIn K (.builtin "object.__class__")=some true)
  (hm:mroIn K C (.type "object")=some true) (hb:mroIn K C (.type "BaseException")=some true) (hc:(clsIn K C).isSome=true) (h:R (.ok (.ret (.ref C))) s) :
  codeAny (model prog w) A (.call (.builtin "BaseException.__getattribute__") ⟨[.ref x,.str "__class__" tk],[]⟩) R s:=
 codeAny_call_builtin F.excAttr_ValueError.ga.plain F.entry_bexc_ga (exc_check X I hb (exc_entry X I ha hn htk hm hc h))
theorem exc_class {Q:Option Value->Shared->Prop}(X:K.In s.heap) (I:ExcAt x C s.heap) (hga:findIn K (.ref C) "__getattribute__" = some (some (.builtin "BaseException.__getattribute__"))) (hgt:findIn K (.ref C) "__getattr__" = some none)
  (ha:findIn K (.ref C) "__class__" = some (some (.builtin "object.__class__"))) (hn:specialIn K (.builtin "object.__class__") "__get__" = some (some (.builtin "getset_descriptor.__get__"))) (htk:takesIn K (.builtin "object.__class__")=some true)
  (hm:mroIn K C (.type "object")=some true) (hb:mroIn K C (.type "BaseException")=some true) (hc:(clsIn K C).isSome=true) (h:Q (some (.ref C)) { s with toks:=s.toks+1 }) :
  wpAny (model prog w) A (getAttr? (.ref x) "__class__") Q E s:=by
 have go:=λ(A':Around) (R:Result->Shared->Prop) (tk:Tok)=>exc_call (prog:=prog) (w:=w) (A:=A') (R:=R) (s:={ s with toks:=s.toks+1 }) (tk:=tk) X I ha hn htk hm hb hc
 obtain⟨hh,g,d,t,os⟩:=s
 have L0:=I.type (M:=model prog w)
 have L1:=looks_findIn (M:=model prog w) X hga
 have L2:=looks_findIn (M:=model prog w) X hgt
 have f3:=F.excAttr_ValueError.ga.bind (.ref x)
 have hx2:(Value.builtin "BaseException.__getattribute__" == Value.builtin "object.__getattribute__")=false:=by decide +kernel
 have hx1:(onTheHeap (Value.ref C)&&Value.builtin "BaseException.__getattribute__" == Value.builtin "object.__getattribute__")=false:=by rw[hx2];rfl
 unfold getAttr? getAttrBy? getAttrBy
 refine wpAny_bind (wpAny_mkText (wpAny_bind (wpAny_attempt (wpAny_holding (wpAny_bind (L0.at (wpAny_bind (L1.at ?_))))))))
 dsimp only
 rw[if_neg (by rw[hx1];exact Bool.false_ne_true)]
 unfold getAttrByItsOwn
 repeat (any_goals (first|assumption|with_reducible refine L0.at ?_|with_reducible refine L2.at ?_|wp_step))
 refine go _ _ _ ?_
 repeat (any_goals (first|assumption|wp_step))
structure ExcCls (K:Frag) (C:Addr):Prop where
 hga:findIn K (.ref C) "__getattribute__" = some (some (.builtin "BaseException.__getattribute__"))
 hgt:findIn K (.ref C) "__getattr__" = some none
 ha:findIn K (.ref C) "__class__" = some (some (.builtin "object.__class__"))
 hn:specialIn K (.builtin "object.__class__") "__get__" = some (some (.builtin "getset_descriptor.__get__"))
 htk:takesIn K (.builtin "object.__class__")=some true
 hm:mroIn K C (.type "object")=some true
 hb:mroIn K C (.type "BaseException")=some true
 hc:(clsIn K C).isSome=true
theorem kitx_exc (T:ExcCls K C):KitX K (.ref x) (.ref C) (ExcAt x C) where
 ty:=λ_ _ _ I=>I.type
 it:=λ_ _ X _=>by
  have hc:=T.hc
  unfold clsIn at hc
  split at hc
  ·rename_i c' d' cd' sl' ho
   intro A1 Q1 E1 s1 kp q1
   unfold isType loadHead
   refine wpAny_bind (wpAny_loadPart (kp _ _ (X _ _ ho)) ?_)
   exact wpAny_pure q1
  ·cases hc
 ne:=λh tp dd its n sl X htp=>by
  have hc:=T.hc
  refine Bool.eq_false_iff.mpr λq=>?_
  have e:C=tp:=Value.ref.inj (beq_iff_eq.mp q)
  subst e
  unfold clsIn at hc
  split at hc
  ·rename_i c' d' cd' sl' ho
   have z:=(X _ _ ho).symm.trans htp
   cases z
  ·cases hc
 ca:=λX I k=>exc_class X I T.hga T.hgt T.ha T.hn T.htk T.hm T.hb T.hc k
end
end L2
namespace L2
open PySem PySem.Spec PyProof.Rows PySem.W
section
variable {K:Frag}{h:Heap}{C:Addr}{bmB:List Value}{newId:String}
theorem excObj (X:K.In h) (q:excIn K C bmB newId=true):∃bm N nm qn bs hd sn sub ab col dd k0 k1 k2 k3 k5 mN,
  h.get? C=some (excClassObj nm qn C N bs bm hd sn sub ab col dd k0 k1 k2 k3 k5 newId)/\h.Ns N mN/\mN "__init__" = none/\OwnTail h bmB bm:=by
 unfold excIn at q
 split at q
 ·rename_i dd cd sl ho
  split at q
  ·rename_i C1 tl j0 j1 j2 j3 nn j5 e1 e2
   simp only[Bool.and_eq_true,beq_iff_eq,Bool.not_eq_true'] at q
   obtain⟨⟨⟨⟨⟨z1,z2⟩,z3⟩,z4⟩,z5⟩,z6⟩:=q
   subst z1 z2
   obtain⟨a1,a2,a3,a4,a5,a6,a7,a8,a9,a10,a11⟩:=cd
   dsimp only at e1 z3 z5 z6
   subst e1 z3
   obtain⟨l⟩:=sl
   have e3:l=[j0,j1,j2,j3,some (.builtin nn),j5]:=e2
   subst e3
   have n1:=isNs_of_in X z5
   exact⟨tl,a4,a1,a5,a2,a6,a7,a8,a9,a10,dd,j0,j1,j2,j3,j5,_,X _ _ ho,.of_isNs n1,nsMap_none_of_in X z5 z6,tail_of_in X z4⟩
  ·cases q
 ·cases q
end
abbrev bmV:List Value:=[.type "ValueError",.type "Exception",.type "BaseException",.type "object"]
section
variable {X:Cx}{x:Str}{C:Addr}{E:XK}{e₀:Expr}{rest:List Expr}{t:TA}{np cpos pos:Pos}
def tRaise (cls:Value) (E:XK) (t:TA):TS:=λ_ σ H=>t σ H λvs H1=>vs.length<=sizeLine/\E cls none H1
theorem ps_raise (hg:Gl X x) (hm:X.mg x=some (.ref C)) (hx:excIn X.K C bmV "ValueError.__new__" = true) (hc:X.calm=true) (hr:Raises X E) (ha:PA X (e₀::rest) t) (hd:(x==("__debug__" : Str))=false:=by decide)
  (he:starEach (e₀::rest) X.env=(false,eval e₀ X.env)::starEach rest X.env:=by rfl) (hplain:(backTo cpos (starEach rest X.env)).any (·.1)=false:=by rfl) :
  PS X (.Raise (some (.Call (.Name x np) (e₀::rest) [] cpos)) none pos) (tRaise (.ref C) E t):=by
 intro pins s σ H D I h
 obtain⟨bm,N,nm,qn,bs,hdd,sn,sub,ab,col,dd,k0,k1,k2,k3,k5,mN,hC,hN,hni,T⟩:=excObj I.ok.mod.kin hx
 refine wpAny_Raise_call_subU (C:=C) (nm:=nm) (q:=qn) (N:=N) (bs:=bs) (bm:=bm) (hdct:=hdd) (sn:=sn) (sub:=sub) (ab:=ab) (col:=col) (dd:=dd) (k0:=k0) (k1:=k1) (k2:=k2) (k3:=k3) (k5:=k5) (mN:=mN)
  F.excBase_ValueError (by decide) F.excBase_ValueError (T.hasType F.excBase_ValueError.hasBase) (I.ok.hd hc) (by rw[he];show (false||(backTo cpos (starEach rest X.env)).any (·.1))=false;rw[hplain];rfl) hni (ld_glob I hg hm ⟨rfl,?_⟩ hd)
 have A1:=ha cpos pins s σ H _ I h
 rw[he] at A1 ⊢
 refine Calls.evalArgs_plain (wpAny_mono A1 (λus s2 ⟨vs,H1,I1,r,hz,hE⟩=>?_) λ_ _ y=>y)
 exact⟨rfl,by rw[<- r.length];exact hz,I1.bk _ _ hC,hN.keeps I1.bk,T.keeps I1.bk,λh' e hm'=>hr pins σ H1 s2 h' e _ _ I1 hm' hE⟩
end
section
variable {X:Cx}{pins:List (Addr×Obj)}{σ:St}{H:Hp}{s:Shared}
def tryCx (X:Cx) (pins:List (Addr×Obj)) (E:XK):Cx:={ X with
 pn:=X.pn++pins
 xe:=λe s'=>∃(x:Addr) (cls:Value) (B:Heap) (H':Hp) (σ':St),e=.ref x/\Inv X pins σ' H' s'/\Over B X.stack x cls .none s'.heap /\
  (∀b o,X.s₀.heap.get? b=some o->b∉frs X.stack->∃ob,B.get? b=some ob)/\(∀b o,H' b=some o->∃ob,B.get? b=some ob)/\(∀p∈X.pn++pins,∃ob,B.get? p.1=some ob)/\H' x=none/\E cls none H' }
def hCx (X:Cx) (x:Addr):Cx:={ X with A:=X.A.mark (some (.ref x)),calm:=false,xe:=λ_ _=>False }
theorem Inv.toTry (I:Inv X pins σ H s) (E:XK):Inv (tryCx X pins E) [] σ H s:=
 ⟨⟨I.ok.mod,I.ok.kind,I.ok.glob,I.ok.blt,I.ok.above,I.ok.inj,I.ok.has,I.ok.cab,I.ok.hd,I.ok.frames,I.ok.stk,I.ok.exf,I.ok.bs,I.ok.bsz,I.ok.noex,I.ok.exfs,I.ok.funs,I.ok.frf⟩,I.os,I.bare,I.base,I.loc,I.cell,I.free,I.freeC,
  λp hp=>I.pin p (by simpa [tryCx] using hp),I.hok,I.len⟩
theorem Inv.ofTry {E:XK}{pins':List (Addr×Obj)}(I:Inv (tryCx X pins E) pins' σ H s):Inv X pins σ H s:=
 ⟨⟨I.ok.mod,I.ok.kind,I.ok.glob,I.ok.blt,I.ok.above,I.ok.inj,I.ok.has,I.ok.cab,I.ok.hd,I.ok.frames,I.ok.stk,I.ok.exf,I.ok.bs,I.ok.bsz,I.ok.noex,I.ok.exfs,I.ok.funs,I.ok.frf⟩,I.os,I.bare,I.base,I.loc,I.cell,I.free,I.freeC,
  λp hp=>I.pin p (List.mem_append_left _ hp),I.hok,I.len⟩
theorem Inv.toH (I:Inv X pins σ H s) (x:Addr):Inv (hCx X x) pins σ H s:=
 ⟨⟨I.ok.mod,I.ok.kind,I.ok.glob,I.ok.blt,I.ok.above,I.ok.inj,I.ok.has,I.ok.cab,λz=>Bool.noConfusion z,I.ok.frames,I.ok.stk,I.ok.exf,I.ok.bs,I.ok.bsz,I.ok.noex,I.ok.exfs,I.ok.funs,I.ok.frf⟩,I.os,I.bare,I.base,I.loc,I.cell,I.free,I.freeC,I.pin,I.hok,I.len⟩
theorem Inv.ofH {x:Addr}(hA:X.calm=true->X.A.handled=none) (I:Inv (hCx X x) pins σ H s):Inv X pins σ H s:=
 ⟨⟨I.ok.mod,I.ok.kind,I.ok.glob,I.ok.blt,I.ok.above,I.ok.inj,I.ok.has,I.ok.cab,hA,I.ok.frames,I.ok.stk,I.ok.exf,I.ok.bs,I.ok.bsz,I.ok.noex,I.ok.exfs,I.ok.funs,I.ok.frf⟩,I.os,I.bare,I.base,I.loc,I.cell,I.free,I.freeC,I.pin,I.hok,I.len⟩
theorem passesT {E:XK}(hex:X.ex=[]):Passes (CX1 X.prog X.w) (tryCx X pins E) E:=by
 intro pins' σ H s e s' I h
 obtain⟨x,cls,H',rfl,ho,hb,⟨B,U,HK,FW,c1,c2,hx⟩,hE⟩:=h
 have I':Inv (tryCx X pins E) pins' σ H' s':=I.call' ho U HK hb (λb z=>absurd z (by simp))
 have nof:∀b,b≠X.env.locals->b∉X.fs->b∉frs X.stack:=λb h1 h2 h3=>by
  rcases List.mem_cons.mp (I.ofTry.stkSub b h3) with z|z
  ·exact h1 z
  ·exact h2 z
 refine⟨x,cls,B,H',σ,rfl,I'.ofTry,FW,λb o z hb=>?_,c2,λp hp=>?_,hx,hE⟩
 ·obtain⟨o',z'⟩:=I.ofTry.base.there b o z (by rw[hex];simp)
  exact c1 b o' z' hb
 ·obtain⟨z1,_,z3,z4,_⟩:=I.ofTry.pin p hp
  exact c1 p.1 p.2 z1 (nof p.1 z3 z4)
theorem Inv.refly {B h2:Heap}{tk:Nat}(I:Inv X pins σ H s) (hex:X.ex=[]) (F1:B.StaysIn s.heap) (F2:B.StaysIn h2) (sm:s.heap.UpToSlots h2)
  (c0:∀b o,X.s₀.heap.get? b=some o->b∉frs X.stack->∃ob,B.get? b=some ob) (c2:∀b o,H b=some o->∃ob,B.get? b=some ob) (cp:∀p∈X.pn++pins,∃ob,B.get? p.1=some ob):Inv X pins σ H { s with heap:=h2,toks:=tk }:=by
 have same:∀b ob o,B.get? b=some ob->s.heap.get? b=some o->h2.get? b=some o:=λb ob o e1 e2=>by
  have q1:=F1 b ob e1
  have q2:=F2 b ob e1
  rw[e2] at q1;cases q1;exact q2
 have cellk:∀c v,s.heap.IsCell c v->h2.IsCell c v:=λc v ⟨o,e,d⟩=>by
  obtain⟨sl,q⟩:=sm c o e (λvs z=>by rw[d] at z;cases z)
  exact⟨_,q,d⟩
 have frame:∀b∈frs X.stack,∀o,s.heap.get? b=some o->∃sl,h2.get? b=some { o with slots:=sl }:=λb hb o e=>by
  obtain⟨_,o',e',d⟩:=I.stack.mem hb
  rw[e] at e';cases e'
  exact sm b o e d
 have sub:∀b,b∈X.fs->b∈frs X.stack:=λb hb=>by
  rcases I.ok.stk with z|⟨z,_⟩
  ·rw[z];exact hb
  ·rw[z]
   show b∈(X.env::X.outer).filterMap (·.frame)
   rw[List.filterMap_cons]
   split
   ·exact hb
   ·exact List.mem_cons_of_mem _ hb
 have nl:∀b o,X.s₀.heap.get? b=some o->b≠X.env.locals:=λb o e=>Nat.ne_of_lt (Nat.lt_of_lt_of_le (Heap.lt_size e) I.ok.above)
 have nst:∀b o,X.s₀.heap.get? b=some o->b∉X.fs->b∉frs X.stack:=λb o e h2 h3=>by
  rcases List.mem_cons.mp (I.stkSub b h3) with z|z
  ·exact nl b o e z
  ·exact h2 z
 have nox:∀b:Addr,b∉X.ex:=λb=>by rw[hex];simp
 refine⟨I.ok,I.os,I.bare,⟨λb o e n hb hx=>?_,λb o e n hb hx=>?_,I.base.free,λb o e hx=>?_,I.base.tups,I.base.frzs,I.base.tbls⟩,?_,λy c e=>?_,I.free,I.freeC,λp hp=>?_,λb o e=>?_,I.len⟩
 ·obtain⟨ob,z⟩:=c0 b o e (nst b o e hb)
  exact same b ob o z (I.base.keep b o e n hb hx)
 ·obtain⟨sl,q⟩:=I.base.slot b o e n hb hx
  obtain⟨sl2,q2⟩:=frame b (sub b hb) _ q
  exact⟨sl2,q2⟩
 ·obtain⟨o',q⟩:=I.base.there b o e hx
  by_cases hb:b∈frs X.stack
  ·obtain⟨sl,q2⟩:=frame b hb o' q
   exact⟨_,q2⟩
  ·obtain⟨ob,z⟩:=c0 b o e hb
   exact⟨ob,F2 b ob z⟩
 ·obtain⟨m,hn,hl⟩:=I.loc
  refine⟨m,sm.ns hn,λi y v h1 h2 h3=>?_⟩
  obtain⟨u,r,l⟩:=hl i y v h1 h2 h3
  refine⟨u,r,?_⟩
  rcases l with l|⟨k,c,e,z⟩
  ·exact .inl l
  ·exact .inr ⟨k,c,e,cellk c _ z⟩
 ·obtain⟨v,z⟩:=I.cell y c e
  exact⟨v,cellk c v z⟩
 ·obtain⟨z1,z2,z3,z4,z5⟩:=I.pin p hp
  obtain⟨ob,z⟩:=cp p hp
  exact⟨same p.1 ob p.2 z z1,z2,z3,z4,z5⟩
 ·refine (I.hok b o e).stay (λc u hc q=>?_) (λ_ q=>q) λ_ _ q=>q
  rcases hc with z|z
  ·obtain⟨ob,zz⟩:=c2 b o e
   rw[z] at q ⊢
   exact same b ob u zz q
  ·obtain⟨ob,zz⟩:=c2 c _ z
   exact same c ob u zz q
end
end L2
namespace L2
open PySem PySem.Spec PyProof.Rows PySem.W
section
variable {X:Cx}{pins:List (Addr×Obj)}{σ:St}{H:Hp}{s:Shared}
theorem Inv.caught {x C:Addr}{B:Heap}(I:Inv X pins σ H s) (hst:X.stack=X.env::X.outer) (hfr:X.env.frame=some X.env.locals) (hx:H x=none) (FW:Over B X.stack x (.ref C) .none s.heap)
  (c0:∀b o,X.s₀.heap.get? b=some o->b∉frs X.stack->∃ob,B.get? b=some ob) (cp:∀p∈X.pn++pins,∃ob,B.get? p.1=some ob):Inv X pins σ (upd H x (.ext (ExcAt x C))) s:=by
 obtain⟨fB,fx,fF,oe,vs,T,oT,ts,he,hcls,hd,_,hv2,_⟩:=FW
 have nfr:x∉frs X.stack:=λhm=>by
  obtain⟨_,o,e,d⟩:=fF.mem hm
  rw[he] at e;cases e
  exact d vs hd
 have nl:X.env.locals≠x:=λz=>nfr (by
  rw[hst]
  show x∈(X.env::X.outer).filterMap (·.frame)
  rw[List.filterMap_cons,hfr,z]
  exact List.mem_cons_self)
 have ns₀:∀b o,X.s₀.heap.get? b=some o->b≠x:=λb o e z=>by
  subst z
  obtain⟨ob,q⟩:=c0 b o e nfr
  rw[fx] at q;cases q
 refine⟨I.ok,I.os,I.bare,⟨I.base.keep,I.base.slot,λb o e n hx'=>?_,I.base.there,λb xs e=>?_,λb o u e=>?_,λb ps e=>?_⟩,I.loc,I.cell,?_,λy c e=>?_,λp hp=>?_,λb o e=>?_,I.len⟩
 ·rw[upd_ne (ns₀ b o e)];exact I.base.free b o e n hx'
 ·have z:=I.base.tups b xs e
  rw[upd_ne (ne_of_none z hx)];exact z
 ·have z:=I.base.frzs b o u e
  rw[upd_ne (ne_of_none z hx)];exact z
 ·obtain⟨m,z⟩:=I.base.tbls b ps e
  exact⟨m,by rw[upd_ne (ne_of_none z hx)];exact z⟩
 ·rw[upd_ne nl];exact I.free
 ·rw[upd_ne (λz=>?_)]
  ·exact I.freeC y c e
  ·obtain⟨v,o,q,d⟩:=I.cell y c e
   rw[z,he] at q;cases q
   rw[hd] at d;cases d
 ·obtain⟨z1,z2,z3⟩:=I.pin p hp
  obtain⟨ob,q⟩:=cp p hp
  refine⟨z1,?_,z3⟩
  rw[upd_ne (λz=>by rw[z,fx] at q;cases q)]
  exact z2
 ·by_cases hb:b=x
  ·subst hb
   rw[upd_same] at e;cases e
   refine⟨⟨oe,vs,he,hcls,hd,hv2⟩,⟨oe,he⟩,λh1 h2 ⟨ox,vs',q1,q2⟩ k=>⟨ox,vs',k ox q1,q2⟩⟩
  ·rw[upd_ne hb] at e
   exact (I.hok b o e).stay (λc u _ q=>q) (λc q=>by rw[upd_ne (ne_of_none q hx)];exact q) λc xs q=>by rw[upd_ne (ne_of_none q hx)];exact q
theorem ns_uniq {h:Heap}{a:Addr}{m m':Str->Option Value}(x:h.Ns a m) (y:h.Ns a m'):m=m':=by
 obtain⟨o,es,ep,e1,e2,_,e3⟩:=x
 obtain⟨o',es',ep',f1,f2,_,f3⟩:=y
 rw[e1] at f1;cases f1
 rw[e2] at f2;cases f2
 funext n
 rw[<- e3 n,f3 n]
theorem Inv.unbound {i:Nat}{n:Str}{h':Heap}{m:Str->Option Value}{v:Option Value}{tk:Nat}(I:Inv X pins σ H s) (hN:X.N.Nodup) (hi:X.N[i]?=some n) (hm:s.heap.Ns X.env.locals m) (hn:h'.Ns X.env.locals (λy=>if y=n then v else m y)) (sb:Heap.SameBut X.env.locals s.heap h') :
  Inv X pins (σ.set i none) H { s with heap:=h',toks:=tk }:=by
 have ns₀:∀b o,X.s₀.heap.get? b=some o->b≠X.env.locals:=λb o e=>Nat.ne_of_lt (Nat.lt_of_lt_of_le (Heap.lt_size e) I.ok.above)
 have tr:∀b o,H b=some o->b≠X.env.locals:=λb o e z=>by rw[z,I.free] at e;cases e
 refine⟨I.ok,I.os,I.bare,⟨λb o e a c d=>(sb.2 b (ns₀ b o e)).trans (I.base.keep b o e a c d),λb o e a c d=>?_,I.base.free,λb o e d=>?_,I.base.tups,I.base.frzs,I.base.tbls⟩,?_,λy c e=>?_,I.free,I.freeC,λp hp=>?_,λb o e=>?_,by simpa using I.len⟩
 ·obtain⟨sl,q⟩:=I.base.slot b o e a c d
  exact⟨sl,(sb.2 b (ns₀ b o e)).trans q⟩
 ·obtain⟨o',q⟩:=I.base.there b o e d
  exact⟨o',(sb.2 b (ns₀ b o e)).trans q⟩
 ·obtain⟨m',hm',hl⟩:=I.loc
  refine⟨_,hn,λj y w e1 e2 e3=>?_⟩
  have hj:j≠i:=λz=>by
   subst z
   rw[List.getElem?_set_self (by rw[I.len];exact (List.getElem?_eq_some_iff.mp hi).1)] at e2
   cases e2
  rw[List.getElem?_set_ne (Ne.symm hj)] at e2
  obtain⟨u,r,l⟩:=hl j y w e1 e2 e3
  refine⟨u,r,?_⟩
  have ny:y≠n:=λz=>hj (nodup_ix hN e1 (z▸hi))
  rcases l with ⟨k,e⟩|⟨k,c,e,z⟩
  ·refine .inl ⟨k,?_⟩
   show (if y=n then v else m y)=some u
   rw[if_neg ny,ns_uniq hm hm']
   exact e
  ·exact .inr ⟨k,c,e,z.sameBut sb (I.cne y c e)⟩
 ·obtain⟨w,z⟩:=I.cell y c e
  exact⟨w,z.sameBut sb (I.cne y c e)⟩
 ·obtain⟨z1,z2,z3,z4⟩:=I.pin p hp
  exact⟨(sb.2 p.1 z3).trans z1,z2,z3,z4⟩
 ·refine (I.hok b o e).stay (λc u hc q=>(sb.2 c ?_).trans q) (λ_ q=>q) λ_ _ q=>q
  rcases hc with z|z
  ·rw[z];exact tr b o e
  ·exact tr c _ z
def eTry (X:Cx) (F:Value) (i:Nat) (th:Addr->TS) (D:Ends):XK:=λcls _ H'=>∃C,cls=.ref C/\exmOne X.K cls F=some true/\∀x,H' x=none ->
 th x { nx:=λσ H=>D.nx (σ.set i none) H,rt:=D.rt,bk:=λσ H=>D.bk (σ.set i none) H,ct:=λσ H=>D.ct (σ.set i none) H } ((List.replicate X.N.length none).set i (some (.ref x))) (upd H' x (.ext (ExcAt x C)))
def tTry (X:Cx) (F:Value) (i:Nat) (tb:XK->TS) (th:Addr->TS):TS:=λD σ H=>tb (eTry X F i th D) D σ H
theorem ps_try {body:List Stmt}{b₀:Stmt}{suite:List Stmt}{cn n:Str}{np hpos pos:Pos}{FA:Addr}{i:Nat}{tb:XK->TS}{th:Addr->TS}(hex:X.ex=[]) (hst:X.stack=X.env::X.outer) (hfr:X.env.frame=some X.env.locals)
  (hN:X.N.Nodup) (hi:X.N[i]?=some n) (hl:X.env.scope.names.lookup n=some .local) (hg:Gl X cn) (hm:X.mg cn=some (.ref FA)) (hb:∀pins E,PSs (tryCx X pins E) body (tb E)) (hh:∀x,PSs (hCx X x) (b₀::suite) (th x))
  (hd:(cn==("__debug__" : Str))=false:=by decide):PS X (.Try body [.ExceptHandler (some (.Name cn np)) (some n) (b₀::suite) hpos] [] [] pos) (tTry X (.ref FA) i tb th):=by
 intro pins s σ H D I h
 have hcls:(X.env.scope.kind==.class||(X.env.scope.kind==.module&&X.env.locals != X.env.globals))=false:=by rw[I.ok.kind];rfl
 refine wpAny_Try_except ?_
 refine wpAny_mono (hb pins _ [] s σ H D (I.toTry _) h) (λf s1 hs=>?_) (λe s1 hx=>?_)
 ·cases f with
  |next=>
   obtain⟨σ',H',I',q⟩:=hs
   exact wpAny_execs_nil ⟨σ',H',I'.ofTry,q⟩
  |brk=>
   obtain⟨σ',H',I',q⟩:=hs
   exact⟨σ',H',I'.ofTry,q⟩
  |cont=>
   obtain⟨σ',H',I',q⟩:=hs
   exact⟨σ',H',I'.ofTry,q⟩
  |ret u=>
   obtain⟨v,σ',H',I',r,q⟩:=hs
   exact⟨v,σ',H',I'.ofTry,r,q⟩
 ·obtain⟨x,cls,B,H',σ',rfl,I',FW,c0,c2,cp,hxn,C,rfl,hex1,hth⟩:=hx
  have FW':=FW
  rw[hst] at FW'
  have fr':X.A.frames=some (X.env::X.outer):=by rw[<- hst];exact I.ok.frames
  refine note_next fr' hfr FW' λh4 held sm4=>?_
  refine flight_off held λh5 fl5 sm5=>?_
  have I5:Inv X pins σ' H' { s1 with heap:=h5 }:=I'.refly (tk:=s1.toks) hex FW.stays fl5.stays (sm4.trans sm5) c0 c2 cp
  obtain⟨ob,wvs,_,_,_,ho,hoc,hod,_,hov,_⟩:=id fl5.noted
  refine wpAny_handleBy_cons (codeAny_handlers_test ?_) (by intro q;cases q)
  refine ld_glob (X:=hCx X x) (I5.toH x) hg hm ?_ hd
  have LT:Looks (model X.prog X.w) h5 (typeOf (.ref x)) (.ref C):=ExcAt.type ⟨ob,wvs,ho,hoc,hod,hov⟩
  refine (exm_one (M:=model X.prog X.w) I5.kIn LT hex1).here ?_
  refine codeAny_handlers_suite_as ?_
  refine flight_off fl5 λh6 fl6 sm6=>?_
  have I6:Inv X pins σ' H' { s1 with heap:=h6 }:=I5.refly (tk:=s1.toks) hex fl5.stays fl6.stays sm6 c0 c2 cp
  have I6':Inv X pins σ' (upd H' x (.ext (ExcAt x C))) { s1 with heap:=h6 }:=I6.caught hst hfr hxn (by rw[hst];exact fl6) c0 cp
  have I6w:Inv X pins (List.replicate X.N.length none) (upd H' x (.ext (ExcAt x C))) { s1 with heap:=h6 }:=I6'.weak (by rw[List.length_replicate,I6'.len]) (λj v e=>by
   rw[List.getElem?_replicate] at e
   split at e<;>cases e)
  refine store_ok (X:=hCx X x) (v:=.ref x) (I6w.toH x) hN hi (.inl hl) rfl (λs7 I7=>?_) (.inr hl)
  refine wpAny_mono (hh x pins s7 _ _ _ I7 (hth x hxn)) (λf s8 hs8=>?_) λ_ _ z=>z.elim
  have fin:∀{σ8:St}{H8:Hp},Inv (hCx X x) pins σ8 H8 s8->∀{P:Unit->Shared->Prop}{E':Value->Shared->Prop},(∀s9,Inv X pins (σ8.set i none) H8 s9->P () s9) ->
    wpAny (model X.prog X.w) X.A (do bindName X.env n .none;unbindBehindTheSuite X.env n hpos) P E' s8:=λ{σ8 H8} I8 {P E'} k=>by
   obtain⟨m,hn,_⟩:=id I8.loc
   refine wpAny_nameGoes_keeps hl hn hcls λh9 v hn9 sb9=>k _ ?_
   exact (I8.ofH I.ok.hd).unbound hN hi hn hn9 sb9
  cases f with
  |next=>
   obtain⟨σ8,H8,I8,q⟩:=hs8
   exact fin I8 λs9 I9=>⟨_,H8,I9,q⟩
  |brk=>
   obtain⟨σ8,H8,I8,q⟩:=hs8
   exact fin I8 λs9 I9=>⟨_,H8,I9,q⟩
  |cont=>
   obtain⟨σ8,H8,I8,q⟩:=hs8
   exact fin I8 λs9 I9=>⟨_,H8,I9,q⟩
  |ret u=>
   obtain⟨v,σ8,H8,I8,r,q⟩:=hs8
   exact fin I8 λs9 I9=>⟨v,_,H8,I9,r,q⟩
end
end L2
namespace L2
open PySem PySem.Spec PyProof.Rows PySem.W
theorem entry_unchain:entryFor table "proto.unchain" = some Builtin.«proto.unchain»:=entryFor_of_tree (by kernel_rfl)
section
variable {prog:Program}{w:World}{A:Around}{E:Value->Shared->Prop}{s:Shared}{x C e:Addr}
theorem raise_ctx {α:Type}{Q:α->Shared->Prop}{oe:Obj}{vs:Array Value}(hh:A.handled=some (.ref x)) (hx:ExcAt x C s.heap) (ne:x≠e) (he:s.heap.get? e=some oe) (hd:oe.data=.fields vs) (hs:2<vs.size)
  (hQ:E (.ref e) { s with heap:=s.heap.update e (Obj.mapFields (·.setIfInBounds 2 (.ref x))) }):wpAny (model prog w) A (raiseNew (.ref e):Sem α) Q E s:=by
 obtain⟨ox,xs,x1,x2,x3,x4⟩:=hx
 unfold raiseNew
 refine wpAny_bind (wpAny_handled ?_)
 rw[hh]
 dsimp only
 rw[if_pos (by simp[ne])]
 refine wpAny_bind (wpAny_holding (wpAny_runValue (codeAny_builtin entry_unchain ?_)))
 unfold Builtin.«proto.unchain»
 refine wpAny_bind (wpAny_field x1 x3 x4 ?_)
 rw[if_pos (by rfl)]
 first
  |refine wpAny_bind (wpAny_pure (wpAny_pure ?_))
  |refine wpAny_pure ?_
 dsimp only
 show wpAny _ _ (setField (.ref e) 2 (.ref x) >>= λ_=>throw (.ref e)) _ _ _
 exact wpAny_bind (wpAny_setField he hd hs (wpAny_throw hQ))
theorem stop_ctx {α:Type}{Q:α->Shared->Prop}(hh:A.handled=some (.ref x)) (hx:ExcAt x C s.heap)
  (hQ:∀h' e,(∀b o,s.heap.get? b=some o->h'.get? b=some o)->(∃o,h'.get? e=some o/\o.cls=.type "StopIteration")->E (.ref e) { s with heap:=h' }):wpAny (model prog w) A (newExc (.type "StopIteration") [] >>= λe=>(raiseNew e:Sem α)) Q E s:=by
 refine wpAny_bind ?_
 simp only[newExc,newTuple]
 refine wpAny_bind (wpAny_newObj_type ?_ (by size_fits))
 refine wpAny_bind (m:=firstArgMember _ _) (wpAny_of_eq (a:=Value.none) (by first|rfl|(simp only[firstArgMember];rfl)) ?_)
 refine wpAny_newObj_type ?_ (by size_fits)
 obtain⟨ox,xs,x1,x2,x3,x4⟩:=id hx
 have k1:∀(o1 o2:Obj) b o,s.heap.get? b=some o->((s.heap.push o1).push o2).get? b=some o:=λo1 o2 b o q=>Heap.get?_push_of_some _ (Heap.get?_push_of_some _ q)
 have nx:x≠(s.heap.push { cls:=.type "tuple",dict:=none,data:=.seq ([]:List Value).toArray }).objs.size:=by
  rw[Heap.size_push]
  exact Nat.ne_of_lt (Nat.lt_succ_of_lt (Heap.lt_size x1))
 refine raise_ctx (C:=C) hh ⟨ox,xs,k1 _ _ _ _ x1,x2,x3,x4⟩ nx (Heap.get?_push_size _ rfl) rfl (by simp[Array.size_append];lia) (hQ _ _ (λb o q=>?_) ⟨_,Heap.get?_update_self _ (Heap.get?_push_size _ rfl) (Obj.isFreed_of_fields (Obj.data_mapFields rfl _)),Obj.cls_mapFields _ _⟩)
 refine (Heap.get?_update_other _ _ (λz=>?_)).trans (k1 _ _ b o q)
 have z1:=Heap.lt_size q
 rw[<- z,Heap.size_push] at z1
 exact Nat.lt_irrefl _ (Nat.lt_trans (Nat.lt_succ_self _) z1)
theorem next_range_ctx {it:Addr}{y left step:Int}{Q:Option Value->Shared->Prop}(hh:A.handled=some (.ref x)) (hx:ExcAt x C s.heap) (hne:it≠x) (hit:IsRangeIter s.heap it y left step) (hleft:left<=0)
  (hQ:∀h',(∀b o,b≠it->s.heap.get? b=some o->h'.get? b=some o)->Q none { s with heap:=h' }):wpAny (model prog w) A (pyNext (.ref it)) Q E s:=by
 have hT:s.TypeIs (.ref it) "range_iterator":=⟨_,hit,rfl⟩
 unfold pyNext
 refine wpAny_bind (wpAny_attempt (wpAny_callSpecial?_slot (name:=Str.ofString "__next__") hT F.slot_range_iterator_next ?_))
 refine wpAny_call_entry F.slot_range_iterator_next hT F.entry_range_iterator_next ?_ (F.args_range_iterator_next_1 _)
 show wpAny _ _ (field (.ref it) 0 >>= _) _ _ s
 refine wpAny_bind (wpAny_field hit rfl (x:=rawInt y) rfl ?_)
 show wpAny _ _ (field (.ref it) 1 >>= _) _ _ s
 refine wpAny_bind (wpAny_field hit rfl (x:=rawInt left) rfl ?_)
 show wpAny _ _ (field (.ref it) 2 >>= _) _ _ s
 refine wpAny_bind (wpAny_field hit rfl (x:=rawInt step) rfl ?_)
 show wpAny _ _ (if left<=0 then _ else _) _ _ s
 rw[if_pos hleft]
 refine wpAny_bind (wpAny_rule ?_)
 refine wpAny_bind ?_
 show wpAny _ _ (newExc (.type "StopIteration") [] >>= λe=>raiseNew e) _ _ _
 refine stop_ctx (A:=A.in1) (x:=x) (C:=C) hh hx λh' e k1 k2=>?_
 refine wpAny_bind (wpAny_isInstance (T:= "StopIteration") (b:=true) k2 isSubtype_stop ?_)
 exact wpAny_pure (hQ _ λb ob _ q=>k1 b ob q)
end
end L2
namespace L2
open PySem PySem.Spec PyProof.Rows
def cxOfH (CX:CXT) (P:Program) (w:World) (K:PySem.W.Frag) (mg:Str->Option Value) (base:Heap) (N:List Str) (qual:Str) (scope:Scope) (f:Addr) (cd:Value) (A:Around) (outer:List Env) (s:Shared) (H:Hp) (E:XK):Cx:=
 { cxOf CX P w K mg base N qual scope f cd A outer s H E with calm:=false,xe:=λ_ _=>False }
theorem inv_startH {CX:CXT}{P:Program}{w:World}{K:PySem.W.Frag}{mg:Str->Option Value}{base:Heap}{N ps:List Str}{qual:Str}{scope:Scope}{f:Addr}{cd:Value}{A:Around}{outer:List Env}{s s1:Shared}{H:Hp}{E:XK}{us:List Value}{vs:List V}
  (S:FnScope N ps scope) (e0:Env0 P w K mg base A outer s H) (hl:vs.length=ps.length) (r:Vals vs us)
  (x:InCallC s s.heap.objs.size (bindL (envOfC qual scope s.heap.objs.size f cd).kindOf (ps.zip us) λ_=>none) (cellsFrom (s.heap.objs.size+1) scope.names []) (bindC (envOfC qual scope s.heap.objs.size f cd).kindOf (ps.zip us) λ_=>none) s1) :
  Inv (cxOfH CX P w K mg base N qual scope f cd A outer s H E) [] (start N vs) H s1:=by
 have hpl:ps.length<=N.length:=by have:=congrArg List.length S.pre;rw[List.length_take] at this;lia
 obtain⟨h1,tk,rfl,hk⟩:=x.done
 have noA:∀b:Addr,b∉(cxOfH CX P w K mg base N qual scope f cd A outer s H E).ex:=λb z=>absurd (show b∈([]:List Addr) from z) (by simp)
 refine⟨⟨e0.mod,S.kind,rfl,rfl,Nat.le_refl _,λy z c h1 h2=>?_,λy hy=>?_,λy c _ h=>?_,λz=>Bool.noConfusion z,Around.frames_deeper e0.frames,.inr ⟨rfl,rfl⟩,λb z=>absurd z (noA b),e0.bs,e0.bsz,λb _ _=>noA b,λb z=>absurd z (noA b),e0.funs,e0.frf⟩,
  rfl,e0.bare,Un.kept hk,⟨_,x.toInCall.ns,λi y v h1 h2 h3=>?_⟩,λy c h=>⟨_,x.cell y c h⟩,e0.hok.fresh (Nat.le_refl _),λy c h=>?_,λp hp=>absurd (show p∈([]:List (Addr×Obj)) from hp) (by simp),e0.hok.kept hk,?_⟩
 ·exact name_of_addr x.apart (PySem.mem_of_lookup h1) (PySem.mem_of_lookup h2)
 ·have hy:scope.names.lookup y=some .cell\/scope.names.lookup y=some .free:=hy
  rcases hy with hy|hy
  ·exact cell_has hy
  ·exact absurd rfl (S.nofree _ (PySem.mem_of_lookup hy))
 ·exact Nat.le_of_lt (x.above y c (PySem.mem_of_lookup h))
 ·have hi:i<vs.length:=by
   unfold start at h2
   by_cases hi:i<vs.length
   ·exact hi
   ·rw[List.getElem?_append_right (by simpa using hi)] at h2
    rw[List.getElem?_replicate] at h2
    split at h2<;>cases h2
  have ha:vs[i]?=some v:=by
   unfold start at h2
   rw[List.getElem?_append_left (by simpa using hi),List.getElem?_map] at h2
   cases e:vs[i]? with
   |none=>rw[e] at h2;cases h2
   |some a=>rw[e] at h2;cases h2;rfl
  obtain⟨u,hu,rv⟩:=r.get ha
  have hp:ps[i]?=some y:=by
   rw[<- S.pre,List.getElem?_take_of_lt (by lia)];exact h1
  have ndP:ps.Nodup:=by rw[<- S.pre];exact S.nd.sublist (List.take_sublist _ _)
  refine⟨u,rv,?_⟩
  rcases S.par y (List.mem_of_getElem? hp) with k|k
  ·exact .inl ⟨k,bindL_get ndP hp hu k⟩
  ·obtain⟨c,e⟩:=cell_has (n:=s.heap.objs.size+1) k
   refine .inr ⟨.inl k,c,e,?_⟩
   have q:=x.cell y c e
   rw[bindC_get ndP hp hu (by show scope.names.lookup y≠_;rw[k];decide)] at q
   exact q
 ·exact e0.hok.fresh (Nat.le_of_lt (x.above y c (PySem.mem_of_lookup h)))
 ·unfold start
  show _=N.length
  rw[List.length_append,List.length_map,List.length_replicate]
  lia
structure RoomH (k:Nat) (x:Addr) (A:Around):Prop where
 hd:A.handled=some (.ref x)
 dp:A.depth+3*k+5<recursionLimit
 un:A.units+16*k+200<cLine
theorem Room.toH {k:Nat}{A:Around}(r:Room k A) (x:Addr):RoomH k x (A.mark (some (.ref x))):=⟨rfl,r.dp,r.un⟩
theorem RoomH.deeper {k:Nat}{x:Addr}{A:Around}(r:RoomH (k+1) x A) (env:Env):RoomH k x (A.deeper env):=
 ⟨r.hd,by have:=r.dp;show A.depth+1+3*k+5<_;lia,by have:=r.un;show A.units+3+16*k+200<_;lia⟩
theorem RoomH.depth {k:Nat}{x:Addr}{A:Around}(r:RoomH k x A):A.depth<recursionLimit:=by have:=r.dp;lia
theorem RoomH.units {k:Nat}{x:Addr}{A:Around}(r:RoomH k x A):A.units+64<cLine:=by have:=r.un;lia
abbrev SpH:=List V->Hp->VK->Prop
structure FnOkH (P:Program) (w:World) (K:PySem.W.Frag) (mg:Str->Option Value) (base:Heap) (k:Nat) (x:Addr) (f:Addr) (fd:FuncData) (ps:List Str) (sp:SpH):Prop where
 len:∀vs H Q,sp vs H Q->vs.length=ps.length
 run:∀(A:Around) (outer:List Env) (s:Shared) (H:Hp) (args:Args) (us:List Value) (vs:List V) (Q:VK),RoomH k x A->Env0 P w K mg base A outer s H->BindsTo s fd args (ps.zip us)->Vals vs us->sp vs H Q ->
  codeAny (model P w) A (.call (.ref f) args) (CR CX0 outer P w H s Q E0) s
theorem Fun.okH {P:Program}{w:World}{K:PySem.W.Frag}{mg:Str->Option Value}{base:Heap}{x qual:Str}{st:Stmt}{f xe:Addr}{fd:FuncData}{N ps:List Str}{k:Nat}{sp:SpH}(F:Fun K x qual st f fd) (S:FnScope N ps (defScope st)) (len:∀vs H Q,sp vs H Q->vs.length=ps.length)
  (hbody:∀(cdv:Value) (A:Around) (outer:List Env) (s:Shared) (H:Hp) (vs:List V) (Q:VK),RoomH k xe (A.deeper (envOfC qual (defScope st) s.heap.objs.size f cdv))->sp vs H Q ->
   ∃t,PSs (cxOfH CX0 P w K mg base N qual (defScope st) f cdv A outer s H E0) (defBody st) t/\t { nx:=λ_ H'=>Q .non H',rt:=Q } (start N vs) H):FnOkH P w K mg base (k+1) xe f fd ps sp:=by
 obtain⟨oc,od,kV,doc,pm,an,cdv,ct,osl,rfl,lk,hcd⟩:=F.ex
 refine⟨len,λA outer s H args us vs Q hr e0 hb r hsp=>?_⟩
 have hl:=len _ _ _ hsp
 have KX:K.In s.heap:=e0.mod.kin.keeps λb o e=>(e0.bs b o e).1
 have lim:s.heap.NoLimit:=e0.mod.nolimit.keeps λb o e=>(e0.bs b o e).1
 have hkind:∀y∈ps.zip us,(defScope st).names.lookup y.1=some .local\/((defScope st).names.lookup y.1=some .cell/\((cellsFrom (s.heap.objs.size+1) (defScope st).names []).lookup y.1).isSome=true):=λ⟨n,v⟩ hy=>by
  rcases S.par n (List.of_mem_zip hy).1 with q|q
  ·exact .inl q
  ·exact .inr ⟨q,PySem.W.cellsFrom_some _ _ _ (.inl q)⟩
 refine codeAny_call_function hr.depth (KX _ _ lk) rfl S.co S.gen rfl (PySem.W.codeRec_of KX hcd) (hb _ _ _ _ ?_)
 refine wpAny_newFunctionEnv_cells S.kind hkind λenv he s1 x=>?_
 subst he
 refine⟨lim.keeps x.toInCall.keep,codeAny_func ?_⟩
 obtain⟨t,ht,hq⟩:=hbody cdv A outer s H vs Q (hr.deeper _) hsp
 have I:Inv (cxOfH CX0 P w K mg base N qual (defScope st) f cdv A outer s H E0) [] (start N vs) H s1:=inv_startH S e0 hl r x
 refine wpAny_mono (ht [] s1 (start N vs) H _ I hq) (λfl s' hs=>?_) λe s' hs=>hs.elim
 have fin:∀{σ':St}{H':Hp}{v:V}{u:Value},Inv (cxOfH CX0 P w K mg base N qual (defScope st) f cdv A outer s H E0) [] σ' H' s'->RelV v u->Q v H'->CE outer P w H s Q u s':=
  λ{σ' H' v u} J rv q=>⟨v,H',J.os,J.bare,J.base,J.hok,rv,q⟩
 cases fl with
 |ret u=>
  obtain⟨v,σ',H',J,rv,q⟩:=hs
  exact fin J rv q
 |next=>
  obtain⟨σ',H',J,q⟩:=hs
  exact fin (v:=V.non) (u:=Value.none) J rfl q
 |brk=>
  obtain⟨_,_,_,q⟩:=hs
  exact False.elim q
 |cont=>
  obtain⟨_,_,_,q⟩:=hs
  exact False.elim q
section
variable {X:Cx}{k:Nat}{f xe:Addr}{fd:FuncData}{ps:List Str}{sp:SpH}{x:Str}{p pos:Pos}{e:Expr}{es:List Expr}{t:TA}
def tCallH (sp:SpH) (t:TA):TE:=λσ H Q=>t σ H λvs H1=>sp vs H1 Q
theorem pe_callH (F:FnOkH X.prog X.w X.K X.mg X.base k xe f fd ps sp) (hr:RoomH k xe X.A) (hg:Gl X x) (hm:X.mg x=some (.ref f)) (hk:PySem.W.keepIn X.K (.ref f)=true) (hb:Binds X.K fd ps [])
  (ha:PA X (e::es) t) (hdb:(x==("__debug__" : Str))=false:=by decide) (he:starEach (e::es) X.env=(false,eval e X.env)::starEach es X.env:=by rfl) (hpl:(backTo pos (starEach es X.env)).any (·.1)=false:=by rfl) :
  PE X (.Call (.Name x p) (e::es) [] pos) (tCallH sp t):=by
 intro pins s σ H Q I h
 refine wpAny_Call_Name_kw (ld_glob I hg hm ?_ hdb)
 refine PySem.W.callWith_K (h₀:=X.base) I.ok.mod.kin hk (thn (ha pos pins s σ H _ I h) λus s1 ⟨vs,H1,I1,r,q⟩=>⟨I1.kIn,?_⟩) he hpl
 have hl:us.length=ps.length:=by rw[<- r.length];exact F.len _ _ _ q
 have bt:=hb s1 us I1.kIn (by rw[List.append_nil];exact hl)
 rw[List.append_nil] at bt
 refine wpAny_call (codeAny_mono (F.run X.A X.stack s1 H1 ⟨us,[]⟩ us vs Q hr I1.env0 bt r q) λrr s' hq=>?_)
 cases rr with
 |error e=>exact False.elim hq
 |ok fl=>
  cases fl with
  |ret u=>exact I1.after hq
  |next=>exact False.elim hq
  |brk=>exact False.elim hq
  |cont=>exact False.elim hq
end
end L2
namespace L2
open PySem PySem.Spec PyProof.Rows PySem.W
section
variable {X:Cx}
def clsV:V->Option Value
 |.ty n=>some (.type n)
 |.ref a=>some (.ref a)
 |_=>none
theorem clsV_is {c:V}{u cv:Value}(r:RelV c u) (e:clsV c=some cv):u=cv:=by
 cases c with
 |ty n=>cases e;exact r
 |ref a=>cases e;exact r
 |_=>cases e
def ExcT (K:Frag) (H:Hp) (x:V) (t:Value):Prop:=∃a C,x=.ref a/\H a=some (.ext (ExcAt a C))/\ExcCls K C/\t=.ref C
theorem call_isi:CallR X (.builtin "isinstance") (λxs H Q=>∃x c t cv b,xs=[x,c]/\clsV c=some cv/\(TyOf X.K H x t\/ExcT X.K H x t)/\kitOne X.K t cv=some b/\Q (.bl b) H):=by
 intro pins s σ H xs us Q I r h
 obtain⟨x,c,t,cv,b,rfl,hc,ht,hk,q⟩:=h
 obtain⟨u,u',rfl,rx,rc⟩:=vals2 r
 cases clsV_is rc hc
 rcases ht with ty|⟨a,C,rfl,e,T,rfl⟩
 ·exact isinst_ok I rx ty hk λtk=>⟨.bl b,H,I.tok _,rfl,q⟩
 ·cases (show u=Value.ref a from rx)
  have p:ExcAt a C s.heap:=(I.hok a _ e).1
  exact kia_one (kitx_exc T) I.kIn p hk (λz=>nomatch z) λtk=>⟨.bl b,H,I.tok _,rfl,q⟩
theorem moved_inv {pins:List (Addr×Obj)}{σ:St}{H:Hp}{s s':Shared}{o₁:Obj}{wr:List Addr}(I:Inv X pins σ H s) (mv:Moved wr (λa b=>b=a) { s with heap:=s.heap.push o₁ } s') (hn:∀b o,s.heap.get? b=some o->b∈wr->False):Inv X pins σ H s':=by
 obtain⟨h',g',d',t',os'⟩:=s'
 obtain⟨m1,m2,m3,m4,m5⟩:=mv
 cases (show g'=s.gens from m2)
 cases (show d'=s.drawn from m3)
 cases (show os'=s.os from m4)
 exact I.kept (h':=h') (t':=t') λb o e=>m1 b o (λz=>hn b o e z) (Heap.get?_push_of_some _ e)
theorem call_allL (hc:X.calm=true):CallR X (.builtin "all") (λxs H Q=>∃(p:Addr) (bs:List Bool),xs=[.ref p]/\H p=some (.lst (bs.map V.bl))/\Q (.bl (bs.all id)) H):=by
 intro pins s σ H xs us Q I r h
 obtain⟨p,bs,rfl,hp,q⟩:=h
 obtain⟨u,rfl,rx⟩:=vals1 r
 cases rx
 obtain⟨z,its,n,rv,hl⟩:=I.hok p _ hp
 have isl:s.heap.IsList p its.toArray:=⟨_,hl,rfl,_,rfl⟩
 have hlen:its.length=bs.length:=by have:=rv.length;simpa using this.symm
 have np:p≠s.heap.objs.size:=Nat.ne_of_lt (Heap.lt_size hl)
 refine call_all_walk (wpAny_pyIter_list isl ?_)
 refine⟨s.heap.objs.size,_,_,_,_,_,λi=>bs.getD i true,rfl,Walks.list (A:=X.A.in1) (I.ok.hd hc) s.heap.objs.size p np its.toArray,⟨⟨_,Heap.get?_push_size _ rfl,rfl,rfl⟩,isl.at λo e=>Heap.get?_push_of_some _ e⟩,?_,?_⟩
 ·intro i v s' Q' E' hv hq
  have hv':its[i]?=some v:=by simpa using hv
  have hi:i<bs.length:=by rw[<- hlen];exact (List.getElem?_eq_some_iff.mp hv').1
  obtain⟨w',e1,e2⟩:=rv.get (x:=V.bl (bs[i])) (i:=i) (by simp[hi])
  rw[hv'] at e1;cases e1
  cases (show v=Value.bool bs[i] from e2)
  have eg:bs.getD i true=bs[i]:=by simp[List.getD,hi]
  dsimp only at hq
  rw[eg] at hq
  exact wpAny_truthy_bool hq
 ·intro h' tk k
  refine⟨.bl (bs.all id),H,I.kept (h':=h') (t':=tk) (λb o e=>k b o (λz=>?_) (Heap.get?_push_of_some _ e)),?_,q⟩
  ·have:b=s.heap.objs.size:=by simpa using z
   exact Nat.lt_irrefl _ (by rw[this] at e;exact Heap.lt_size e)
  ·have es:its.toArray.size=bs.length:=by simpa using hlen
   rw[es]
   show Value.bool _=Value.bool _
   congr 1
   rw[Bool.eq_iff_iff,List.all_eq_true,List.all_eq_true]
   constructor
   ·intro z b hb
    obtain⟨i,hi,e⟩:=List.mem_iff_getElem.mp hb
    have:=z i (List.mem_range.mpr hi)
    simpa [List.getD,hi,e] using this
   ·intro z i hi
    have hi':=List.mem_range.mp hi
    have:=z bs[i] (List.getElem_mem hi')
    simpa [List.getD,hi'] using this
theorem strs_of:∀{ys:List Str}{us:List Value},Vals (ys.map V.str) us->StrsAre us ys
 |[],_,.nil=>.nil
 |y::ys,_,.cons r t=>by
  obtain⟨tk,rfl⟩:=r
  exact .cons y tk (strs_of t)
theorem mt_join:MtR X "str.join" (λx xs H Q=>∃(sep:Str) (p:Addr) (ys:List Str),x=.str sep/\xs=[.ref p]/\H p=some (.lst (ys.map V.str))/\(ys.map (·.length)).sum+ys.length*sep.length<=16777216/\Q (.str (Txt.join sep ys)) H):=by
 intro pins s σ H x xs v us Q I rx rv h
 obtain⟨sep,p,ys,rfl,rfl,hp,hz,q⟩:=h
 obtain⟨t,rfl⟩:=rx
 obtain⟨u,rfl,ru⟩:=rv.one
 cases ru
 obtain⟨z,its,n,r2,hl⟩:=I.hok p _ hp
 exact join_list (D:=p) (items:=its.toArray) ⟨_,hl,rfl,_,rfl⟩ (by simpa using strs_of r2) hz λt' k=>⟨.str _,H,I.tok _,⟨_,rfl⟩,q⟩
end
end L2
namespace L2
open PySem PySem.Spec PyProof.Rows PySem.W
section
variable {X:Cx}
theorem call_anyL (hc:X.calm=true):CallR X (.builtin "any") (λxs H Q=>∃(p:Addr) (bs:List Bool),xs=[.ref p]/\H p=some (.lst (bs.map V.bl))/\Q (.bl (bs.any id)) H):=by
 intro pins s σ H xs us Q I r h
 obtain⟨p,bs,rfl,hp,q⟩:=h
 obtain⟨u,rfl,rx⟩:=vals1 r
 cases rx
 obtain⟨z,its,n,rv,hl⟩:=I.hok p _ hp
 have isl:s.heap.IsList p its.toArray:=⟨_,hl,rfl,_,rfl⟩
 have hlen:its.length=bs.length:=by have:=rv.length;simpa using this.symm
 have np:p≠s.heap.objs.size:=Nat.ne_of_lt (Heap.lt_size hl)
 refine call_any_walk (wpAny_pyIter_list isl ?_)
 refine⟨s.heap.objs.size,_,_,_,_,_,λi=>bs.getD i true,rfl,Walks.list (A:=X.A.in1) (I.ok.hd hc) s.heap.objs.size p np its.toArray,⟨⟨_,Heap.get?_push_size _ rfl,rfl,rfl⟩,isl.at λo e=>Heap.get?_push_of_some _ e⟩,?_,?_⟩
 ·intro i v s' Q' E' hv hq
  have hv':its[i]?=some v:=by simpa using hv
  have hi:i<bs.length:=by rw[<- hlen];exact (List.getElem?_eq_some_iff.mp hv').1
  obtain⟨w',e1,e2⟩:=rv.get (x:=V.bl (bs[i])) (i:=i) (by simp[hi])
  rw[hv'] at e1;cases e1
  cases (show v=Value.bool bs[i] from e2)
  have eg:bs.getD i true=bs[i]:=by simp[List.getD,hi]
  dsimp only at hq
  rw[eg] at hq
  exact wpAny_truthy_bool hq
 ·intro h' tk k
  refine⟨.bl (bs.any id),H,I.kept (h':=h') (t':=tk) (λb o e=>k b o (λz=>?_) (Heap.get?_push_of_some _ e)),?_,q⟩
  ·have:b=s.heap.objs.size:=by simpa using z
   exact Nat.lt_irrefl _ (by rw[this] at e;exact Heap.lt_size e)
  ·have es:its.toArray.size=bs.length:=by simpa using hlen
   rw[es]
   show Value.bool _=Value.bool _
   congr 1
   rw[Bool.eq_iff_iff,List.any_eq_true,List.any_eq_true]
   constructor
   ·rintro⟨i,hi,e⟩
    have hi':=List.mem_range.mp hi
    refine⟨bs[i],List.getElem_mem hi',?_⟩
    simpa [List.getD,hi'] using e
   ·rintro⟨b,hb,e⟩
    obtain⟨i,hi,e2⟩:=List.mem_iff_getElem.mp hb
    refine⟨i,List.mem_range.mpr hi,?_⟩
    have:bs.getD i true=bs[i]:=by simp[List.getD,hi]
    rw[this,e2]
    exact e
def best (ns:List Int):Nat->Int
 |0=>ns.getD 0 0
 |k+1=>if ns.getD (k+1) 0>best ns k then ns.getD (k+1) 0 else best ns k
theorem best_arg (ns:List Int):∀k,ns.getD (argBest (λi j=>decide (ns.getD i 0>ns.getD j 0)) k) 0=best ns k/\argBest (λi j=>decide (ns.getD i 0>ns.getD j 0)) k<=k
 |0=>⟨rfl,Nat.le_refl _⟩
 |k+1=>by
  obtain⟨h1,h2⟩:=best_arg ns k
  unfold argBest best
  rw[<- h1]
  by_cases hc:ns.getD (k+1) 0>ns.getD (argBest (λi j=>decide (ns.getD i 0>ns.getD j 0)) k) 0
  ·rw[if_pos (decide_eq_true hc),if_pos hc]
   exact⟨rfl,Nat.le_refl _⟩
  ·rw[if_neg (by simpa using hc),if_neg hc]
   exact⟨rfl,Nat.le_succ_of_le h2⟩
theorem call_maxL (hc:X.calm=true):CallR X (.builtin "max") (λxs H Q=>∃(p:Addr) (ns:List Int),xs=[.ref p]/\H p=some (.lst (ns.map V.int))/\ns≠[]/\Q (.int (best ns (ns.length-1))) H):=by
 intro pins s σ H xs us Q I r h
 obtain⟨p,ns,rfl,hp,hne,q⟩:=h
 obtain⟨u,rfl,rx⟩:=vals1 r
 cases rx
 obtain⟨z,its,n,rv,hl⟩:=I.hok p _ hp
 have isl:s.heap.IsList p its.toArray:=⟨_,hl,rfl,_,rfl⟩
 have hlen:its.length=ns.length:=by have:=rv.length;simpa using this.symm
 have np:p≠s.heap.objs.size:=Nat.ne_of_lt (Heap.lt_size hl)
 have es:its.toArray.size=ns.length:=by simpa using hlen
 have pos:0<ns.length:=List.length_pos_iff.mpr hne
 have item:∀(i:Nat) (v:Value),its.toArray[i]?=some v->∃t,v=.int (ns.getD i 0) t:=λi v hv=>by
  have hv':its[i]?=some v:=by simpa using hv
  have hi:i<ns.length:=by rw[<- hlen];exact (List.getElem?_eq_some_iff.mp hv').1
  obtain⟨w',e1,t,e2⟩:=rv.get (x:=V.int (ns[i])) (i:=i) (by simp[hi])
  rw[hv'] at e1;cases e1
  exact⟨t,by rw[e2];simp[List.getD,hi]⟩
 refine call_max_walkS (wpAny_pyIter_list isl ?_)
 refine⟨s.heap.objs.size,_,_,_,_,_,_,λi j=>decide (ns.getD i 0>ns.getD j 0),rfl,(Walks.list (A:=X.A.in1) (I.ok.hd hc) s.heap.objs.size p np its.toArray).toS,⟨⟨_,Heap.get?_push_size _ rfl,rfl,rfl⟩,isl.at λo e=>Heap.get?_push_of_some _ e⟩,?_,by rw[es];exact pos,?_,?_⟩
 ·intro b hb
  rw[Heap.size_push]
  rcases List.mem_cons.mp hb with rfl|hb
  ·exact Nat.lt_succ_self _
  ·have:b=p:=by simpa using hb
   subst this
   exact Nat.lt_succ_of_lt (Heap.lt_size hl)
 ·intro i j vi vj s' Q' E' hi hj hq
  obtain⟨t,rfl⟩:=item i vi hi
  obtain⟨t',rfl⟩:=item j vj hj
  exact gt_int hq
 ·intro v s' hv mv
  rw[es] at hv
  obtain⟨t,rfl⟩:=item _ v hv
  rw[(best_arg ns (ns.length-1)).1]
  refine⟨.int _,H,moved_inv I mv (λb o e hb=>?_),⟨t,rfl⟩,q⟩
  have:b=s.heap.objs.size:=by simpa using hb
  exact Nat.lt_irrefl _ (by rw[this] at e;exact Heap.lt_size e)
end
end L2
namespace L2
open PySem PySem.Spec PyProof.Rows PySem.W
section
variable {X:Cx}
theorem kV_of {P:Program}{w:World}{k:Key}{v:Value}(h:(mixKind P w).is k v=true):RelV (kV k) v:=by
 rcases keyIs_shape (show keyIs k v=true from h) with ⟨i,t,rfl,rfl⟩|⟨x,t,rfl,rfl⟩
 ·exact⟨t,rfl⟩
 ·exact⟨t,rfl⟩
theorem vals_of:∀{xs:List V}{us:List Value},xs.length=us.length->(∀(i:Nat) x v,xs[i]?=some x->us[i]?=some v->RelV x v)->Vals xs us
 |[],[],_,_=>.nil
 |[],_::_,h,_=>by simp at h
 |_::_,[],h,_=>by simp at h
 |x::xs,u::us,h,f=>.cons (f 0 x u rfl rfl) (vals_of (by simpa using h) λi y v hy hv=>f (i+1) y v (by simpa using hy) (by simpa using hv))
theorem call_listD (hc:X.calm=true):CallR X (.type "list") (λxs H Q=>∃(d:Addr) (kvs:List (Key×V)),xs=[.ref d]/\H d=some (.dK kvs)/\∀l,H l=none->Q (.ref l) (upd H l (.lst (kvs.map λkv=>kV kv.1)))):=by
 intro pins s σ H xs us Q I r h
 obtain⟨d,kvs,rfl,hd,q⟩:=h
 obtain⟨u,rfl,ru⟩:=vals1 r
 cases ru
 obtain⟨z,lo,vs,rel,dd⟩:=dk_of I.hok hd
 obtain⟨ep,hat⟩:=dd.dictAt
 have hl:=rel.length
 refine kdl_call (kdl_dict (knd:=mixKind X.prog X.w) (kvs:=vs) (ep:=ep) lo) (I.ok.hd hc) hat (by rw[<- hl];exact z) λh' tk acc c kp ho hacc=>?_
 refine⟨.ref s.heap.objs.size,_,I.laid (a:=s.heap.objs.size) (o:=.lst (kvs.map λkv=>kV kv.1)) (t':=tk) kp (Nat.le_refl _) ⟨by simpa using z,acc.toList,c,?_,by simpa using ho⟩,rfl,q _ I.fresh⟩
 refine vals_of (by simp[hl,hacc.1]) λi x v hx hv=>?_
 rw[List.getElem?_map] at hx
 obtain⟨kv,hkv,rfl⟩:=Option.map_eq_some_iff.mp hx
 obtain⟨k,y,hk,his⟩:=hacc.2 i v (by simpa using hv)
 have e1:vs[i]?=some (k,y):=hk
 have e2:kv.1=k:=by
  have z1:(kvs.map (·.1))[i]?=some kv.1:=by rw[List.getElem?_map,hkv];rfl
  have z2:(vs.map (·.1))[i]?=some k:=by rw[List.getElem?_map,e1];rfl
  rw[rel.keys] at z1
  rw[z1] at z2
  exact Option.some.inj z2
 rw[e2]
 exact kV_of his
theorem call_range1V:CallR X (.type "range") (λxs H Q=>∃n:Int,xs=[.int n]/\∀r,H r=none->Q (.ref r) (upd H r (.rng 0 n))):=by
 intro pins s σ H xs us Q I r h
 obtain⟨n,rfl,q⟩:=h
 obtain⟨u,rfl,t,rfl⟩:=vals1 r
 exact call_range_1 ⟨.ref s.heap.objs.size,_,I.laid (a:=s.heap.objs.size) (o:=.rng 0 n) (λb o e=>Heap.get?_push_of_some _ e) (Nat.le_refl _) ⟨_,_,_,Heap.get?_push_size _ rfl⟩,rfl,q _ I.fresh⟩
theorem call_listR (hc:X.calm=true):CallR X (.type "list") (λxs H Q=>∃(r:Addr) (n:Nat),xs=[.ref r]/\H r=some (.rng 0 (n:Int))/\n<=1000000/\∀l,H l=none->Q (.ref l) (upd H l (.lst ((List.range n).map λ(i:Nat)=>V.int (i:Int))))):=by
 intro pins s σ H xs us Q I rv h
 obtain⟨r,n,rfl,hr,hn,q⟩:=h
 obtain⟨u,rfl,ru⟩:=vals1 rv
 cases ru
 obtain⟨t,u,v,ho⟩:=I.hok r _ hr
 refine call_list_range (a:=0) (b:=n) (c:=1) (n:=n) (I.ok.hd hc) ho (small_one (by lia) (by lia) (by lia) (by lia)) (by rw[rangeSize_one];split<;>lia) (by lia) λh' tk acc c kp ho' hacc=>?_
 refine⟨.ref s.heap.objs.size,_,I.laid (a:=s.heap.objs.size) (o:=.lst ((List.range n).map λ(i:Nat)=>V.int (i:Int))) (t':=tk) kp (Nat.le_refl _) ⟨?_,acc.toList,c,?_,by simpa using ho'⟩,rfl,q _ I.fresh⟩
 ·rw[List.length_map,List.length_range,sizeLine_eq]
  lia
 ·refine vals_of (by simp[hacc.1]) λi x v hx hv=>?_
  rw[List.getElem?_map] at hx
  obtain⟨j,hj,rfl⟩:=Option.map_eq_some_iff.mp hx
  have e:j=i:=by
   obtain⟨_,e⟩:=List.getElem?_eq_some_iff.mp hj
   simpa using e.symm
  subst e
  obtain⟨t',rfl⟩:=hacc.2 j v (by simpa using hv)
  exact⟨t',by simp⟩
end
namespace TupMul
theorem noFill:fillsNumberSlot (.type "tuple") "mul" = pure false:=
 PySem.fillsNumberSlot_seq (id:= "tuple.__mul__") (r:=some (.builtin "tuple.__rmul__")) F.slot_tuple_mul.lookup (by decide +kernel) F.slot_tuple_rmul.lookup (by decide +kernel)
theorem rep:seqRepeat? (.type "tuple")=pure (some (.builtin "tuple.__mul__")):=by
 unfold seqRepeat?
 rw[PySem.seqSlot_of (T:= "tuple") (name:= "__mul__") (id:= "tuple.__mul__") F.slot_tuple_mul.lookup (by decide +kernel),PySem.seqSlot_of (T:= "tuple") (name:= "__rmul__") (id:= "tuple.__rmul__") F.slot_tuple_rmul.lookup (by decide +kernel)]
 rfl
theorem declines (a:Int) (t:Tok) (l:Addr) (items:Array Value) (n:Nat) (dct:Option Addr) (sl:Array (Option Value)) :
  Meets (Builtin.«int.__rmul__» ⟨[.int a t,.ref l],[]⟩) (λ_ R s=>s.heap.get? l=some { cls:=.type "tuple",dict:=dct,data:=.seq items n,slots:=sl }/\R (.ok (.ret Value.notImplemented)) s):=
 .of_wp λprog w A R s h=>by
  obtain⟨hp,g,d,tk,os⟩:=s
  obtain⟨hl,h⟩:=h
  wp_walk
  exact⟨_,rfl,h⟩
theorem mul (k:Int) (t:Tok) (l:Addr) (items:Array Value) (n:Nat) (dct:Option Addr) (sl:Array (Option Value)) (h1:1<k) (h2:k<=1000) (hs:items.size=1) :
  Meets (Builtin.«tuple.__mul__» ⟨[.ref l,.int k t],[]⟩) (λ_ R s=>s.heap.get? l=some { cls:=.type "tuple",dict:=dct,data:=.seq items n,slots:=sl } /\
   R (.ok (.ret (.ref s.heap.objs.size))) { s with heap:=s.heap.push { cls:=.type "tuple",data:=.seq ((List.replicate k.toNat items).foldl (·++·) #[]) } }):=
 .of_wp λprog w A R s h=>by
  obtain⟨hp,g,d,tk,os⟩:=s
  obtain⟨hl,h⟩:=h
  have c1:(decide (k < -2^63)||decide (k>=2^63))=false:=by simp;lia
  have c0:items.isEmpty=false:=by
   cases he:items.isEmpty with
   |false=>rfl
   |true=>rw[Array.isEmpty_iff.mp he] at hs;cases hs
  have c2:(items.isEmpty||k==1)=false:=by rw[c0];simp;lia
  have c3:(decide (k<=0)||items.isEmpty)=false:=by rw[c0];simp;lia
  have c4:¬((items.size:Int)*k>(2^63-1)/8):=by rw[hs];lia
  have c5:Builtin.Tuple.tupleTooMany ((items.size:Int)*k)=false:=by
   rw[hs]
   show decide (((1:Nat):Int)*k>(sizeLine:Int))=false
   rw[sizeLine_eq]
   exact decide_eq_false (by lia)
  wp_walk
  refine wpAny_ite_split (λz=>by rw[c1] at z;cases z) λ_=>?_
  wp_walk
  refine wpAny_ite_split (λz=>by rw[c2] at z;cases z) λ_=>?_
  refine wpAny_ite_split (λz=>by rw[c3] at z;cases z) λ_=>?_
  refine wpAny_ite_split (λz=>absurd z c4) λ_=>?_
  refine wpAny_ite_split (λz=>by rw[c5] at z;cases z) λ_=>?_
  wp_walk
  refine wpAny_ite_split (λz=>absurd z ?_) λ_=>?_
  ·have f:∀(m:Nat) (acc:Array Value),(List.foldl (λx1 x2=>x1++x2) acc (List.replicate m items)).size=acc.size+m:=λm=>by
    induction m with
    |zero=>intro acc;rfl
    |succ m ih=>
     intro acc
     rw[List.replicate_succ,List.foldl_cons,ih,Array.size_append,hs]
     lia
   rw[f,sizeLine_eq]
   simp
   lia
  wp_walk
  exact⟨_,rfl,h⟩
end TupMul
section
variable {X:Cx}
theorem op_repT:OpR X (binaryOp .Mult) (λx y H Q=>∃(l:Addr) (k:Int) (v:V),x=.ref l/\y=.int k/\H l=some (.tup [v])/\1<k/\k<=1000/\∀p,H p=none->Q (.ref p) (upd H p (.tup (List.replicate k.toNat v)))):=by
 intro pins s σ H x y v u Q I rx ry h
 obtain⟨l,k,v1,rfl,rfl,hH,h1,h2,q⟩:=h
 cases rx
 obtain⟨t,rfl⟩:=ry
 obtain⟨_,its,r,o,ho,hc,⟨n,hdn⟩,hd⟩:=I.hok l _ hH
 obtain⟨oc,od,odt,osl⟩:=o
 replace hc:oc=.type "tuple":=hc
 replace hd:odt=.seq its.toArray n:=hd
 subst hc hd
 cases r with
 |cons r1 rr=>
  cases rr
  rename_i u1
  have hnew:List.foldl (λx1 x2=>x1++x2) #[] (List.replicate k.toNat #[u1])=(List.replicate k.toNat u1).toArray:=by
   have f:∀(m:Nat) (acc:List Value),List.foldl (λx1 x2=>x1++x2) acc.toArray (List.replicate m #[u1])=(acc++List.replicate m u1).toArray:=λm=>by
    induction m with
    |zero=>intro acc;simp
    |succ m ih=>
     intro acc
     rw[List.replicate_succ,List.foldl_cons,show acc.toArray++#[u1]=(acc++[u1]).toArray by simp,ih]
     simp[List.replicate_succ]
   have:=f k.toNat []
   simpa using this
  refine wpAny_binaryOp_repeat_ref (T:= "tuple") (U:= "int") (by decide) ⟨_,ho,rfl⟩ (λs'=>typeIs_int s' k t) TupMul.noFill F.fills_int_mul F.slot_int_rmul TupMul.rep F.slot_int_index.lookup
   (call_meets F.slot_int_rmul (typeIs_int s k t) F.entry_int_rmul (F.args_int_rmul_2 _ _) (TupMul.declines k t l _ n od osl)
    ⟨ho,rfl,⟨_,ho,rfl⟩,call_meets F.slot_tuple_mul ⟨_,ho,rfl⟩ F.entry_tuple_mul (F.args_tuple_mul_2 _ _) (TupMul.mul k t l _ n od osl h1 h2 rfl) ⟨ho,?_⟩⟩)
  rw[hnew]
  refine⟨.ref _,_,I.laid (a:=s.heap.objs.size) (o:=.tup (List.replicate k.toNat v1)) (t':=s.toks) (λb o e=>Heap.get?_push_of_some _ e) (Nat.le_refl _) ⟨?_,List.replicate k.toNat u1,?_,_,Heap.get?_push_size _ rfl,rfl,⟨_,rfl⟩,rfl⟩,rfl,q _ I.fresh⟩
  ·rw[List.length_replicate,sizeLine_eq];lia
  ·generalize k.toNat=m
   induction m with
   |zero=>exact .nil
   |succ m ih=>exact .cons r1 ih
end
end L2
namespace Qf
abbrev Row:=List Nat
def mx:List Nat->Nat
 |[]=>0
 |a::l=>max a (mx l)
theorem le_mx {x:Nat}:∀{l:List Nat},x∈l->x<=mx l
 |a::l,h=>by
  rcases List.mem_cons.mp h with rfl|h
  ·exact Nat.le_max_left _ _
  ·exact Nat.le_trans (le_mx h) (Nat.le_max_right _ _)
theorem mx_le {b:Nat}:∀{l:List Nat},(∀x∈l,x<=b)->mx l<=b
 |[],_=>Nat.zero_le _
 |a::l,h=>Nat.max_le.mpr ⟨h a List.mem_cons_self,mx_le λx hx=>h x (List.mem_cons_of_mem _ hx)⟩
theorem mx_congr {f g:Nat->Nat}{l:List Nat}(h:∀x∈l,f x=g x):mx (l.map f)=mx (l.map g):=by
 rw[List.map_congr_left h]
def RowOk (p:Nat) (r:Row):Prop:=r.length=4/\∀x∈r,x<p+2
def RowsOk (rows:List Row):Prop:=∀p r,rows[p]?=some r->RowOk p r
def depStep (ds:List Nat) (r:Row):List Nat:=ds++[1+mx (r.map (ds.getD · 0))]
def deps (rows:List Row):List Nat:=rows.foldl depStep [0,0]
def dp (rows:List Row) (x:Nat):Nat:=(deps rows).getD x 0
theorem deps_snoc (rows:List Row) (r:Row):deps (rows++[r])=deps rows++[1+mx (r.map (dp rows))]:=by
 unfold deps dp deps
 rw[List.foldl_append]
 rfl
theorem snoc_ind {P:List Row->Prop}(h0:P []) (h1:∀l a,P l->P (l++[a])) (l:List Row):P l:=by
 have:∀m:List Row,P m.reverse:=λm=>by
  induction m with
  |nil=>exact h0
  |cons a m ih=>rw[List.reverse_cons];exact h1 _ _ ih
 have h:=this l.reverse
 rwa [List.reverse_reverse] at h
theorem deps_len (rows:List Row):(deps rows).length=rows.length+2:=by
 induction rows using snoc_ind with
 |h0=>rfl
 |h1 l a ih=>rw[deps_snoc,List.length_append,ih,List.length_append];simp
theorem dp_snoc_lt {rows:List Row}{r:Row}{x:Nat}(h:x<rows.length+2):dp (rows++[r]) x=dp rows x:=by
 unfold dp
 rw[deps_snoc,List.getD_eq_getElem?_getD,List.getD_eq_getElem?_getD,List.getElem?_append_left (by rw[deps_len];exact h)]
theorem dp_snoc_at {rows:List Row}{r:Row}:dp (rows++[r]) (rows.length+2)=1+mx (r.map (dp rows)):=by
 unfold dp
 rw[deps_snoc,List.getD_eq_getElem?_getD,List.getElem?_append_right (by rw[deps_len];exact Nat.le_refl _),deps_len]
 simp only[Nat.sub_self,List.getElem?_cons_zero,Option.getD_some]
 rfl
theorem dp_append_lt {rows more:List Row}{x:Nat}(h:x<rows.length+2):dp (rows++more) x=dp rows x:=by
 induction more using snoc_ind with
 |h0=>simp
 |h1 l a ih=>
  rw[<- List.append_assoc,dp_snoc_lt (by simp;lia),ih]
theorem dp_low {rows:List Row}{x:Nat}(h:x<2):dp rows x=0:=by
 have:=dp_append_lt (rows:=[]) (more:=rows) (x:=x) (by simpa using h)
 rw[List.nil_append] at this
 rw[this]
 match x,h with
 |0,_=>rfl
 |1,_=>rfl
theorem take_next {rows:List Row}{p:Nat}{r:Row}(hp:rows[p]?=some r):rows=rows.take p++[r]++rows.drop (p+1):=by
 have hlt:=(List.getElem?_eq_some_iff.mp hp).1
 have he:=(List.getElem?_eq_some_iff.mp hp).2
 rw[<- he,List.take_append_getElem hlt,List.take_append_drop]
theorem dp_at {rows:List Row}(ok:RowsOk rows){p:Nat}{r:Row}(hp:rows[p]?=some r):dp rows (p+2)=1+mx (r.map (dp rows)):=by
 have hlt:=(List.getElem?_eq_some_iff.mp hp).1
 have hl:(rows.take p).length=p:=by simp;lia
 have e:=take_next hp
 have h1:dp rows (p+2)=dp (rows.take p++[r]) (p+2):=by
  have:=dp_append_lt (rows:=rows.take p++[r]) (more:=rows.drop (p+1)) (x:=p+2) (by simp;lia)
  rw[<- e] at this
  exact this
 have h2:=dp_snoc_at (rows:=rows.take p) (r:=r)
 rw[hl] at h2
 rw[h1,h2]
 congr 1
 refine mx_congr λx hx=>?_
 have hx2:=(ok p r hp).2 x hx
 have:=dp_append_lt (rows:=rows.take p) (more:=[r]++rows.drop (p+1)) (x:=x) (by rw[hl];exact hx2)
 rw[<- List.append_assoc,<- e] at this
 exact this.symm
def dfs (rows:List Row):Nat->List Nat->Nat->List Nat
 |0,e,_=>e
 |d+1,e,x=>if x<2\/x-2∈e then e else (rows.getD (x-2) []).foldl (dfs rows d) e++[x-2]
theorem foldl_ext {f:List Nat->Nat->List Nat}(h:∀e x,∃s,f e x=e++s):∀(l:List Nat) (e:List Nat),∃s,l.foldl f e=e++s
 |[],e=>⟨[],by simp⟩
 |a::l,e=>by
  obtain⟨s,hs⟩:=h e a
  obtain⟨s',hs'⟩:=foldl_ext h l (f e a)
  exact⟨s++s',by rw[List.foldl_cons,hs',hs,List.append_assoc]⟩
theorem dfs_ext (rows:List Row):∀(d:Nat) (e:List Nat) (x:Nat),∃s,dfs rows d e x=e++s
 |0,e,x=>⟨[],by simp[dfs]⟩
 |d+1,e,x=>by
  unfold dfs
  split
  ·exact⟨[],by simp⟩
  ·obtain⟨s,hs⟩:=foldl_ext (dfs_ext rows d) (rows.getD (x-2) []) e
   exact⟨s++[x-2],by rw[hs,List.append_assoc]⟩
structure Post (rows:List Row) (e:List Nat):Prop where
 nd:e.Nodup
 lt:∀p∈e,p<rows.length
 ch:∀(i p:Nat),e[i]?=some p->∀q∈rows.getD p [],q<2\/∃j:Nat,j<i/\e[j]?=some (q-2)
theorem post_nil (rows:List Row):Post rows []:=⟨List.nodup_nil,λp hp=>(nomatch hp),λi p h=>by simp at h⟩
theorem mem_pre {e s:List Nat}{j a:Nat}(h:e[j]?=some a):(e++s)[j]?=some a:=by
 have:=(List.getElem?_eq_some_iff.mp h).1
 rw[List.getElem?_append_left this];exact h
theorem dfs_post {rows:List Row}(ok:RowsOk rows):∀(d:Nat) (e:List Nat) (x:Nat),Post rows e->x<rows.length+2->dp rows x<=d->Post rows (dfs rows d e x)/\(x<2\/x-2∈dfs rows d e x)
 |0,e,x,pe,hx,hd=>by
  refine⟨pe,?_⟩
  by_cases h:x<2
  ·exact .inl h
  ·exfalso
   obtain⟨p,rfl⟩:∃p,x=p+2:=⟨x-2,by lia⟩
   have hp:rows[p]?=some (rows[p]'(by lia)):=by simp[show p<rows.length by lia]
   rw[dp_at ok hp] at hd
   lia
 |d+1,e,x,pe,hx,hd=>by
  unfold dfs
  split
  ·rename_i h
   exact⟨pe,h⟩
  ·rename_i h
   obtain⟨h1,h2⟩:=not_or.mp h
   obtain⟨p,rfl⟩:∃p,x=p+2:=⟨x-2,by lia⟩
   rw[Nat.add_sub_cancel] at h2 ⊢
   have hlt:p<rows.length:=by lia
   have hp:rows[p]?=some rows[p]:=by simp[hlt]
   have eg:rows.getD p []=rows[p]:=by simp[List.getD,hlt]
   rw[eg]
   have hdp:=dp_at ok hp
   have rk:=ok p _ hp
   have key:∀(l:List Nat) (e0:List Nat),(∀q∈l,q<p+2/\dp rows q<=d)->Post rows e0->Post rows (l.foldl (dfs rows d) e0)/\(∀q∈l,q<2\/q-2∈l.foldl (dfs rows d) e0)/\(∀a∈l.foldl (dfs rows d) e0,a∈e0\/a<p):=λl=>by
    induction l with
    |nil=>exact λe0 _ pe0=>⟨pe0,λq hq=>(nomatch hq),λa ha=>.inl ha⟩
    |cons q l ih=>
     intro e0 hl pe0
     obtain⟨hq1,hq2⟩:=hl q List.mem_cons_self
     obtain⟨p1,m1⟩:=dfs_post ok d e0 q pe0 (by lia) hq2
     obtain⟨p2,m2,n2⟩:=ih (dfs rows d e0 q) (λq' hq'=>hl q' (List.mem_cons_of_mem _ hq')) p1
     obtain⟨s,hs⟩:=foldl_ext (dfs_ext rows d) l (dfs rows d e0 q)
     refine⟨p2,λq' hq'=>?_,λa ha=>?_⟩
     ·rcases List.mem_cons.mp hq' with rfl|hq'
      ·rcases m1 with z|z
       ·exact .inl z
       ·rw[List.foldl_cons,hs];exact .inr (List.mem_append_left _ z)
      ·exact m2 q' hq'
     ·rcases n2 a ha with z|z
      ·
       have below:∀(d0:Nat) (e1:List Nat) (y:Nat),y<rows.length+2->∀a∈dfs rows d0 e1 y,a∈e1\/a+2<=y:=λd0=>by
        induction d0 with
        |zero=>exact λe1 y _ a ha=>.inl ha
        |succ d0 ihd=>
         intro e1 y hy a ha
         unfold dfs at ha
         split at ha
         ·exact .inl ha
         ·rename_i hh
          obtain⟨hh1,hh2⟩:=not_or.mp hh
          rcases List.mem_append.mp ha with ha|ha
          ·have hy2:y-2<rows.length:=by lia
           have eg2:rows.getD (y-2) []=rows[y-2]:=by simp[List.getD,hy2]
           rw[eg2] at ha
           have rk2:=ok (y-2) rows[y-2] (by simp[hy2])
           have kk:∀(l2:List Nat) (e2:List Nat),(∀q∈l2,q<y-2+2)->∀a∈l2.foldl (dfs rows d0) e2,a∈e2\/a+2<=y:=λl2=>by
            induction l2 with
            |nil=>exact λe2 _ a ha=>.inl ha
            |cons q2 l2 ih2=>
             intro e2 hl2 a ha
             rcases ih2 _ (λq' hq'=>hl2 q' (List.mem_cons_of_mem _ hq')) a ha with z|z
             ·have hq2:=hl2 q2 List.mem_cons_self
              rcases ihd e2 q2 (by lia) a z with z|z
              ·exact .inl z
              ·exact .inr (by lia)
             ·exact .inr z
           exact kk _ _ rk2.2 a ha
          ·have:a=y-2:=by simpa using ha
           exact .inr (by lia)
       rcases below d e0 q (by lia) a z with z|z
       ·exact .inl z
       ·exact .inr (by lia)
      ·exact .inr z
   obtain⟨k1,k2,k3⟩:=key rows[p] e (λq hq=>⟨rk.2 q hq,by
    have:dp rows q<=mx (rows[p].map (dp rows)):=le_mx (List.mem_map.mpr ⟨q,hq,rfl⟩)
    lia⟩) pe
   refine⟨⟨?_,?_,?_⟩,.inr (List.mem_append_right _ (by simp))⟩
   ·rw[List.nodup_append]
    refine⟨k1.nd,by simp,λa ha b hb=>?_⟩
    have:b=p:=by simpa using hb
    subst this
    intro z
    subst z
    rcases k3 a ha with z|z
    ·exact h2 z
    ·exact Nat.lt_irrefl _ z
   ·intro a ha
    rcases List.mem_append.mp ha with ha|ha
    ·exact k1.lt a ha
    ·have:a=p:=by simpa using ha
     lia
   ·intro i a hi q hq
    by_cases hlen:i<(rows[p].foldl (dfs rows d) e).length
    ·rw[List.getElem?_append_left hlen] at hi
     rcases k1.ch i a hi q hq with z|⟨j,hj,ej⟩
     ·exact .inl z
     ·exact .inr ⟨j,hj,mem_pre ej⟩
    ·rw[List.getElem?_append_right (by lia)] at hi
     have hi0:i-(rows[p].foldl (dfs rows d) e).length=0:=by
      have:=(List.getElem?_eq_some_iff.mp hi).1
      simp at this
      lia
     rw[hi0] at hi
     have:a=p:=by simpa using hi.symm
     subst this
     rw[eg] at hq
     rcases k2 q hq with z|z
     ·exact .inl z
     ·obtain⟨j,hj,ej⟩:=List.mem_iff_getElem.mp z
      exact .inr ⟨j,by lia,mem_pre (by simp[hj,ej])⟩
theorem nd_iff {α:Type}{l:List α}:l.Nodup<->∀i j:Nat,i<j->j<l.length->l[i]?≠l[j]?:=by
 unfold List.Nodup
 rw[List.pairwise_iff_getElem]
 constructor
 ·intro h i j hij hj z
  rw[List.getElem?_eq_getElem (by lia),List.getElem?_eq_getElem hj] at z
  exact h i j (by lia) hj hij (Option.some.inj z)
 ·intro h i j hi hj hij z
  refine h i j hij hj ?_
  rw[List.getElem?_eq_getElem hi,List.getElem?_eq_getElem hj,z]
def nm (E:List Nat) (q:Nat):Nat:=if q<2 then q else E.idxOf (q-2)+2
theorem getD_at {rows:List Row}{p:Nat}(h:p<rows.length):rows[p]?=some (rows.getD p []):=by
 simp[List.getD,h]
def Plain (r:Row):Prop:=r=[0,0,0,0]\/r=[1,1,1,1]
instance (r:Row):Decidable (Plain r):=by unfold Plain;infer_instance
structure Canon (n top:Nat) (rows:List Row):Prop where
 size:n<=12
 rok:RowsOk rows
 inn:top<rows.length+2
 deep:dp rows top<=n
 unplain:∀r∈rows,¬Plain r
 unlike:rows.Nodup
 ends:dfs rows n [] top=List.range rows.length
def ex (q:Nat):Nat:=if q<2 then 1-q else q
def mgK (K:List Row) (look:Row):List Row:=if look∈K then K else K++[look]
def mgStep (s:List Nat×List Row) (r:Row):List Nat×List Row:=(s.1++[s.2.idxOf (r.map (s.1.getD · 0))],mgK s.2 (r.map (s.1.getD · 0)))
def mg (rows:List Row):List Nat×List Row:=rows.foldl mgStep ([0,1],[[0,0,0,0],[1,1,1,1]])
structure MgOk (rows:List Row) (s:List Nat×List Row):Prop where
 len:s.1.length=rows.length+2
 two:2<=s.2.length
 fst:s.2.take 2=[[0,0,0,0],[1,1,1,1]]
 nd:s.2.Nodup
 lt:∀x∈s.1,x<s.2.length
 ok:RowsOk (s.2.drop 2)
 dp:∀x,dp (s.2.drop 2) (s.1.getD x 0)<=dp rows x
end Qf
namespace L2
open PySem PySem.Spec PyProof.Rows PySem.W
section
variable {X:Cx}
def tDict0:TE:=λ_ H Q=>∀p,H p=none->Q (.ref p) (upd H p (.dK []))
theorem pe_dict0 {pos:Pos}:PE X (.Dict [] [] pos) tDict0:=λpins s σ H Q I h=>by
 have hb:sysModules<s.heap.objs.size:=Nat.lt_trans (by decide) (I.mod.glob.keeps I.bk).lt
 exact wpAny_Dict_empty ⟨.ref s.heap.objs.size,_,I.laid (a:=s.heap.objs.size) (o:=.dK []) (t':=s.toks) (λ_ _ q=>Heap.get?_push_of_some _ q) (Nat.le_refl _) ⟨Nat.zero_le _,beq_eq_false_iff_ne.mpr (Ne.symm (Nat.ne_of_lt hb)),[],.nil,Heap.DictOf.new _⟩,rfl,h _ (I.hok.fresh (Nat.le_refl _))⟩
end
end L2
namespace L2
open PySem PySem.Spec PyProof.Rows PySem.W
section
variable {X:Cx}
theorem pe_compB {x:Str}{px pos:Pos}{elt iter:Expr}{scope:Scope}{wi:TI}{te:TE}(N:List Str) (sc:Scope) (hNe:X.N=N) (hsc:X.env.scope=sc) (hc:X.calm=true) (hN:X.N.Nodup) (hi:PI X (.Name x px) iter wi) (he:∀cl C fp s₀ H₀,PE (compCx X scope cl C x fp s₀ H₀) elt te)
  (hkind:scope.kind=.function:=by rfl) (hcell:scope.names.all (λy=>y.2 != .cell)=true:=by decide +kernel) (hnames:scope.names.all (λy=>y.2 != .local||scope.names.lookup y.1==some .local)=true:=by decide +kernel)
  (hx:scope.names.lookup x=some .local:=by rfl) (hloc:N.all (λy=>scope.names.lookup y != some .local)=true:=by decide +kernel)
  (hfr:scope.names.all (λp=>p.2 != .free||(sc.names.lookup p.1==some .cell||sc.names.lookup p.1==some .free))=true:=by decide +kernel)
  (hs:∀x,foldedSetIterable iter X.env x=pure x:=by intro _;rfl):PE X (.ListComp elt [⟨.Name x px,iter,[],0⟩] scope pos) (tComp wi te):=by
 refine pe_comp hc hN hi he hkind (λy hy=>?_) (λy hy hl=>?_) hx (λy hy=>?_) (λp hp hk=>?_) hs
 ·have:=List.all_eq_true.mp hcell y hy
  simpa using this
 ·have:=List.all_eq_true.mp hnames y hy
  simpa [hl] using this
 ·have:=List.all_eq_true.mp hloc y (by rw[<- hNe];exact hy)
  simpa using this
 ·have:=List.all_eq_true.mp hfr p hp
  rw[hk] at this
  have z:sc.names.lookup p.1=some .cell\/sc.names.lookup p.1=some .free:=by simpa using this
  rw[hsc]
  refine⟨.inr z,λq=>?_⟩
  rcases z with z|z<;>(rw[z] at q;cases q)
end
end L2
namespace L2
open PySem
theorem keepU {H:Hp}{a b:Addr}{o u:HO}(e:H a=some o) (hn:H b=none):upd H b u a=some o:=by rw[upd_ne (ne_of_none e hn)];exact e
theorem sameU {H:Hp}{a:Addr}{o:HO}(h:H a=none):Same H (upd H a o):=λb u e=>keepU e h
def Tups (H H':Hp):Prop:=∀b u,H b=some (.tup u)->H' b=some (.tup u)
theorem Same.tups {H H':Hp}(s:Same H H'):Tups H H':=λb u e=>s b _ e
theorem Tups.trans {H H1 H2:Hp}(a:Tups H H1) (b:Tups H1 H2):Tups H H2:=λc u e=>b c u (a c u e)
structure Goes (J:It) (H:Hp) (n:Nat) (item:Nat->V->Hp->Prop):Prop where
 go:∀i H2,i<n->Same H H2->J.go i H2
 yl:∀i H2 y H3,i<n->Same H H2->J.yld i H2 y H3->Same H2 H3/\item i y H3
 st:∀H2,Same H H2->J.stop n H2
theorem goes_tup {K:PySem.W.Frag}{H:Hp}{a:Addr}{xs:List V}(ha:H a=some (.tup xs)):Goes (Itt K a) H xs.length (λi y _=>xs[i]?=some y) where
 go:=λi H2 hi s=>⟨xs,xs[i],SqT.of (s _ _ ha),by simp[hi]⟩
 yl:=λi H2 y H3 hi s h=>by
  obtain⟨e,h⟩:=h
  subst e
  exact⟨Same.refl _,h xs (SqT.of (s _ _ ha))⟩
 st:=λH2 s=>⟨xs,SqT.of (s _ _ ha),Nat.le_refl _⟩
theorem goes_lst {K:PySem.W.Frag}{H:Hp}{a:Addr}{xs:List V}(ha:H a=some (.lst xs)):Goes (Itl K a) H xs.length (λi y _=>xs[i]?=some y) where
 go:=λi H2 hi s=>⟨xs,xs[i],SqL.of (s _ _ ha),by simp[hi]⟩
 yl:=λi H2 y H3 hi s h=>by
  obtain⟨e,h⟩:=h
  subst e
  exact⟨Same.refl _,h xs (SqL.of (s _ _ ha))⟩
 st:=λH2 s=>⟨xs,SqL.of (s _ _ ha),Nat.le_refl _⟩
theorem goes_rng {H:Hp}{n:Nat}:Goes (Itr 0 n) H n (λi y _=>y=.int (i:Int)) where
 go:=λi H2 hi s=>hi
 yl:=λi H2 y H3 hi s h=>by
  obtain⟨e,h⟩:=h
  subst e
  exact⟨Same.refl _,by rw[h,Int.zero_add]⟩
 st:=λH2 s=>Nat.le_refl n
theorem goes_enum {K:PySem.W.Frag}{H:Hp}{a:Addr}{xs:List V}(ha:H a=some (.tup xs)):Goes (Ite K a) H xs.length (λi y H3=>∃p x,y=.ref p/\xs[i]?=some x/\H3 p=some (.tup [.int i,x])) where
 go:=λi H2 hi s=>⟨xs,xs[i],SqT.of (s _ _ ha),by simp[hi]⟩
 yl:=λi H2 y H3 hi s h=>by
  obtain⟨p,x,hp,hx,rfl,rfl⟩:=h
  exact⟨sameU hp,p,x,rfl,hx xs (SqT.of (s _ _ ha)),upd_same⟩
 st:=λH2 s=>⟨xs,SqT.of (s _ _ ha),Nat.le_refl _⟩
theorem comp_walk {J:It}{H:Hp}{n:Nat}{item:Nat->V->Hp->Prop}{te:TE}{σ:St}{Fin:Hp->Prop}{D:Addr}(hD:H D=none) (Rel:Nat->V->Hp->Prop) (G:Goes J H n item) (hsz:n<sizeLine)
  (mono:∀i y H1 H2,i<n->Tups H1 H2->Rel i y H1->Rel i y H2)
  (step:∀i x H2,i<n->item i x H2->Same H H2->∀Q':VK,(∀y H3,Same H2 H3->Rel i y H3->Q' y H3)->te (some x::σ) H2 Q')
  (fin:∀ys H2,Same H H2->H2 D=some (.lst ys)->ys.length=n->(∀i y,ys[i]?=some y->Rel i y H2)->Fin H2) :
  ∃W:Nat->Nat->List V->Hp->Prop,(∃m,W 0 m [] (upd H D (.lst []))) /\
   ∀i m xs H2,W i m xs H2->H2 D=some (.lst xs)/\xs.length<sizeLine/\((J.stop i H2/\Fin H2)\/(J.go i H2/\∀y H3,J.yld i H2 y H3 ->
    te (some y::σ) H3 λv H4=>H4 D=some (.lst xs)/\∃m',m'<m/\W (i+1) m' (xs++[v]) (upd H4 D (.lst (xs++[v]))))):=by
 refine⟨λi m ys H2=>i<=n/\m=n-i/\ys.length=i/\H2 D=some (.lst ys)/\Same H H2/\∀j y,ys[j]?=some y->Rel j y H2,⟨n,Nat.zero_le _,rfl,rfl,upd_same,sameU hD,λj y h=>by simp at h⟩,?_⟩
 rintro i m ys H2 ⟨hi,rfl,hl,hd,s2,rel⟩
 refine⟨hd,by lia,?_⟩
 by_cases he:i=n
 ·subst he
  exact .inl ⟨G.st H2 s2,fin ys H2 s2 hd hl rel⟩
 ·refine .inr ⟨G.go i H2 (by lia) s2,λy H3 hy=>?_⟩
  obtain⟨s3,it⟩:=G.yl i H2 y H3 (by lia) s2 hy
  refine step i y H3 (by lia) it (s2.trans s3) _ λv H4 s4 r4=>?_
  have hd4:=s4 _ _ (s3 _ _ hd)
  refine⟨hd4,n-(i+1),by lia,by lia,rfl,by rw[List.length_append,hl];rfl,upd_same,?_,?_⟩
  ·intro b o e
   rw[upd_ne (ne_of_none e hD)]
   exact s4 _ _ (s3 _ _ (s2 _ _ e))
  ·have tk:Tups H4 (upd H4 D (.lst (ys++[v]))):=λb u e=>by
    have:b≠D:=λz=>by subst z;rw[hd4] at e;cases e
    rw[upd_ne this];exact e
   intro j z hz
   by_cases hj:j<i
   ·rw[List.getElem?_append_left (by lia)] at hz
    exact mono j z H4 _ (by lia) tk (mono j z H2 H4 (by lia) (s3.trans s4).tups (rel j z hz))
   ·rw[List.getElem?_append_right (by lia)] at hz
    have:j-ys.length=0:=by
     have:=(List.getElem?_eq_some_iff.mp hz).1
     simp at this
     lia
    rw[this] at hz
    have:z=v:=by simpa using hz.symm
    subst this
    have:j=i:=by lia
    subst this
    exact mono _ _ H4 _ (by lia) tk r4
theorem compG_walk {J:It}{H:Hp}{n k:Nat}{item:Nat->V->Hp->Prop}{g:TG}{tt:TT}{te:TE}{σ:St}{Fin:Hp->Prop}{D:Addr}(hD:H D=none) (yes:Nat->Bool) (val:Nat->V) (G:Goes J H n item) (hsz:n<sizeLine)
  (step:∀i x H2,i<n->item i x H2->Same H H2->∀os:St,os.length=k->∀(Q1:Hp->Prop) (Q2:VK),(yes i=false->∀H3,Same H2 H3->Q1 H3)->(yes i=true->∀H3,Same H2 H3->Q2 (val i) H3) ->
   g x (os++σ) H2 λσ4 H4=>tt σ4 H4 λb H5=>if b=true then te σ4 H5 Q2 else Q1 H5)
  (fin:∀H2,Same H H2->H2 D=some (.lst (((List.range n).filter yes).map val))->Fin H2) :
  ∃W:Nat->Nat->List V->Hp->Prop,(∃m,W 0 m [] (upd H D (.lst []))) /\
   ∀i m xs H2,W i m xs H2->H2 D=some (.lst xs)/\xs.length<sizeLine/\((J.stop i H2/\Fin H2)\/(J.go i H2/\∀y H3,J.yld i H2 y H3->∀os:St,os.length=k ->
    g y (os++σ) H3 λσ4 H4=>tt σ4 H4 λb H5=>if b=true then te σ4 H5 λv H6=>H6 D=some (.lst xs)/\∃m',m'<m/\W (i+1) m' (xs++[v]) (upd H6 D (.lst (xs++[v]))) else ∃m',m'<m/\W (i+1) m' xs H5)):=by
 refine⟨λi m ys H2=>i<=n/\m=n-i/\ys=((List.range i).filter yes).map val/\H2 D=some (.lst ys)/\Same H H2,⟨n,Nat.zero_le _,rfl,rfl,upd_same,sameU hD⟩,?_⟩
 rintro i m ys H2 ⟨hi,rfl,hl,hd,s2⟩
 have hlen:ys.length<=i:=by
  rw[hl,List.length_map]
  exact Nat.le_trans (List.length_filter_le _ _) (by simp)
 refine⟨hd,by lia,?_⟩
 by_cases he:i=n
 ·subst he
  exact .inl ⟨G.st H2 s2,fin H2 s2 (hl▸hd)⟩
 ·refine .inr ⟨G.go i H2 (by lia) s2,λy H3 hy os ho=>?_⟩
  obtain⟨s3,it⟩:=G.yl i H2 y H3 (by lia) s2 hy
  refine step i y H3 (by lia) it (s2.trans s3) os ho _ _ (λhno H4 s4=>?_) (λhyes H4 s4=>?_)
  ·refine⟨n-(i+1),by lia,by lia,rfl,?_,s4 _ _ (s3 _ _ hd),(s2.trans s3).trans s4⟩
   rw[hl,List.range_succ,List.filter_append]
   simp[hno]
  ·have hd4:=s4 _ _ (s3 _ _ hd)
   refine⟨hd4,n-(i+1),by lia,by lia,rfl,?_,upd_same,λb o e=>?_⟩
   ·rw[hl,List.range_succ,List.filter_append]
    simp[hyes]
   ·rw[upd_ne (ne_of_none e hD)]
    exact s4 _ _ (s3 _ _ (s2 _ _ e))
theorem ixL {X:Cx}(K:PySem.W.Frag) (h:X.K=K):IxR X (rIxL K):=h▸ix_list
theorem ixT {X:Cx}(K:PySem.W.Frag) (h:X.K=K):IxR X (rIxT K):=h▸ix_tup
theorem tupO {X:Cx}(K:PySem.W.Frag) (h:X.K=K):CallR X (.type "tuple") (λxs H Q=>∃p ys,xs=[.ref p]/\((SqL K H p ys/\∀l,H l=none->Q (.ref l) (upd H l (.tup ys)))\/(SqT K H p ys/\Q (.ref p) H))):=h▸call_tuple_of
theorem piT {X:Cx}{tg l:Expr}{tl:TE}(K:PySem.W.Frag) (h:X.K=K) (hl:PE X l tl):PI X tg l (iTup K tl):=h▸pi_tup hl
theorem piL {X:Cx}{tg l:Expr}{tl:TE}(K:PySem.W.Frag) (h:X.K=K) (hl:PE X l tl):PI X tg l (iList K tl):=h▸pi_list hl
inductive Sts (X:Cx):List Stmt->TS->Prop
 |one {st:Stmt}{t:TS}(h:PS X st t):Sts X [st] t
 |cons {st:Stmt}{rest:List Stmt}{t u:TS}(h:PS X st t) (r:Sts X rest u):Sts X (st::rest) (tSeq t u)
theorem Sts.go {X:Cx}:∀{l:List Stmt}{t:TS},Sts X l t->PSs X l t
 |_,_,.one h=>pss_one h
 |_,_,.cons h r=>pss_cons h r.go
end L2
namespace Pr
open PySem L2
abbrev sWhole:Stmt:=top 22
abbrev sPlain:Stmt:=top 23
abbrev sDeps:Stmt:=top 24
abbrev sEnd:Stmt:=top 25
abbrev sPlaces:Stmt:=top 26
abbrev sSize:Stmt:=top 29
abbrev sWantF:Stmt:=top 30
abbrev sNumber:Stmt:=top 32
abbrev sRow:Stmt:=top 33
abbrev sRows:Stmt:=top 34
abbrev sTelling:Stmt:=top 35
abbrev sShape:Stmt:=top 36
abbrev sWantS:Stmt:=top 37
abbrev sEmpty:Stmt:=top 38
abbrev sFull:Stmt:=top 39
abbrev sLineOf:Stmt:=top 41
abbrev sText:Stmt:=top 42
abbrev lPot:Stmt:=top 44
abbrev lDigit:Stmt:=top 45
abbrev lCells:Stmt:=top 46
abbrev lBox:Stmt:=top 47
abbrev lBoxes:Stmt:=top 48
abbrev lMeets:Stmt:=top 49
abbrev lHas:Stmt:=top 50
abbrev lNumber:Stmt:=top 51
abbrev lShape:Stmt:=top 52
abbrev lKinds:Stmt:=top 53
abbrev lAsked:Stmt:=top 54
abbrev lMade:Stmt:=top 55
abbrev lOdd:Stmt:=top 56
abbrev lOddSz:Stmt:=top 57
abbrev lNoSh:Stmt:=top 58
abbrev lLaw:Stmt:=top 59
end Pr
namespace Pr
open PySem L2 Qf
structure Blt (mg:Str->Option Value):Prop where
 isi:mg "isinstance" = none
 int:mg "int" = none
 bool:mg "bool" = none
 tuple:mg "tuple" = none
 list:mg "list" = none
 set:mg "set" = none
 len:mg "len" = none
 all:mg "all" = none
 any:mg "any" = none
 enum:mg "enumerate" = none
 range:mg "range" = none
 max:mg "max" = none
 min:mg "min" = none
structure Cst (mg:Str->Option Value):Prop where
 first:∃t,mg "FIRST" = some (.int 2 t)
 full:∃t,mg "FULL" = some (.int 1 t)
 great:∃t,mg "GREATEST_SIZE" = some (.int 12 t)
def vN (r:List Nat):List V:=r.map λn:Nat=>V.int (n:Int)
theorem vN_len (r:List Nat):(vN r).length=r.length:=List.length_map ..
theorem vN_get {r:List Nat}{i:Nat}{x:V}(h:(vN r)[i]?=some x):∃n:Nat,r[i]?=some n/\x=.int (n:Int):=by
 unfold vN at h
 rw[List.getElem?_map] at h
 obtain⟨n,h1,h2⟩:=Option.map_eq_some_iff.mp h
 exact⟨n,h1,h2.symm⟩
theorem vN_at {r:List Nat}{i n:Nat}(h:r[i]?=some n):(vN r)[i]?=some (.int (n:Int)):=by
 unfold vN
 rw[List.getElem?_map,h];rfl
theorem vN_atI {r:List Nat}{i n:Nat}(h:r[i]?=some n):atI (vN r) (i:Int)=some (.int (n:Int)):=atI_nat (vN_at h)
theorem vN_int (r:List Nat):vN r=(r.map λn:Nat=>(n:Int)).map V.int:=by unfold vN;rw[List.map_map];rfl
def RowsAt (H:Hp) (p:Addr) (rows:List Row):Prop:=∃bs:List Addr,H p=some (.tup (bs.map V.ref))/\bs.length=rows.length/\∀(i:Nat) b r,bs[i]?=some b->rows[i]?=some r->H b=some (.tup (vN r))
theorem RowsAt.mono {H H':Hp}{p:Addr}{rows:List Row}(h:RowsAt H p rows) (t:Tups H H'):RowsAt H' p rows:=by
 obtain⟨bs,h1,h2,h3⟩:=h
 exact⟨bs,t _ _ h1,h2,λi b r e1 e2=>t _ _ (h3 i b r e1 e2)⟩
theorem RowsAt.same {H H':Hp}{p:Addr}{rows:List Row}(h:RowsAt H p rows) (t:Same H H'):RowsAt H' p rows:=h.mono t.tups
def RowsS (H:Hp) (p:Addr) (rows:List Row):Prop:=∃bs:List Addr,(H p=some (.tup (bs.map V.ref))\/H p=some (.lst (bs.map V.ref)))/\bs.length=rows.length/\∀(i:Nat) b r,bs[i]?=some b->rows[i]?=some r->H b=some (.tup (vN r))
theorem RowsAt.s {H:Hp}{p:Addr}{rows:List Row}(h:RowsAt H p rows):RowsS H p rows:=let ⟨bs,a,b,c⟩:=h;⟨bs,.inl a,b,c⟩
theorem RowsS.same {H H':Hp}{p:Addr}{rows:List Row}(h:RowsS H p rows) (s:Same H H'):RowsS H' p rows:=by
 obtain⟨bs,h1,h2,h3⟩:=h
 exact⟨bs,h1.imp (s _ _) (s _ _),h2,λi b r e1 e2=>s _ _ (h3 i b r e1 e2)⟩
def rIxS (K:PySem.W.Frag):R2:=λx y H Q=>rIxL K x y H Q\/rIxT K x y H Q
theorem ixS {X:Cx}(K:PySem.W.Frag) (h:X.K=K):IxR X (rIxS K):=(ixL K h).or (ixT K h)
section
variable {P:Program}{w:World}{K:PySem.W.Frag}{mg:Str->Option Value}{base:Heap}
theorem scWhole:FnScope ["thing"] ["thing"] (defScope sWhole):=⟨rfl,rfl,rfl,by decide +kernel,rfl,by decide +kernel,by decide +kernel⟩
def spWhole:Sp:=λvs H Q _=>∃i:Int,vs=[.int i]/\Q (.bl true) H
theorem ok_whole {f:Addr}{fd:FuncData}(F:Fun K "is_whole" "is_whole" sWhole f fd) (B:Blt mg):FnOk P w K mg base CX0 1 f fd ["thing"] spWhole:=by
 refine F.ok scWhole (λvs H Q E h=>?_) (λcdv A outer s H vs Q E hr h=>?_)
 ·obtain⟨i,rfl,_⟩:=h
  rfl
 ·obtain⟨i,rfl,q⟩:=h
  refine⟨_,pss_one (ps_ret (pe_and (pe_callB call_isi (by rfl) B.isi PyProof.Rows.boot_isinstance (pa_cons (pv 0) (pa_cons (pe_bltn (v:=.ty "int") (by rfl) B.int PyProof.Rows.boot_int rfl) pa_nil)))
   (pe_one (pe_not (pe_callB call_isi (by rfl) B.isi PyProof.Rows.boot_isinstance (pa_cons (pv 0) (pa_cons (pe_bltn (v:=.ty "bool") (by rfl) B.bool PyProof.Rows.boot_bool rfl) pa_nil))))))),?_⟩
  exact⟨_,rfl,_,_,_,_,true,rfl,rfl,.inl (.int i),rfl,_,rfl,iteT ⟨_,rfl,_,_,_,_,false,rfl,rfl,.inl (.int i),rfl,_,rfl,q⟩⟩
theorem scSize:FnScope ["thing"] ["thing"] (defScope sSize):=⟨rfl,rfl,rfl,by decide +kernel,rfl,by decide +kernel,by decide +kernel⟩
def spSize:Sp:=λvs H Q _=>∃n:Nat,vs=[.int n]/\n<=12/\Q (.bl true) H
theorem ok_size {f fW:Addr}{fd fdW:FuncData}(F:Fun K "is_size" "is_size" sSize f fd) (B:Blt mg) (T:Cst mg) (hW:mg "is_whole" = some (.ref fW)) (FW:Fun K "is_whole" "is_whole" sWhole fW fdW) (bW:Binds K fdW ["thing"] []):FnOk P w K mg base CX0 2 f fd ["thing"] spSize:=by
 have GW:FnOk P w K mg base CX0 1 fW fdW ["thing"] spWhole:=ok_whole FW B
 obtain⟨tg,hgr⟩:=T.great
 refine F.ok scSize (λvs H Q E h=>?_) (λcdv A outer s H vs Q E hr h=>?_)
 ·obtain⟨x,rfl,_⟩:=h
  rfl
 ·obtain⟨n,rfl,hn,q⟩:=h
  refine⟨_,pss_one (ps_ret (pe_and (pe_call GW hr (by rfl) hW FW.kp bW .nil pass0 (pa_cons (pv 0) pa_nil)) (pe_one (pe_chain op_le op_le pe_int (pv 0) (pe_glob (v:=.int 12) (by rfl) hgr ⟨_,rfl⟩))))),?_⟩
  refine⟨_,rfl,n,rfl,_,rfl,iteT ⟨_,rfl,_,_,rfl,rfl,_,rfl,?_⟩⟩
  have e:decide ((n:Int)<=12)=true:=decide_eq_true (by lia)
  refine ite2 (λ_=>⟨_,_,rfl,rfl,?_⟩) (λh1=>absurd (decide_eq_true (Int.natCast_nonneg n)) h1)
  show Q (V.bl (decide ((n:Int)<=12))) H
  rw[e];exact q
theorem scNumber:FnScope ["thing", "many"] ["thing", "many"] (defScope sNumber):=⟨rfl,rfl,rfl,by decide +kernel,rfl,by decide +kernel,by decide +kernel⟩
def spNumber:Sp:=λvs H Q _=>∃n m:Nat,vs=[.int n,.int m]/\n<m+2/\Q (.bl true) H
theorem ok_number {f fW:Addr}{fd fdW:FuncData}(F:Fun K "is_number" "is_number" sNumber f fd) (B:Blt mg) (T:Cst mg) (hW:mg "is_whole" = some (.ref fW)) (FW:Fun K "is_whole" "is_whole" sWhole fW fdW) (bW:Binds K fdW ["thing"] []):FnOk P w K mg base CX0 2 f fd ["thing", "many"] spNumber:=by
 have GW:FnOk P w K mg base CX0 1 fW fdW ["thing"] spWhole:=ok_whole FW B
 obtain⟨tf,hf⟩:=T.first
 refine F.ok scNumber (λvs H Q E h=>?_) (λcdv A outer s H vs Q E hr h=>?_)
 ·obtain⟨n,m,rfl,_⟩:=h
  rfl
 ·obtain⟨n,m,rfl,hn,q⟩:=h
  refine⟨_,pss_one (ps_ret (pe_and (pe_call GW hr (by rfl) hW FW.kp bW .nil pass0 (pa_cons (pv 0) pa_nil)) (pe_one (pe_chain op_le op_lt pe_int (pv 0) (pe_op op_add (pv 1) (pe_glob (v:=.int 2) (by rfl) hf ⟨_,rfl⟩)))))),?_⟩
  refine⟨_,rfl,n,rfl,_,rfl,iteT ⟨_,rfl,_,_,rfl,rfl,_,rfl,?_⟩⟩
  have e:decide ((n:Int)<(m:Int)+2)=true:=decide_eq_true (by lia)
  refine ite2 (λ_=>⟨_,rfl,_,_,rfl,rfl,_,_,rfl,rfl,?_⟩) (λh1=>absurd (decide_eq_true (Int.natCast_nonneg n)) h1)
  show Q (V.bl (decide ((n:Int)<(m:Int)+2))) H
  rw[e];exact q
theorem scPlain:FnScope ["row"] ["row"] (defScope sPlain):=⟨rfl,rfl,rfl,by decide +kernel,rfl,by decide +kernel,by decide +kernel⟩
def spPlain:Sp:=λvs H Q _=>∃(b:Addr) (r:Row),vs=[.ref b]/\H b=some (.tup (vN r))/\r.length=4/\∀H',Same H H'->Q (.bl (decide (Plain r))) H'
theorem int_inj {l m:List Nat}(h:(l.map λn:Nat=>(n:Int))=m.map λn:Nat=>(n:Int)):l=m:=by
 induction l generalizing m with
 |nil=>cases m with
  |nil=>rfl
  |cons b m=>simp at h
 |cons a l ih=>cases m with
  |nil=>simp at h
  |cons b m=>
   rw[List.map_cons,List.map_cons] at h
   injection h with h1 h2
   rw[ih h2,Int.ofNat.inj h1]
theorem ok_plain {f:Addr}{fd:FuncData}(F:Fun K "is_plain" "is_plain" sPlain f fd) (T:Cst mg):FnOk P w K mg base CX0 2 f fd ["row"] spPlain:=by
 obtain⟨tf,hf⟩:=T.first
 refine F.ok scPlain (λvs H Q E h=>?_) (λcdv A outer s H vs Q E hr h=>?_)
 ·obtain⟨b,r,rfl,_⟩:=h
  rfl
 ·obtain⟨b,r,rfl,hb,hl,q⟩:=h
  refine⟨_,pss_one (ps_ret (pe_and (pe_cmpR op_lt (pe_ix ix_tup (pv 0) pe_int (λ_ _=>rfl)) (pe_glob (v:=.int 2) (by rfl) hf ⟨_,rfl⟩) (nomark _))
   (pe_one (pe_cmpR (op_eqD hr) (pv 0) (pe_op op_repT (pe_tup (pa_cons (pe_ix ix_tup (pv 0) pe_int (λ_ _=>rfl)) pa_nil)) pe_int) (nomark _))))),?_⟩
  match r,hl with
  |[x0,x1,x2,x3],_=>
   refine⟨_,rfl,b,_,0,.int x0,rfl,rfl,SqT.of hb,rfl,_,_,rfl,rfl,_,rfl,?_⟩
   refine ite2 (λhc=>?_) (λhc=>?_)
   ·have h2:x0<2:=by have:=of_decide_eq_true hc;lia
    refine⟨_,rfl,_,rfl,b,_,0,.int x0,rfl,rfl,SqT.of hb,rfl,(by show 1<=sizeLine;decide),λp hp=>⟨p,4,.int x0,rfl,rfl,upd_same,by decide,by decide,λp2 hp2=>?_⟩⟩
    have hb2:=keepU (u:=.tup (List.replicate 4 (V.int x0))) (keepU (u:=.tup [V.int x0]) hb hp) hp2
    refine⟨dT [(x0:Int),(x1:Int),(x2:Int),(x3:Int)],dT [(x0:Int),(x0:Int),(x0:Int),(x0:Int)],.tup hb2 (DatasAt.ints [(x0:Int),(x1:Int),(x2:Int),(x3:Int)]),.tup upd_same (DatasAt.ints [(x0:Int),(x0:Int),(x0:Int),(x0:Int)]),dT_lay _,dT_lay _,(by show 1<=60;decide),?_⟩
    rw[dT_eqv]
    have e:decide (([(x0:Int),(x1:Int),(x2:Int),(x3:Int)]:List Int)=([(x0:Int),(x0:Int),(x0:Int),(x0:Int)]:List Int))=decide (Plain [x0,x1,x2,x3]):=by
     congr 1
     apply propext
     unfold Plain
     constructor
     ·intro z
      have:[x0,x1,x2,x3]=[x0,x0,x0,x0]:=int_inj (l:=[x0,x1,x2,x3]) (m:=[x0,x0,x0,x0]) z
      have:x0=0\/x0=1:=by lia
      rcases this with rfl|rfl
      ·exact .inl ‹_›
      ·exact .inr ‹_›
     ·rintro (z|z)<;>(cases z;rfl)
    rw[e]
    exact q _ ((sameU hp).trans (sameU hp2))
   ·have h2:¬x0<2:=λz=>hc (decide_eq_true (by lia))
    have e:decide (Plain [x0,x1,x2,x3])=false:=decide_eq_false (by
     rintro (z|z)<;>(cases z;lia))
    have:=q H (Same.refl H)
    rw[e] at this
    exact this
end
end Pr
namespace Qf
theorem mx_snoc (l:List Nat) (a:Nat):mx (l++[a])=max (mx l) a:=by
 induction l with
 |nil=>show max a 0=max 0 a;lia
 |cons b l ih=>show max b (mx (l++[a]))=max (max b (mx l)) a;rw[ih];lia
theorem best_mx (l:List Nat):∀k,k<l.length->L2.best (l.map λn:Nat=>(n:Int)) k=(mx (l.take (k+1)):Nat)
 |0,h=>by
  cases l with
  |nil=>simp at h
  |cons a l=>show ((a:Nat):Int)=((max a 0:Nat):Int);simp
 |k+1,h=>by
  have ih:=best_mx l k (by lia)
  have e:(l.map λn:Nat=>(n:Int)).getD (k+1) 0=((l[k+1]:Nat):Int):=by simp[List.getD,h]
  have t:l.take (k+1+1)=l.take (k+1)++[l[k+1]]:=by rw[List.take_append_getElem h]
  unfold L2.best
  rw[e,ih,t,mx_snoc]
  split<;>lia
theorem best_all {l:List Nat}(h:l≠[]):L2.best (l.map λn:Nat=>(n:Int)) ((l.map λn:Nat=>(n:Int)).length-1)=(mx l:Nat):=by
 have hl:0<l.length:=List.length_pos_iff.mpr h
 rw[List.length_map,best_mx l (l.length-1) (by lia),show l.length-1+1=l.length by lia,List.take_length]
theorem deps_take {rows:List Row}{i:Nat}{r:Row}(h:rows[i]?=some r):deps (rows.take (i+1))=deps (rows.take i)++[1+mx (r.map (dp (rows.take i)))]:=by
 have hl:=(List.getElem?_eq_some_iff.mp h).1
 have he:=(List.getElem?_eq_some_iff.mp h).2
 rw[<- deps_snoc,<- he,List.take_append_getElem hl]
theorem dp_get {rows:List Row}{x:Nat}(h:x<rows.length+2):(deps rows)[x]?=some (dp rows x):=by
 unfold dp
 rw[List.getD_eq_getElem?_getD]
 have:x<(deps rows).length:=by rw[deps_len];exact h
 rw[List.getElem?_eq_getElem this];rfl
end Qf
namespace Pr
open PySem L2 Qf
theorem list_ext {xs ys:List V}(hl:xs.length=ys.length) (h:∀(i:Nat) x,xs[i]?=some x->ys[i]?=some x):xs=ys:=by
 refine List.ext_getElem? λi=>?_
 cases e:xs[i]? with
 |some x=>exact (h i x e).symm
 |none=>
  have:xs.length<=i:=List.getElem?_eq_none_iff.mp e
  exact (List.getElem?_eq_none (by lia)).symm
section
variable {P:Program}{w:World}{K:PySem.W.Frag}{mg:Str->Option Value}{base:Heap}
theorem scDeps:FnScope ["rows", "depths", "row"] ["rows"] (defScope sDeps):=⟨rfl,rfl,rfl,by decide +kernel,rfl,by decide +kernel,by decide +kernel⟩
def spDeps:Sp:=λvs H Q _=>∃(p:Addr) (rows:List Row),vs=[.ref p]/\RowsAt H p rows/\RowsOk rows/\rows.length<=900/\∀H' D,Same H H'->H' D=some (.lst (vN (deps rows)))->Q (.ref D) H'
theorem ok_deps {f:Addr}{fd:FuncData}(F:Fun K "depths_of" "depths_of" sDeps f fd) (B:Blt mg):FnOk P w K mg base CX0 1 f fd ["rows"] spDeps:=by
 refine F.ok scDeps (λvs H Q E h=>?_) (λcdv A outer s H vs Q E hr h=>?_)
 ·obtain⟨p,rows,rfl,_⟩:=h
  rfl
 ·obtain⟨p,rows,rfl,hR,ok,hn,q⟩:=h
  refine⟨_,pss_cons (ps_set (i:=1) scDeps.nd rfl (by first|exact Or.inl rfl|exact Or.inr rfl) (pe_lst (pa_cons pe_int (pa_cons pe_int pa_nil))))
   (pss_cons (ps_for PassesOwn.never rfl (pi_tup (pv 0)) (pg_name (i:=2) scDeps.nd rfl (by first|exact Or.inl rfl|exact Or.inr rfl))
    (pss_one (ps_expr (pe_bm PySem.F.plainAttrs_list PySem.F.slot_list_append PySem.F.type_list_append mt_append (pv 1) (pa_cons (pe_op op_add pe_int (pe_callB (call_maxL rfl) (by rfl) B.max PyProof.Rows.boot_max
     (pa_cons (pe_compB ["rows", "depths", "row"] (defScope sDeps) rfl rfl rfl scDeps.nd (pi_tup (pv 2)) (λcl C fp s₀ H₀=>pe_ix (ixL K rfl) (pv 2) (pv 0) (λ_ _=>rfl))) pa_nil))) pa_nil)))))
   (pss_one (ps_ret (pv 1)))),?_⟩
  refine⟨(by show 2<=sizeLine;decide),λD hD=>?_⟩
  obtain⟨bs,hp,hlen,hrow⟩:=id hR
  have hp1:=keepU (u:=.lst [.int 0,.int 0]) hp hD
  have hlb:(bs.map V.ref).length=rows.length:=by rw[List.length_map];exact hlen
  refine⟨_,rfl,p,rfl,⟨_,SqT.of hp1⟩,for_tup (K:=K) (a:=p) (xs:=bs.map V.ref) (λi σ H2=>Same H H2/\H2 D=some (.lst (vN (deps (rows.take i))))/\∃v2,σ=[some (.ref p),some (.ref D),v2])
   ⟨sameU hD,upd_same,none,rfl⟩ (λi σ H2 _ ⟨s2,_⟩=>SqT.of (s2 _ _ hp)) ?_ ?_⟩
  ·rintro i y σ H2 hy ⟨s2,hd2,v2,rfl⟩
   have hi:i<rows.length:=by rw[<- hlb];exact (List.getElem?_eq_some_iff.mp hy).1
   rw[List.getElem?_map] at hy
   obtain⟨b,hb,rfl⟩:=Option.map_eq_some_iff.mp hy
   have hr1:rows[i]?=some rows[i]:=by simp[hi]
   have hbt:=s2 _ _ (hrow i b rows[i] hb hr1)
   have rk:=ok i _ hr1
   have tl:(rows.take i).length=i:=by rw[List.length_take];lia
   have hds:∀x,x<i+2->(deps (rows.take i))[x]?=some (dp (rows.take i) x):=λx hx=>dp_get (by rw[tl];exact hx)
   generalize rows[i]=r at hr1 hbt rk
   refine⟨_,rfl,.inl ⟨rfl,_,SqL.of hd2⟩,_,rfl,b,rfl,⟨_,SqT.of hbt⟩,λD2 hD2=>comp_walk hD2 (λj z _=>∃x,r[j]?=some x/\z=.int (dp (rows.take i) x:Nat)) (goes_tup (K:=K) hbt) (by rw[vN_len,rk.1];decide) (λ_ _ _ _ _ _ h=>h) ?_ ?_⟩
   ·intro j x H3 hj hx s3 Q' hq
    obtain⟨m,hm,rfl⟩:=vN_get hx
    have hlt:=rk.2 m (List.mem_of_getElem? hm)
    exact⟨_,rfl,_,rfl,D,_,(m:Int),.int (dp (rows.take i) m:Nat),rfl,rfl,SqL.of (s3 _ _ hd2),vN_atI (hds m hlt),hq _ _ (Same.refl _) ⟨m,hm,rfl⟩⟩
   ·intro ys H3 s3 hd3 hly hys
    have ey:ys=(r.map (dp (rows.take i))).map (λn:Nat=>V.int (n:Int)):=by
     refine list_ext (by rw[hly,vN_len,List.length_map,List.length_map]) λj x hx=>?_
     obtain⟨m,hm,rfl⟩:=hys j x hx
     rw[List.getElem?_map,List.getElem?_map,hm];rfl
    have e2:ys=((r.map (dp (rows.take i))).map (λn:Nat=>(n:Int))).map V.int:=ey.trans (vN_int _)
    have hne:r.map (dp (rows.take i))≠[]:=λz=>by
     have:=congrArg List.length z
     rw[List.length_map,rk.1] at this
     cases this
    refine⟨D2,(r.map (dp (rows.take i))).map (λn:Nat=>(n:Int)),rfl,e2▸hd3,λz=>hne (List.map_eq_nil_iff.mp z),_,_,rfl,rfl,?_⟩
    rw[best_all hne]
    have hd4:=s3 _ _ hd2
    refine⟨D,_,_,rfl,rfl,hd4,?_,?_⟩
    ·rw[vN_len,deps_len,tl];exact small1000 (by lia)
    ·have nD:∀b o,H b=some o->b≠D:=λb o e=>ne_of_none e hD
     refine⟨λb o e=>by rw[upd_ne (nD b o e)];exact s3 _ _ (s2 _ _ e),?_,_,rfl⟩
     rw[upd_same,deps_take hr1]
     unfold vN
     rw[List.map_append]
     rfl
  ·rintro σ H2 ⟨s2,hd2,v2,rfl⟩
   refine⟨_,rfl,q H2 D s2 ?_⟩
   rw[hlb,List.take_length] at hd2
   exact hd2
end
end Pr
namespace Qf
theorem post_len {rows:List Row}{e:List Nat}(h:Post rows e):e.length<=rows.length:=by
 have:=h.nd.length_le_of_subset (l₂:=List.range rows.length) λp hp=>List.mem_range.mpr (h.lt p hp)
 simpa using this
theorem fold_post {rows:List Row}(ok:RowsOk rows){d p:Nat}{r:Row}(hp:rows[p]?=some r) (hd:dp rows (p+2)<=d+1):∀(l e:List Nat),(∀q∈l,q∈r)->Post rows e->Post rows (l.foldl (dfs rows d) e)
 |[],_,_,pe=>pe
 |q::l,e,hl,pe=>by
  have hq:=hl q List.mem_cons_self
  have hlt:=(ok p r hp).2 q hq
  have hpl:=(List.getElem?_eq_some_iff.mp hp).1
  have hdq:dp rows q<=d:=by
   have:=le_mx (List.mem_map.mpr ⟨q,hq,rfl⟩:dp rows q∈r.map (dp rows))
   have e:=dp_at ok hp
   lia
  exact fold_post ok hp hd l _ (λz hz=>hl z (List.mem_cons_of_mem _ hz)) (dfs_post ok d e q pe (by lia) hdq).1
theorem dp_quarter {rows:List Row}(ok:RowsOk rows){d p:Nat}{r:Row}(hp:rows[p]?=some r) (hd:dp rows (p+2)<=d+1){q:Nat}(hq:q∈r):q<rows.length+2/\dp rows q<=d:=by
 have hlt:=(ok p r hp).2 q hq
 have hpl:=(List.getElem?_eq_some_iff.mp hp).1
 have:=le_mx (List.mem_map.mpr ⟨q,hq,rfl⟩:dp rows q∈r.map (dp rows))
 have e:=dp_at ok hp
 exact⟨by lia,by lia⟩
theorem dp_pos {rows:List Row}(ok:RowsOk rows){x:Nat}(hx:x<rows.length+2) (h:dp rows x<=0):x<2:=by
 by_cases z:x<2
 ·exact z
 ·exfalso
  have hp:x-2<rows.length:=by lia
  have:=dp_at ok (getD_at hp)
  rw[show x-2+2=x by lia] at this
  lia
end Qf
namespace Pr
open PySem L2 Qf
def But (e:Addr) (H H':Hp):Prop:=∀b o,H b=some o->b≠e->H' b=some o
theorem But.refl (e:Addr) (H:Hp):But e H H:=λ_ _ h _=>h
theorem But.trans {e:Addr}{H H1 H2:Hp}(a:But e H H1) (b:But e H1 H2):But e H H2:=λc o h n=>b c o (a c o h n) n
theorem But.upd {e:Addr}{H:Hp}{o:HO}:But e H (upd H e o):=λb u h n=>by rw[upd_ne n];exact h
theorem But.of {e:Addr}{H H':Hp}(h:Same H H'):But e H H':=λb o q _=>h b o q
theorem But.tups {e:Addr}{H H':Hp}(h:But e H H'){o:HO}(he:H e=some o) (no:∀u,o≠.tup u):Tups H H':=λb u q=>h b _ q λz=>by
 subst z
 rw[q] at he
 exact no u (Option.some.inj he).symm
def eK (es:List Nat):List (Key×V):=es.map λp:Nat=>(Sum.inl (p:Int),V.bl true)
theorem eK_has (es:List Nat) (p:Nat):(valV (eK es) (Sum.inl (p:Int))).isSome=decide (p∈es):=by
 rw[<- valV_any]
 unfold eK
 rw[List.any_map]
 by_cases h:p∈es
 ·rw[decide_eq_true h,List.any_eq_true]
  exact⟨p,h,by simp⟩
 ·rw[decide_eq_false h,List.any_eq_false]
  intro q hq
  simp only[Function.comp,decide_eq_true_eq]
  intro z
  have:(q:Int)=p:=Sum.inl.inj z
  exact h (by rw[<- Int.ofNat.inj this];exact hq)
theorem eK_put {es:List Nat}{p:Nat}(h:p∉es):putK (eK es) (Sum.inl (p:Int)) (.bl true)=eK (es++[p]):=by
 unfold putK
 have:=eK_has es p
 rw[<- valV_any,decide_eq_false h] at this
 rw[if_neg (by rw[this];decide)]
 unfold eK
 rw[List.map_append];rfl
section
variable {P:Program}{w:World}{K:PySem.W.Frag}{mg:Str->Option Value}{base:Heap}
theorem scEnd:FnScope ["rows", "number", "ended", "quarter"] ["rows", "number", "ended"] (defScope sEnd):=⟨rfl,rfl,rfl,by decide +kernel,rfl,by decide +kernel,by decide +kernel⟩
def spEnd (d:Nat):Sp:=λvs H Q _=>∃(p e:Addr) (x:Nat) (rows:List Row) (es:List Nat),vs=[.ref p,.int (x:Nat),.ref e]/\RowsS H p rows/\RowsOk rows/\rows.length<=900/\x<rows.length+2/\dp rows x<=d/\Post rows es /\
 H e=some (.dK (eK es))/\∀H',But e H H'->H' e=some (.dK (eK (dfs rows d es x)))->Q .non H'
theorem ok_end {f:Addr}{fd:FuncData}(F:Fun K "end_rows" "end_rows" sEnd f fd) (T:Cst mg) (hE:mg "end_rows" = some (.ref f)) (bE:Binds K fd ["rows", "number", "ended"] []):∀d,FnOk P w K mg base CX0 (d+1) f fd ["rows", "number", "ended"] (spEnd d):=by
 obtain⟨tf,hf⟩:=T.first
 intro d
 induction d with
 |zero=>
  refine F.ok scEnd (λvs H Q E h=>?_) (λcdv A outer s H vs Q E hr h=>?_)
  ·obtain⟨p,e,x,rows,es,rfl,_⟩:=h
   rfl
  ·obtain⟨p,e,x,rows,es,rfl,hR,ok,hn,hx,hd,pe,he,q⟩:=h
   have hu:A.units+3+1<cLine:=by have:=hr.un;exact Nat.lt_of_le_of_lt (Nat.le_add_right _ _) (show A.units+3+1+199<cLine from by simpa using this)
   have x2:=dp_pos ok hx hd
   refine⟨_,pss_cons (ps_if (pw_or (pt_cmpR op_lt (pv 1) (pe_glob (v:=.int 2) (by rfl) hf ⟨_,rfl⟩) (nomark _)) (pw_or1 (pt_cmp (pc_din hu (pe_op op_sub (pv 1) (pe_glob (v:=.int 2) (by rfl) hf ⟨_,rfl⟩)) (pv 2))))).pt (pss_one ps_retN) pss_nil) pss_never,?_⟩
   refine⟨_,rfl,_,_,rfl,rfl,_,rfl,?_⟩
   rw[decide_eq_true (show (x:Int)<2 by lia)]
   exact iteT (iteT (q H (But.refl e H) he))
 |succ d ih=>
  refine F.ok scEnd (λvs H Q E h=>?_) (λcdv A outer s H vs Q E hr h=>?_)
  ·obtain⟨p,e,x,rows,es,rfl,_⟩:=h
   rfl
  ·obtain⟨p,e,x,rows,es,rfl,hR,ok,hn,hx,hd,pe,he,q⟩:=h
   have hu:A.units+3+1<cLine:=by have:=hr.un;exact Nat.lt_of_le_of_lt (Nat.le_add_right _ (16*(d+1)+199)) (show A.units+3+1+(16*(d+1)+199)<cLine from by
    have h2:A.units+3+16*(d+1)+200<cLine:=this
    lia)
   refine⟨_,pss_cons (ps_if (pw_or (pt_cmpR op_lt (pv 1) (pe_glob (v:=.int 2) (by rfl) hf ⟨_,rfl⟩) (nomark _)) (pw_or1 (pt_cmp (pc_din hu (pe_op op_sub (pv 1) (pe_glob (v:=.int 2) (by rfl) hf ⟨_,rfl⟩)) (pv 2))))).pt (pss_one ps_retN) pss_nil)
    (pss_cons (ps_for PassesOwn.never rfl (pi_tup (pe_ix (ixS K rfl) (pv 0) (pe_op op_sub (pv 1) (pe_glob (v:=.int 2) (by rfl) hf ⟨_,rfl⟩)) (λ_ _=>rfl))) (pg_name (i:=3) scEnd.nd rfl (Or.inl rfl))
     (pss_one (ps_expr (pe_call ih hr (by rfl) hE F.kp bE .nil pass0 (pa_cons (pv 0) (pa_cons (pv 3) (pa_cons (pv 2) pa_nil)))))))
    (pss_one (ps_dput hu (pv 2) (pe_op op_sub (pv 1) (pe_glob (v:=.int 2) (by rfl) hf ⟨_,rfl⟩)) pe_bl (by rfl)))),?_⟩
   refine⟨_,rfl,_,_,rfl,rfl,_,rfl,?_⟩
   unfold dfs at q
   refine ite2 (λhc=>?_) (λhc=>?_)
   ·have x2:x<2:=by have:=of_decide_eq_true hc;lia
    rw[if_pos (.inl x2)] at q
    exact iteT (q H (But.refl e H) he)
   ·have x2:¬x<2:=λz=>hc (decide_eq_true (by lia))
    have ex:(x:Int)-2=((x-2:Nat):Int):=by lia
    have dg:DGet H e (.int ((x:Int)-2)) (valV (eK es) (Sum.inl ((x-2:Nat):Int))):=by rw[ex];exact DGet.k (k:=Sum.inl ((x-2:Nat):Int)) he
    refine⟨_,rfl,_,_,rfl,rfl,_,rfl,e,_,rfl,dg,_,rfl,?_⟩
    rw[eK_has]
    refine ite2 (λhm=>?_) (λhm=>?_)
    ·rw[if_pos (.inr (of_decide_eq_true hm))] at q
     exact q H (But.refl e H) he
    ·have hnm:x-2∉es:=λz=>hm (decide_eq_true z)
     rw[if_neg (by rintro (z|z);exact x2 z;exact hnm z)] at q
     have hlt:x-2<rows.length:=by lia
     have hg:=getD_at hlt
     generalize rows.getD (x-2) []=r at q hg
     obtain⟨bs,hp,hlen,hrow⟩:=id hR
     have hdx:dp rows (x-2+2)<=d+1:=by rw[show x-2+2=x by lia];exact hd
     have hbx:bs[x-2]?=some (bs[x-2]'(by lia)):=by simp[show x-2<bs.length by lia]
     have hbt:=hrow (x-2) _ r hbx hg
     have nbe:∀b∈bs,b≠e:=λb hb z=>by
      obtain⟨j,hj,ej⟩:=List.mem_iff_getElem.mp hb
      have:=hrow j b (rows[j]'(by lia)) (by rw[List.getElem?_eq_getElem hj,ej]) (List.getElem?_eq_getElem (by lia))
      rw[z,he] at this
      cases this
     have npe:p≠e:=λz=>by
      rw[z,he] at hp
      rcases hp with hp|hp<;>cases hp
     have hRm:∀H2,But e H H2->RowsS H2 p rows:=λH2 s2=>⟨bs,hp.imp (λh=>s2 _ _ h npe) (λh=>s2 _ _ h npe),hlen,λi b r e1 e2=>s2 _ _ (hrow i b r e1 e2) (nbe b (List.mem_of_getElem? e1))⟩
     have ixx:∀Q':VK,Q' (.ref (bs[x-2]'(by lia))) H->rIxS K (.ref p) (.int ((x:Int)-2)) H Q':=λQ' hQ=>by
      rcases hp with h|h
      ·exact .inr ⟨p,_,((x-2:Nat):Int),.ref (bs[x-2]'(by lia)),rfl,congrArg V.int ex,SqT.of h,atI_nat (by rw[List.getElem?_map,hbx];rfl),hQ⟩
      ·exact .inl ⟨p,_,((x-2:Nat):Int),.ref (bs[x-2]'(by lia)),rfl,congrArg V.int ex,SqL.of h,atI_nat (by rw[List.getElem?_map,hbx];rfl),hQ⟩
     refine⟨_,rfl,_,rfl,_,_,rfl,rfl,ixx _ ⟨_,rfl,⟨_,SqT.of hbt⟩,
      for_tup (K:=K) (xs:=vN r) (λi σ H2=>But e H H2/\H2 e=some (.dK (eK ((r.take i).foldl (dfs rows d) es)))/\∃v3,σ=[some (.ref p),some (.int (x:Nat)),some (.ref e),v3])
      ⟨But.refl e H,he,none,rfl⟩ (λi σ H2 _ ⟨s2,_⟩=>SqT.of (s2.tups he (λu z=>by cases z) _ _ hbt)) ?_ ?_⟩⟩
     ·rintro i y σ H2 hy ⟨s2,he2,v3,rfl⟩
      obtain⟨m,hm,rfl⟩:=vN_get hy
      have hq:=List.mem_of_getElem? hm
      obtain⟨b1,b2⟩:=dp_quarter ok hg hdx hq
      refine⟨_,rfl,_,rfl,_,rfl,p,e,m,rows,(r.take i).foldl (dfs rows d) es,rfl,hRm H2 s2,ok,hn,b1,b2,fold_post ok hg hdx _ es (λz hz=>List.mem_of_mem_take hz) pe,he2,λH3 s3 he3=>⟨s2.trans s3,?_,_,rfl⟩⟩
      have hml:=(List.getElem?_eq_some_iff.mp hm).1
      have hme:=(List.getElem?_eq_some_iff.mp hm).2
      rw[<- List.take_append_getElem hml,List.foldl_append,hme]
      exact he3
     ·rintro σ H2 ⟨s2,he2,v3,rfl⟩
      rw[vN_len,List.take_length] at he2
      have pf:=fold_post ok hg hdx r es (λz hz=>hz) pe
      have fin:=(dfs_post ok (d+1) es x pe hx hd).1
      unfold dfs at fin
      rw[if_neg (by rintro (z|z);exact x2 z;exact hnm z)] at fin
      have eg:rows.getD (x-2) []=r:=by
       rw[List.getD_eq_getElem?_getD,hg];rfl
      rw[eg] at fin
      have hni:x-2∉r.foldl (dfs rows d) es:=λz=>by
       have:=(List.nodup_append.mp fin.nd).2.2 (x-2) z (x-2) (by simp)
       exact this rfl
      have dq:DPut H2 e (.int ((x:Int)-2)) (.bl true) (upd H2 e (.dK (eK (r.foldl (dfs rows d) es++[x-2])))):=by
       rw[ex,<- eK_put hni]
       refine DPut.k (k:=Sum.inl ((x-2:Nat):Int)) he2 ?_
       unfold eK
       rw[List.length_map]
       exact small1000 (by have:=post_len pf;lia)
      exact⟨_,rfl,_,rfl,_,_,rfl,rfl,e,_,rfl,dq,q _ (s2.trans But.upd) upd_same⟩
theorem scPlaces:FnScope ["rows", "top", "ended"] ["rows", "top"] (defScope sPlaces):=⟨rfl,rfl,rfl,by decide +kernel,rfl,by decide +kernel,by decide +kernel⟩
def spPlaces (d:Nat):Sp:=λvs H Q _=>∃(p:Addr) (x:Nat) (rows:List Row),vs=[.ref p,.int (x:Nat)]/\RowsS H p rows/\RowsOk rows/\rows.length<=900/\x<rows.length+2/\dp rows x<=d /\
 ∀H' D,Same H H'->H' D=some (.lst (vN (dfs rows d [] x)))->Q (.ref D) H'
theorem ok_places {f fE:Addr}{fd fdE:FuncData}(F:Fun K "places_as_ended" "places_as_ended" sPlaces f fd) (B:Blt mg) (T:Cst mg) (hE:mg "end_rows" = some (.ref fE)) (FE:Fun K "end_rows" "end_rows" sEnd fE fdE) (bE:Binds K fdE ["rows", "number", "ended"] []) (d:Nat):FnOk P w K mg base CX0 (d+2) f fd ["rows", "top"] (spPlaces d):=by
 have GE:FnOk P w K mg base CX0 (d+1) fE fdE ["rows", "number", "ended"] (spEnd d):=ok_end FE T hE bE d
 refine F.ok scPlaces (λvs H Q E h=>?_) (λcdv A outer s H vs Q E hr h=>?_)
 ·obtain⟨p,x,rows,rfl,_⟩:=h
  rfl
 ·obtain⟨p,x,rows,rfl,hR,ok,hn,hx,hd,q⟩:=h
  refine⟨_,pss_cons (ps_set (i:=2) scPlaces.nd rfl (Or.inl rfl) pe_dict0)
   (pss_cons (ps_expr (pe_call GE hr (by rfl) hE FE.kp bE .nil pass0 (pa_cons (pv 0) (pa_cons (pv 1) (pa_cons (pv 2) pa_nil)))))
   (pss_one (ps_ret (pe_callTy (call_listD rfl) (by rfl) B.list PyProof.Rows.boot_list (pa_cons (pv 2) pa_nil))))),?_⟩
  refine λe he=>⟨_,rfl,_,rfl,_,rfl,p,e,x,rows,[],rfl,hR.same (sameU he),ok,hn,hx,hd,post_nil rows,upd_same,λH2 s2 he2=>?_⟩
  refine⟨_,rfl,e,_,rfl,he2,λl hl=>q _ l ?_ ?_⟩
  ·intro b o z
   have nb:b≠e:=ne_of_none z he
   exact keepU (s2 b o (keepU z he) nb) hl
  ·rw[upd_same]
   unfold eK vN
   rw[List.map_map]
   rfl
end
end Pr
namespace Pr
open PySem L2 Qf
def TellAt (H:Hp) (t:Addr) (n top:Nat) (rows:List Row):Prop:=∃p:Addr,H t=some (.tup [.int (n:Nat),.int (top:Nat),.ref p])/\RowsAt H p rows
theorem TellAt.mono {H H':Hp}{t:Addr}{n top:Nat}{rows:List Row}(h:TellAt H t n top rows) (s:Tups H H'):TellAt H' t n top rows:=by
 obtain⟨p,h1,h2⟩:=h
 exact⟨p,s _ _ h1,h2.mono s⟩
theorem all_yes {ys:List V}(h:∀(i:Nat) y,ys[i]?=some y->y=.bl true):ys=(List.replicate ys.length true).map V.bl:=by
 refine list_ext (by simp) λi x hx=>?_
 have hi:=(List.getElem?_eq_some_iff.mp hx).1
 rw[h i x hx]
 simp[hi]
theorem rep_all (k:Nat):(List.replicate k true).all id=true:=by
 rw[List.all_eq_true]
 intro x hx
 exact (List.mem_replicate.mp hx).2
section
variable {P:Program}{w:World}{K:PySem.W.Frag}{mg:Str->Option Value}{base:Heap}
theorem scRow:FnScope ["thing", "before"] ["thing", "before"] (defScope sRow):=⟨rfl,rfl,rfl,by decide +kernel,rfl,by decide +kernel,by decide +kernel⟩
def spRow:Sp:=λvs H Q _=>∃(b:Addr) (i:Nat) (r:Row),vs=[.ref b,.int (i:Nat)]/\H b=some (.tup (vN r))/\RowOk i r/\∀H',Same H H'->Q (.bl true) H'
theorem ok_row {f fN:Addr}{fd fdN:FuncData}(F:Fun K "is_row" "is_row" sRow f fd) (B:Blt mg) (hN:mg "is_number" = some (.ref fN)) (FN:Fun K "is_number" "is_number" sNumber fN fdN) (bN:Binds K fdN ["thing", "many"] []) (GN:FnOk P w K mg base CX0 2 fN fdN ["thing", "many"] spNumber):FnOk P w K mg base CX0 3 f fd ["thing", "before"] spRow:=by
 refine F.ok scRow (λvs H Q E h=>?_) (λcdv A outer s H vs Q E hr h=>?_)
 ·obtain⟨b,i,r,rfl,_⟩:=h
  rfl
 ·obtain⟨b,i,r,rfl,hb,rk,q⟩:=h
  refine⟨_,pss_cons (ps_if (pw_or (pt_not (pt_val (pe_callB call_isi (by rfl) B.isi PyProof.Rows.boot_isinstance (pa_cons (pv 0) (pa_cons (pe_bltn (v:=.ty "tuple") (by rfl) B.tuple PyProof.Rows.boot_tuple rfl) pa_nil)))))
    (pw_or1 (pt_cmpR op_ne (pe_callB call_len_seq (by rfl) B.len PySem.boot_len (pa_cons (pv 0) pa_nil)) pe_int (nomark _)))).pt (pss_one (ps_ret pe_bl)) pss_nil)
   (pss_one (ps_ret (pe_callB (call_allL rfl) (by rfl) B.all PyProof.Rows.boot_all (pa_cons (pe_compB ["thing", "before"] (defScope sRow) rfl rfl rfl scRow.nd (piT K rfl (pv 0)) (λcl C fp s₀ H₀=>pe_call GN hr (by rfl) hN FN.kp bN .nil pass0 (pa_cons (pv 0) (pa_cons (pv 2) pa_nil)))) pa_nil)))),?_⟩
  refine⟨_,rfl,_,_,_,_,true,rfl,rfl,.inl (.tup hb),rfl,_,rfl,iteF ⟨_,rfl,b,_,rfl,.inr (SqT.of hb),rfl,_,rfl,iteNS (by rw[vN_len,rk.1];rfl) ?_⟩⟩
  refine⟨_,rfl,b,rfl,⟨_,SqT.of hb⟩,λD hD=>comp_walk hD (λ_ z _=>z=.bl true) (goes_tup (K:=K) hb) (by rw[vN_len,rk.1];decide) (λ_ _ _ _ _ _ h=>h) ?_ ?_⟩
  ·intro j x H3 hj hx s3 Q' hq
   obtain⟨m,hm,rfl⟩:=vN_get hx
   exact⟨_,rfl,_,rfl,m,i,rfl,rk.2 m (List.mem_of_getElem? hm),hq _ _ (Same.refl _) rfl⟩
  ·intro ys H3 s3 hd3 hly hys
   have e:=all_yes hys
   refine⟨D,List.replicate ys.length true,rfl,by rw[<- e];exact hd3,?_⟩
   rw[rep_all]
   exact q H3 s3
theorem scRows:FnScope ["thing"] ["thing"] (defScope sRows):=⟨rfl,rfl,rfl,by decide +kernel,rfl,by decide +kernel,by decide +kernel⟩
def spRows:Sp:=λvs H Q _=>∃(p:Addr) (rows:List Row),vs=[.ref p]/\RowsAt H p rows/\RowsOk rows/\rows.length<=900/\∀H',Same H H'->Q (.bl true) H'
theorem ok_rows {f fR:Addr}{fd fdR:FuncData}(F:Fun K "are_rows" "are_rows" sRows f fd) (B:Blt mg) (hR:mg "is_row" = some (.ref fR)) (FR:Fun K "is_row" "is_row" sRow fR fdR) (bR:Binds K fdR ["thing", "before"] []) (GR:FnOk P w K mg base CX0 3 fR fdR ["thing", "before"] spRow):FnOk P w K mg base CX0 4 f fd ["thing"] spRows:=by
 refine F.ok scRows (λvs H Q E h=>?_) (λcdv A outer s H vs Q E hr h=>?_)
 ·obtain⟨p,rows,rfl,_⟩:=h
  rfl
 ·obtain⟨p,rows,rfl,hRows,ok,hn,q⟩:=h
  obtain⟨bs,hp,hlen,hrow⟩:=id hRows
  refine⟨_,pss_one (ps_ret (pe_and (pe_callB call_isi (by rfl) B.isi PyProof.Rows.boot_isinstance (pa_cons (pv 0) (pa_cons (pe_bltn (v:=.ty "tuple") (by rfl) B.tuple PyProof.Rows.boot_tuple rfl) pa_nil)))
   (pe_one (pe_callB (call_allL rfl) (by rfl) B.all PyProof.Rows.boot_all (pa_cons (pe_comp2 ["thing"] (defScope sRows) rfl rfl rfl scRows.nd (pi_enumT (by rfl) B.enum (pa_cons (pv 0) pa_nil)) (λcl C fp s₀ H₀=>pe_call GR hr (by rfl) hR FR.kp bR .nil pass0 (pa_cons (pv 1) (pa_cons (pv 0) pa_nil)))) pa_nil))))),?_⟩
  refine⟨_,rfl,_,_,_,_,true,rfl,rfl,.inl (.tup hp),rfl,_,rfl,iteT ?_⟩
  have hlb:(bs.map V.ref).length=rows.length:=by rw[List.length_map];exact hlen
  refine⟨_,rfl,p,rfl,⟨_,SqT.of hp⟩,λD hD=>compG_walk hD (λ_=>true) (λ_=>.bl true) (goes_enum (K:=K) hp) (by rw[hlb];exact small1000 (by lia)) ?_ ?_⟩
  ·rintro i x H2 hi ⟨t,y,rfl,hy,ht⟩ s2 os ho Q1 Q2 q1 q2
   match os,ho with
   |[o1,o2],_=>
    have hi2:i<rows.length:=by rw[<- hlb];exact hi
    rw[List.getElem?_map] at hy
    obtain⟨b,hb,rfl⟩:=Option.map_eq_some_iff.mp hy
    have hr1:rows[i]?=some rows[i]:=by simp[hi2]
    refine⟨t,_,rfl,SqT.of ht,rfl,_,_,rfl,_,_,rfl,rfl,?_⟩
    refine iteT (B:=Q1 H2) ?_
    exact⟨_,rfl,_,rfl,b,i,rows[i],rfl,s2 _ _ (hrow i b _ hb hr1),ok i _ hr1,λH3 s3=>q2 rfl H3 s3⟩
  ·intro H2 s2 hd2
   refine⟨D,List.replicate (bs.map V.ref).length true,rfl,?_,?_⟩
   ·rw[hd2]
    congr 2
    rw[List.map_replicate,List.filter_eq_self.mpr (λ_ _=>rfl)]
    refine list_ext (by simp) λi x hx=>?_
    have hi:=(List.getElem?_eq_some_iff.mp hx).1
    rw[List.getElem?_map] at hx
    obtain⟨_,_,rfl⟩:=Option.map_eq_some_iff.mp hx
    simp at hi
    rw[List.length_map,List.getElem?_replicate,if_pos hi]
   ·rw[rep_all]
    exact q H2 s2
theorem scTelling:FnScope ["thing", "n", "top", "rows"] ["thing"] (defScope sTelling):=⟨rfl,rfl,rfl,by decide +kernel,rfl,by decide +kernel,by decide +kernel⟩
end
end Pr
namespace Pr
open PySem L2 Qf
def ShapeAt (H:Hp) (t:Addr) (n top:Nat) (rows:List Row):Prop:=TellAt H t n top rows/\Canon n top rows/\rows.length<=900
def keyN (r:List Nat):List Key:=r.map λn:Nat=>Sum.inl (n:Int)
theorem keyN_V (r:List Nat):(keyN r).map kV=vN r:=by unfold keyN vN;rw[List.map_map];rfl
theorem keyN_inj {l m:List Nat}(h:keyN l=keyN m):l=m:=by
 have:vN l=vN m:=by rw[<- keyN_V,<- keyN_V,h]
 rw[vN_int,vN_int] at this
 exact int_inj ((List.map_inj_right (λ_ _ z=>V.int.inj z)).mp this)
theorem keys_nodup {rows:List Row}(h:rows.Nodup):(rows.map keyN).Nodup:=by
 rw[nd_iff] at h ⊢
 intro i j hij hj z
 rw[List.length_map] at hj
 refine h i j hij hj ?_
 rw[List.getElem?_map,List.getElem?_map,List.getElem?_eq_getElem (by lia),List.getElem?_eq_getElem hj] at z
 rw[List.getElem?_eq_getElem (by lia),List.getElem?_eq_getElem hj]
 congr 1
 exact keyN_inj (Option.some.inj z)
theorem depth_ints (ns:List Int):PyData.depthAll (ns.map PyData.int)<=1:=by
 induction ns with
 |nil=>simp[PyData.depthAll]
 |cons a ns ih=>
  rw[List.map_cons]
  simp only[PyData.depthAll,PyData.depth]
  lia
theorem dL_depth (ns:List Int):(dL ns).depth<=2:=by
 have:=depth_ints ns
 unfold dL
 simp only[PyData.depth]
 lia
section
variable {P:Program}{w:World}{K:PySem.W.Frag}{mg:Str->Option Value}{base:Heap}
theorem scShape:FnScope ["thing", "top", "rows"] ["thing"] (defScope sShape):=⟨rfl,rfl,rfl,by decide +kernel,rfl,by decide +kernel,by decide +kernel⟩
end
end Pr
namespace Pr
open PySem L2 Qf
section
variable {P:Program}{w:World}{K:PySem.W.Frag}{mg:Str->Option Value}{base:Heap}
theorem scWantS:FnScope ["shape"] ["shape"] (defScope sWantS):=⟨rfl,rfl,rfl,by decide +kernel,rfl,by decide +kernel,by decide +kernel⟩
end
end Pr
namespace L2
open PySem PySem.Spec PyProof.Rows
section
variable {prog:Program}{w:World}{κ:Type}[DecidableEq κ]{hk:HeapKind prog w κ}{A:Around}{E:Value->Shared->Prop}{s:Shared}{d a:Addr}{k:κ}{xs:List (κ×Addr×Value)}
end
section
variable {X:Cx}
end
end L2
namespace L2
open PySem PySem.Spec PyProof.Rows
section
variable {X:Cx}
end
end L2
namespace L2
open PySem PySem.Spec PyProof.Rows PySem.W
def Bare (h:Heap) (d:Addr) (tab:Array DictEntry) (ep:Nat):Prop:=∃o,h.get? d=some o/\o.ExactDict/\o.data=.dict tab ep
theorem Bare.stay {h h':Heap}{d:Addr}{tab:Array DictEntry}{ep:Nat}(x:Bare h d tab ep) (k:∀o,h.get? d=some o->h'.get? d=some o):Bare h' d tab ep:=let ⟨o,ho,r⟩:=x;⟨o,k o ho,r⟩
theorem Bare.ty {s:Shared}{d:Addr}{tab:Array DictEntry}{ep:Nat}(x:Bare s.heap d tab ep):s.TypeIs (.ref d) "dict":=let ⟨o,ho,hc,_⟩:=x;⟨o,ho,hc.1⟩
theorem Bare.lt {h:Heap}{d:Addr}{tab:Array DictEntry}{ep:Nat}(x:Bare h d tab ep):d<h.objs.size:=let ⟨_,ho,_⟩:=x;Heap.lt_size ho
section
variable {prog:Program}{w:World}{A:Around}{E:Value->Shared->Prop}{s:Shared}{d it:Addr}{tab:Array DictEntry}{ep i:Nat}
theorem bare_iter {Q:Value->Shared->Prop}(lo:(d==sysModules)=false) (x:Bare s.heap d tab ep)
  (q:Q (.ref s.heap.objs.size) { s with heap:=s.heap.push { cls:=.type "dict_keyiterator",data:=.fields #[.ref d,.int 0 0,.int tab.size 0,.int ep 0] } }):wpAny (model prog w) A (pyIter (.ref d)) Q E s:=by
 obtain⟨o,ho,hc,hdat⟩:=id x
 refine wpAny_pyIter_slot x.ty F.slot_dict_iter (wpAny_call_entry F.slot_dict_iter x.ty F.entry_dict_iter ?_ (F.args_dict_iter_1 _))
 show wpAny _ _ (Builtin.Dict.dictSlotNone _ _ >>= _) _ _ _
 unfold Builtin.Dict.dictSlotNone;refine wpAny_bind (wpAny_bind (wpAny_notOrdered_dict x.ty (wpAny_pure ?_)))
 show wpAny _ _ (Builtin.Dict.showsAll d >>= _) _ _ s;unfold Builtin.Dict.showsAll
 rw[if_neg (by rw[lo];decide)];refine wpAny_bind (wpAny_pure (wpAny_bind (wpAny_dictEntries ho hdat (wpAny_bind (wpAny_dictEpoch ho hdat ?_)))))
 refine wpAny_bind (wpAny_newObj_type (wpAny_pure ⟨_,rfl, "dict_keyiterator",_,⟨_,Heap.get?_push_size _ rfl,rfl⟩,F.slot_dict_keyiterator_next.lookup,?_⟩));simpa [rawInt] using q
theorem bare_next {Q:Option Value->Shared->Prop}(st:s.heap.IsKeyIter it d i tab.size ep) (x:Bare s.heap d tab ep) (hi:i<tab.size)
  (q:∀h',h'.IsKeyIter it d (i+1) tab.size ep->Heap.SameBut it s.heap h'->Q (some tab[i].key) { s with heap:=h' }):wpAny (model prog w) A (pyNext (.ref it)) Q E s:=by
 obtain⟨o,ho,hc,hd⟩:=id st;obtain⟨od,hod,hcd,hdd⟩:=id x
 unfold pyNext;refine wpAny_bind (wpAny_attempt (wpAny_callSpecial?_slot (name:=Str.ofString "__next__") st.typeIs F.slot_dict_keyiterator_next (wpAny_call_entry F.slot_dict_keyiterator_next st.typeIs F.entry_dict_keyiterator_next ?_ (F.args_dict_keyiterator_next_1 _))))
 refine wpAny_bind (wpAny_pure (wpAny_bind (wpAny_bind ?_)))
 first|(refine wpAny_bind (wpAny_typeNameOfWhole_keyiter st.typeIs (wpAny_pure (wpAny_bind (wpAny_fieldsOf ho hd ?_)))))|(refine wpAny_bind (wpAny_typeNameOf_keyiter st.typeIs (wpAny_pure (wpAny_bind (wpAny_fieldsOf ho hd ?_)))))
 simp only[show Builtin.Dict_items.ownsTuple "dict_keyiterator" = false by decide,Bool.false_eq_true,if_false]
 show wpAny _ _ (if (Value.ref d==Value.none)=true then _ else _) _ _ s;rw[if_neg (show ¬((Value.ref d==Value.none)=true) by exact Bool.false_ne_true)]
 refine wpAny_bind (wpAny_pure (wpAny_bind (wpAny_dictEntries hod hdd ?_)));rw[if_neg (by simp)]
 refine wpAny_bind (wpAny_pure (wpAny_bind (wpAny_dictEpoch hod hdd ?_)));rw[if_neg (by simp)];refine wpAny_pure ?_
 simp only[show ¬((i:Int)<0) by lia,if_false,Int.toNat_natCast,Array.getElem?_eq_getElem hi];refine wpAny_bind ?_
 first|(refine wpAny_bind (wpAny_typeNameOfWhole_keyiter st.typeIs (wpAny_pure (wpAny_bind (wpAny_isOneOf_keyiter st.typeIs ?_)))))|(refine wpAny_bind (wpAny_typeNameOf_keyiter st.typeIs (wpAny_pure (wpAny_bind (wpAny_isOneOf_keyiter st.typeIs ?_)))))
 show wpAny _ _ (setField (.ref it) 1 (rawInt ((i:Int)+1)) >>= _) _ _ s;refine wpAny_bind (wpAny_setField ho hd (by simp) ?_)
 have st':(s.heap.update it (Obj.mapFields (·.setIfInBounds 1 (rawInt ((i:Int)+1))))).IsKeyIter it d (i+1) tab.size ep:=⟨_,Heap.get?_update_self _ ho (Obj.isFreed_of_fields (Obj.data_mapFields hd _)),(Obj.cls_mapFields ..).trans hc,by rw[Obj.data_mapFields hd];simp[rawInt]⟩
 refine wpAny_bind (wpAny_holding (wpAny_bind (wpAny_isOneOf_keyiter (s:={ s with heap:=s.heap.update it (Obj.mapFields (·.setIfInBounds 1 (rawInt ((i:Int)+1)))) }) st'.typeIs ?_)))
 show wpAny _ _ (pure tab[i].key) _ _ _
 exact wpAny_pure (wpAny_pure ⟨_,rfl,wpAny_pure (q _ st' (Heap.SameBut.update ..))⟩)
theorem bare_end {Q:Option Value->Shared->Prop}(hh:A.handled=none) (st:s.heap.IsKeyIter it d tab.size tab.size ep) (x:Bare s.heap d tab ep)
  (q:∀h',Heap.ExtBut it s.heap h'->Q none { s with heap:=h' }):wpAny (model prog w) A (pyNext (.ref it)) Q E s:=by
 obtain⟨o,ho,hc,hd⟩:=id st;obtain⟨od,hod,hcd,hdd⟩:=id x
 unfold pyNext;refine wpAny_bind (wpAny_attempt (wpAny_callSpecial?_slot (name:=Str.ofString "__next__") st.typeIs F.slot_dict_keyiterator_next (wpAny_call_entry F.slot_dict_keyiterator_next st.typeIs F.entry_dict_keyiterator_next ?_ (F.args_dict_keyiterator_next_1 _))))
 refine wpAny_bind (wpAny_pure (wpAny_bind (wpAny_bind ?_)))
 first|(refine wpAny_bind (wpAny_typeNameOfWhole_keyiter st.typeIs (wpAny_pure (wpAny_bind (wpAny_fieldsOf ho hd ?_)))))|(refine wpAny_bind (wpAny_typeNameOf_keyiter st.typeIs (wpAny_pure (wpAny_bind (wpAny_fieldsOf ho hd ?_)))))
 simp only[show Builtin.Dict_items.ownsTuple "dict_keyiterator" = false by decide,Bool.false_eq_true,if_false]
 show wpAny _ _ (if (Value.ref d==Value.none)=true then _ else _) _ _ s;rw[if_neg (show ¬((Value.ref d==Value.none)=true) by exact Bool.false_ne_true)]
 refine wpAny_bind (wpAny_pure (wpAny_bind (wpAny_dictEntries hod hdd ?_)));rw[if_neg (by simp)]
 refine wpAny_bind (wpAny_pure (wpAny_bind (wpAny_dictEpoch hod hdd ?_)));rw[if_neg (by simp)];refine wpAny_pure ?_
 simp only[show ¬((tab.size:Int)<0) by lia,if_false,Int.toNat_natCast,Array.getElem?_eq_none (Nat.le_refl tab.size)];refine wpAny_bind ?_
 first|(refine wpAny_bind (wpAny_typeNameOfWhole_keyiter st.typeIs (wpAny_pure ?_)))|(refine wpAny_bind (wpAny_typeNameOf_keyiter st.typeIs (wpAny_pure ?_)))
 show wpAny _ _ (setField (.ref it) 0 .none >>= _) _ _ s;refine wpAny_bind (wpAny_setField ho hd (by simp) ?_)
 show wpAny _ _ (newExc (.type "StopIteration") [] >>= _) _ _ _;refine wpAny_bind ?_
 simp only[newExc,newTuple];refine wpAny_bind (wpAny_newObj_type ?_ (by size_fits))
 refine wpAny_bind (m:=firstArgMember _ _) (wpAny_of_eq (a:=Value.none) (by first|rfl|(simp only[firstArgMember];rfl)) (wpAny_newObj_type ?_ (by size_fits)))
 simp only[raiseNew];refine wpAny_bind (wpAny_handled ?_);rw[show A.in1.handled=none by exact hh]
 refine wpAny_bind (wpAny_pure (wpAny_throw ?_));refine wpAny_bind (wpAny_isInstance (T:= "StopIteration") (b:=true) ⟨_,Heap.get?_push_size _ rfl,rfl⟩ isSubtype_stop ?_)
 exact wpAny_pure (q _ (((Heap.SameBut.update ..).extBut.push _).push _))
theorem bare_walks (hh:A.handled=none) (hne:d≠it):Walks prog w A it [it,d] [it] tab.size (λi v=>∃e,tab[i]?=some e/\v=e.key) (λi h=>h.IsKeyIter it d i tab.size ep/\Bare h d tab ep) where
 sub:=λb hb=>by simp at hb;simp[hb]
 frame:=λ_ _ _ st k=>⟨st.1.at λo e=>k it (by simp) o e,st.2.stay λo e=>k d (by simp) o e⟩
 item:=λi s Q E hi st q=>bare_next st.1 st.2 hi λh' st' sb=>q _ h' s.toks ⟨tab[i],by simp[hi],rfl⟩ ⟨st',st.2.stay λo e=>sb.extBut d o hne e⟩ λb o hb e=>sb.extBut b o (λh=>hb (by simp[h])) e
 done:=λs Q E st q=>bare_end hh st.1 st.2 λh' eb=>q h' s.toks λb o hb e=>eb b o (λh=>hb (by simp[h])) e
 self:=λ_ _ _ _ st q=>wpAny_pyIter_keyiter st.1 q
theorem bare_src (lo:(d==sysModules)=false):KdlSrc prog w "dict" d d tab.size (λi v=>∃e,tab[i]?=some e/\v=e.key) (λh=>Bare h d tab ep) where
 type:=λ_ x=>x.ty
 there:=λ_ x=>⟨x.lt,x.lt⟩
 keep:=λ_ _ x k=>x.stay λo e=>k d (.inl rfl) o e
 notList:=by decide
 notTuple:=by decide
 hint:=λ_ _ _ _ x q=>kdl_hint_dict x.ty q
 iter:=λ_ _ hh x=>⟨_,_,(λ_ _ q=>bare_iter lo x q),bare_walks hh (Nat.ne_of_lt x.lt),⟨⟨_,Heap.get?_push_size _ rfl,rfl,rfl⟩,x.stay λo e=>Heap.get?_push_of_some _ e⟩⟩
theorem bare_size (lo:(d==sysModules)=false):MeetsIn prog w (Builtin.«dict.__len__» ⟨[.ref d],[]⟩) (λ_ R s=>∃tab ep,Bare s.heap d tab ep/\R (.ok (.ret (.int tab.size s.toks))) { s with toks:=s.toks+1 }):=
 .of_wp λA R s ⟨tab,ep,⟨o,ho,hx,hdat⟩,q⟩=>by
  show wpAny _ _ (dictSize d >>= _) _ _ s;unfold dictSize
  refine wpAny_bind (wpAny_bind (wpAny_dictEntries ho hdat (wpAny_pure ?_)));show wpAny _ _ (Builtin.Dict.pendingCount d >>= _) _ _ s
  exact wpAny_bind (wpAny_pendingCount_other lo (wpAny_ret_mkInt (by rw[Nat.add_zero];exact q)))
theorem bare_len {Q:Value->Shared->Prop}(lo:(d==sysModules)=false) (x:Bare s.heap d tab ep) (fit:(tab.size:Int)<2^63) (q:Q (.int tab.size (s.toks+1)) { s with toks:=s.toks+1+1 }) :
  wpAny (model prog w) A (call (.builtin "len") [.ref d]) Q E s:=by
 refine Calls.call_function_entry kind_len plain_len entry_len (args_len1 _) ?_
 unfold Builtin.«len»;refine wpAny_bind (m:=oneArg "len" _) (wpAny_pure ?_)
 refine wpAny_bind (m:=callSpecial? (.ref d) (Str.ofString "__len__")) (wpAny_callSpecial?_slot (name:=Str.ofString "__len__") x.ty F.slot_dict_len (call_meetsIn F.slot_dict_len x.ty F.entry_dict_len (F.args_dict_len_1 _) (bare_size lo) ⟨tab,ep,x,?_⟩))
 show wpAny _ _ _ _ _ { s with toks:=s.toks+1 };refine wpAny_bind (wpAny_holding (wpAny_pure (wpAny_bind (wpAny_letGo ?_))))
 show wpAny _ _ (if ((tab.size:Nat):Int)<0 then _ else _) _ _ _;rw[if_neg (by lia)]
 show wpAny _ _ (if ((tab.size:Nat):Int)>=2^63 then _ else _) _ _ _;rw[if_neg (by lia)];exact wpAny_bind (wpAny_mkInt (wpAny_pure ⟨_,rfl,q⟩))
end
section
variable {X:Cx}
theorem call_lenT:CallR X (.builtin "len") (λxs H Q=>∃d kvs,xs=[V.ref d]/\H d=some (.dT kvs)/\Q (.int kvs.length) H):=by
 intro pins s σ H xs us Q I r h
 obtain⟨d,kvs,rfl,hd,q⟩:=h
 obtain⟨u,rfl,ru⟩:=vals1 r
 cases ru
 obtain⟨z,lo,ys,rel,o,tab,ep,ho,hx,hdat,ent,uni⟩:=(show ObjOk X.prog X.w H s.heap d (.dT kvs) from I.hok d _ hd)
 have hl:tab.size=kvs.length:=(size_of_entries ent).trans (Paired.length rel).symm
 have fit:(tab.size:Int)<2^63:=by rw[hl];rw[sizeLine_eq] at z;lia
 refine bare_len lo ⟨o,ho,hx,hdat⟩ fit ⟨.int kvs.length,H,I.tok _,?_,q⟩
 rw[hl]
 exact⟨_,rfl⟩
end
end L2
namespace L2
open PySem PySem.Spec PyProof.Rows PySem.W
section
variable {prog:Program}{w:World}{A:Around}{E:Value->Shared->Prop}{s:Shared}{T:String}{r d:Addr}{n:Nat}{P:Nat->Value->Prop}{OK:Heap->Prop}
theorem collect_src {Q:List Value->Shared->Prop}(K:KdlSrc prog w T r d n P OK) (hh:A.handled=none) (hok:OK s.heap) (hn:n<=sizeLine)
  (hQ:∀(h':Heap) tk acc',(∀b o,s.heap.get? b=some o->h'.get? b=some o)->ItemsOf P acc' n->Q acc'.toList { s with heap:=h',toks:=tk }):wpAny (model prog w) A (collect (.ref r)) Q E s:=by
 have hlt:=K.there _ hok
 unfold collect
 refine wpAny_bind (wpAny_runValue (codeAny_builtin F.entry_proto_collect ?_))
 rw[Around.under_plainId F.plain_proto_collect _]
 show wpAny _ A.in1 (newList [] >>= λl=>again (.builtin "list.__iadd__" ⟨[l,.ref r],[]⟩)) _ _ s
 refine wpAny_bind (wpAny_newObj_type ?_)
 refine wpAny_pure ⟨plainId_quiet F.plain_list_iadd _,codeAny_builtin F.entry_list_iadd ?_⟩
 rw[Around.under_plainId F.plain_list_iadd _]
 have hS₁:(s.heap.push { cls:=.type "list",data:=.seq ([]:List Value).toArray }).get? s.heap.objs.size=some { cls:=.type "list",data:=.seq ([]:List Value).toArray }:=Heap.get?_push_size _ rfl
 show wpAny _ A.in1 (Builtin.List.listExtendWith (.ref s.heap.objs.size) (.ref r) (.ref s.heap.objs.size)) _ _ _
 refine kdl_extend (R:=wants (λv s'=>wpAny (model prog w) A (match v with|.ref a=>(do let ob <- load a;match ob.data with|.seq xs _=>pure xs.toList|_=>unsupported "internal:collect")|_=>unsupported "internal:collect") Q E s') E) (s:={ s with heap:=s.heap.push { cls:=.type "list",data:=.seq ([]:List Value).toArray } }) K hh (K.keep _ _ hok λb _ o e=>Heap.get?_push_of_some _ e) s.heap.objs.size (Nat.ne_of_gt hlt.1) (Nat.ne_of_gt hlt.2) _ _ hS₁ (λh' tk acc' c' hk hS' hacc=>?_) hn
 show wpAny _ A (load s.heap.objs.size >>= _) _ _ _
 refine wpAny_bind (wpAny_load hS' ?_)
 exact wpAny_pure (hQ h' tk acc' (λb o e=>hk b o (Nat.ne_of_lt (Heap.lt_size e)) (Heap.get?_push_of_some _ e)) hacc)
theorem code_tuple_src {Q₁:Value->Shared->Prop}(K:KdlSrc prog w T r d n P OK) (hh:A.handled=none) (hok:OK s.heap) (hn:n<=sizeLine)
  (h:∀(h':Heap) tk acc,(∀b o,s.heap.get? b=some o->h'.get? b=some o)->ItemsOf P acc n->Q₁ (.ref h'.objs.size) { s with heap:=h'.push { cls:=.type "tuple",data:=.seq acc },toks:=tk }) :
  codeAny (model prog w) A (.call (.builtin "tuple.__new__") ⟨[.type "tuple",.ref r],[]⟩) (wants Q₁ E) s:=by
 refine codeAny_of_tree ?_
 show wpAny _ A.in1 (do checkBuiltinCall "tuple.__new__" ⟨[.type "tuple",.ref r],[]⟩;again (.builtin "tuple.__new__" ⟨[.type "tuple",.ref r],[]⟩)) _ _ s
 refine wpAny_bind (wpAny_of_eq (F.newCall_tuple_1 _) (wpAny_pure ⟨plainId_quiet F.plain_tuple_new _,codeAny_builtin F.entry_tuple_new ?_⟩))
 rw[Around.under_plainId F.plain_tuple_new _]
 have hsub:=sub_tuple_self
 have hinit:=init_tuple_lookup
 have hmh:=madeHere_tuple
 have hTI:=K.type s hok
 have hnt:=K.notTuple
 wp_walk using wpAny_typeOf hTI,collect_src (A:=A.in1) K hh hok hn
 intro h' tk acc hk hacc
 show wpAny _ _ (Builtin.Tuple.tupleExact acc.toList.toArray >>= λv=>ret v) _ _ _
 unfold Builtin.Tuple.tupleExact
 refine wpAny_bind (wpAny_newObj_type ?_ (by show acc.toList.toArray.size<=sizeLine;simp only[Array.toArray_toList];rw[hacc.1];exact hn))
 refine wpAny_pure ?_
 have e:acc.toList.toArray=acc:=by simp
 rw[e]
 exact h h' tk acc hk hacc
theorem tuple_src {Q:Value->Shared->Prop}(K:KdlSrc prog w T r d n P OK) (hh:A.handled=none) (hok:OK s.heap) (hn:n<=sizeLine)
  (h:∀(h':Heap) tk acc,(∀b o,s.heap.get? b=some o->h'.get? b=some o)->ItemsOf P acc n->Q (.ref h'.objs.size) { s with heap:=h'.push { cls:=.type "tuple",data:=.seq acc },toks:=tk }) :
  wpAny (model prog w) A (call (.type "tuple") [.ref r]) Q E s:=by
 refine callType_codes (Q₁:=λobj s₁=>s₁.TypeIs obj "tuple" /\ Q obj s₁) F.called_tuple (F.typeCall_tuple_1 _) F.entry_object_init
  (code_tuple_src K hh hok hn λh' tk acc hk hacc=>⟨⟨_,Heap.get?_push_size _ rfl,rfl⟩,h h' tk acc hk hacc⟩) λobj s₁ h₁=>?_
 exact⟨h₁.1,F.args_object_init_2 obj _,object_init_meets F.called_tuple.init.lookup F.called_tuple.made (by decide) prog w A.in1 _ s₁ ⟨h₁.1,rfl,h₁.2⟩⟩
end
section
variable {X:Cx}
theorem call_tupleDT (hc:X.calm=true):CallR X (.type "tuple") (λxs H Q=>∃(d:Addr) (kvs:List (List Key×V)),xs=[.ref d]/\H d=some (.dT kvs) /\
  ∀(l:Addr) (bs:List Addr),H l=none->bs.length=kvs.length->(∀(i:Nat) b kv,bs[i]?=some b->kvs[i]?=some kv->H b=some (.tup (kv.1.map kV)))->Q (.ref l) (upd H l (.tup (bs.map V.ref)))):=by
 intro pins s σ H xs us Q I r h
 obtain⟨d,kvs,rfl,hd,q⟩:=h
 obtain⟨u,rfl,ru⟩:=vals1 r
 cases ru
 obtain⟨z,lo,ys,rel,o,tab,ep,ho,hx,hdat,ent,uni⟩:=(show ObjOk X.prog X.w H s.heap d (.dT kvs) from I.hok d _ hd)
 have hl:kvs.length=ys.length:=Paired.length rel
 have ht:tab.size=ys.length:=size_of_entries ent
 refine tuple_src (bare_src (tab:=tab) (ep:=ep) lo) (I.ok.hd hc) ⟨o,ho,hx,hdat⟩ (by lia) λh' tk acc kp hacc=>?_
 have at_:∀(i:Nat) p y,kvs[i]?=some p->ys[i]?=some y->H y.2.1=some (.tup (p.1.map kV)):=by
  have gen:∀{l:List (List Key×V)}{m:List (List Key×Addr×Value)},Paired (λ(p:List Key×V) (q:List Key×Addr×Value)=>p.1=q.1/\H q.2.1=some (.tup (p.1.map kV))/\RelV p.2 q.2.2) l m->∀(i:Nat) p y,l[i]?=some p->m[i]?=some y->H y.2.1=some (.tup (p.1.map kV)):=by
   intro l m pr
   induction pr with
   |nil=>intro i p y h1;simp at h1
   |cons a1 a2 ih=>
    intro i p y h1 h2
    cases i with
    |zero=>simp at h1 h2;subst h1;subst h2;exact a1.2.1
    |succ i=>exact ih i p y (by simpa using h1) (by simpa using h2)
  exact gen rel
 have hlb:(ys.map (·.2.1)).length=kvs.length:=by rw[List.length_map,hl]
 have I1:=I.kept (t':=tk) kp
 have hf:H h'.objs.size=none:=I1.hok.fresh (Nat.le_refl _)
 refine⟨.ref h'.objs.size,_,I1.laid (a:=h'.objs.size) (o:=.tup ((ys.map (·.2.1)).map V.ref)) (t':=tk) (λb o e=>Heap.get?_push_of_some _ e) (Nat.le_refl _) (show ObjOk X.prog X.w _ _ _ (.tup ((ys.map (·.2.1)).map V.ref)) from ⟨by rw[List.length_map,hlb];exact z,acc.toList,?_,by have:=IsTupX.new h' acc.toList.toArray;simpa using this⟩),rfl,q _ _ hf hlb λi b kv e1 e2=>?_⟩
 ·refine vals_of (by simp[hacc.1,ht]) λi x v h1 h2=>?_
  rw[List.getElem?_map,List.getElem?_map] at h1
  obtain⟨b,hb,rfl⟩:=Option.map_eq_some_iff.mp h1
  obtain⟨y,hy,rfl⟩:=Option.map_eq_some_iff.mp hb
  obtain⟨e,he,rfl⟩:=hacc.2 i v (by simpa using h2)
  rw[entry_at ent i,hy] at he
  have:=Option.some.inj he
  subst this
  rfl
 ·rw[List.getElem?_map] at e1
  obtain⟨y,hy,rfl⟩:=Option.map_eq_some_iff.mp e1
  exact at_ i kv y e2 hy
open Classical in
noncomputable def sameD (h:Heap) (d:PyData) (w:Value):Bool:=decide (∃(e:PyData) (bs:List Addr),Reads h w e bs/\e.canLay0=true/\PyData.eqv e d=true)
open Classical in
theorem sameD_is {h:Heap}{d d':PyData}{w:Value}{bs:List Addr}(rb:Reads h w d' bs) (c:d'.canLay0=true):sameD h d w=PyData.eqv d' d:=by
 unfold sameD
 cases hb:PyData.eqv d' d with
 |true=>exact decide_eq_true ⟨d',bs,rb,c,hb⟩
 |false=>
  refine decide_eq_false λ⟨e,bs',re,_,he⟩=>?_
  have:=SeqAt.Reads.unique d' e w bs bs' c rb re
  rw[<- this,hb] at he
  cases he
theorem inD_key {pins:List (Addr×Obj)}{s:Shared}{σ:St}{H:Hp}{v:Value}{d:PyData}{as:List Addr}(I:Inv X pins σ H s) (un:X.A.units+64<cLine) (ra:Reads s.heap v d as) (c1:d.canLay0=true) (dd:d.depth<=50) :
  ∀{xs:List V}{ds:List PyData}{us:List Value},DatasAt H xs ds->Vals xs us->PyData.canLayAll0 ds=true->(∀w∈us,SeqAt.EqAt X.A.in1 s w v (sameD s.heap d w))/\us.any (sameD s.heap d)=ds.any λe=>PyData.eqv e d
 |_,_,_,.nil,.nil,_=>⟨λw hw=>(nomatch hw),rfl⟩
 |_,d'::ds',u0::us0,.cons hx hxs,.cons r0 rs,h3=>by
  have h3':d'.canLay0=true/\PyData.canLayAll0 ds'=true:=by simpa [PyData.canLayAll0] using h3
  obtain⟨e1,e2⟩:=inD_key I un ra c1 dd hxs rs h3'.2
  obtain⟨bs,rb⟩:=hx.reads I.hok r0
  have eb:=sameD_is (d:=d) rb h3'.1
  refine⟨λw hw=>?_,?_⟩
  ·rcases List.mem_cons.mp hw with rfl|hw
   ·rw[eb]
    exact SeqAt.eqAt_reads d' d X.A.in1 s w v bs as rb ra h3'.1 c1 (by
     have:X.A.in1.units=X.A.units+1:=rfl
     lia)
   ·exact e1 w hw
  ·rw[List.any_cons,List.any_cons,eb,e2]
theorem op_inD {k:Nat}(hr:Room k X.A):OpR X (compareOp .In) (λx y H Q=>∃(p:Addr) (xs:List V) (ds:List PyData) (d:PyData),y=.ref p/\H p=some (.tup xs)/\DatasAt H xs ds/\DataAt H x d/\d.canLay0=true/\PyData.canLayAll0 ds=true/\d.depth<=50 /\
  Q (.bl (ds.any λe=>PyData.eqv e d)) H):=by
 intro pins s σ H x y v u Q I rx ry h
 obtain⟨p,xs,ds,d,rfl,hp,hds,hd,c1,c2,dd,q⟩:=h
 cases ry
 obtain⟨as,ra⟩:=hd.reads I.hok rx
 obtain⟨its,rv,pl,hz⟩:=I.tuple (SqT.of hp)
 have un:=hr.units
 obtain⟨k1,k2⟩:=inD_key (X:=X) I un ra c1 dd hds rv c2
 refine SeqAt.in_tupleAt (sameD s.heap d) pl (λw hw=>k1 w (by simpa using hw)) ⟨.bl _,H,I,rfl,?_⟩
 rw[show its.toArray.any (sameD s.heap d)=its.any (sameD s.heap d) by simp,k2]
 exact q
end
end L2
namespace L2
open PySem PySem.Spec PyProof.Rows
section
variable {X:Cx}
theorem ps_compG {i0:Nat}{x0:Str}{px0 spos:Pos}{nn:List Str}{tg:Expr}{ifs:List Expr}{pos:Pos}{elt iter:Expr}{scope:Scope}{wi:TI}{g:TG}{tt:TT}{te:TE}(T:Env->Sem Bool) (hc:X.calm=true) (hi:PI X tg iter wi)
  (hturn:∀it acc env,compTurn (.ListComp elt [⟨tg,iter,ifs,0⟩] scope pos) 0 it acc env=(standAt iter.pos >>= λ_=>pyNext it >>= λr=>match r with
   |none=>pure (.done .next)
   |some v=>letOwnedTupleGo tg it v >>= λ_=>assign tg env v >>= λ_=>T env >>= λok=>(if ok=true then (eval elt env >>= λx=>call (.builtin "list.append") [acc,x] >>= λ_=>pure ()) else pure ()) >>= λ_=>
     again (.compLoop (.ListComp elt [⟨tg,iter,ifs,0⟩] scope pos) 0 it acc env)))
  (hgt:∀cl C fp s₀ H₀,PG (compCxG X scope cl C nn fp s₀ H₀) tg g)
  (hloc2:∀y (os σ:St) H R,os.length=nn.length->g y (os++σ) H R->g y (os++σ) H λσ' H'=>(∃os':St,os'.length=nn.length/\σ'=os'++σ)/\R σ' H')
  (htt:∀cl C fp s₀ H₀ (pins:List (Addr×Obj)) (s:Shared) (σ:St) (H:Hp) (Q:Bool->Hp->Prop),Inv (compCxG X scope cl C nn fp s₀ H₀) pins σ H s->tt σ H Q->wpAny (model X.prog X.w) X.A (T (compEnvC scope cl C X.env)) (TP (compCxG X scope cl C nn fp s₀ H₀) pins σ Q) (λ_ _=>False) s)
  (he:∀cl C fp s₀ H₀,PE (compCxG X scope cl C nn fp s₀ H₀) elt te)
  (hkind:scope.kind=.function) (hcell:∀y∈scope.names,y.2≠.cell) (hnames:∀y∈scope.names,y.2=.local->scope.names.lookup y.1=some .local)
  (hloc:∀y∈X.N,scope.names.lookup y≠some .local) (hfr:∀p∈scope.names,p.2=.free->Vis X.env.scope p.1/\X.env.scope.names.lookup p.1≠some .local)
  (hs:∀x,foldedSetIterable iter X.env x=pure x) (hN0:X.N.Nodup) (hi0:X.N[i0]?=some x0) (hx0:X.env.scope.names.lookup x0=some .local) (hsw:swapsWith (.ListComp elt [⟨tg,iter,ifs,0⟩] scope pos) (some (.Name x0 px0)) spos.line X.env=pure true) :
  PS X (.Assign [.Name x0 px0] (.ListComp elt [⟨tg,iter,ifs,0⟩] scope pos) spos) (tAsg (tCompG nn.length wi g tt te) (gName i0)):=by
 intro pins s σ H EE I h
 rw[exec_Assign_Name_used _ _ _ _ hsw]
 refine wpAny_bind (wpAny_standAt (wpAny_bind ?_))
 show wpAny _ X.A (do let _ <- comprehension (.ListComp elt [⟨tg,iter,ifs,0⟩] scope pos) scope X.env _ (newList []) false (eval iter X.env) (some (assign (.Name x0 px0) X.env))) _ _ s
 obtain⟨cl,hclos,hcl1,hcl2⟩:=closureFor_some (scope:=scope) (env:=X.env) (λp hp hk=>by
  obtain⟨hv,hn⟩:=hfr p hp hk
  refine I.ok.has p.1 ?_
  rcases hv with z|z
  ·exact absurd z hn
  ·exact z)
 refine wpAny_bind (wpAny_mono (wpAny_comprehension_free (use:=some (assign (.Name x0 px0) X.env)) (Q:=λ_ s'=>SP X pins EE .next s') rfl hs hclos hkind hnames (thn (hi pins s σ H _ I h) λv s1 h1=>thn h1 λitv s2 h2=>?_)) (λ_ s' hq=>wpAny_pure (wpAny_pure hq)) λ_ _ e=>e)
 obtain⟨it,fp,tn,J,H2,rfl,I2,T',st2,f2,q⟩:=h2
 have hD:H2 s2.heap.objs.size=none:=I2.hok.fresh (Nat.le_refl _)
 obtain⟨W,⟨m0,w0⟩,turn⟩:=q _ hD
 refine wpAny_newObj_type (wpAny_newFunctionEnv hcell (by intro y hy;simp at hy) (λh₁ hns₁ hsb₁=>?_) hkind)
 dsimp only at hns₁ hsb₁ ⊢
 have I3:Inv X pins σ (upd H2 s2.heap.objs.size (.lst [])) { s2 with heap:=s2.heap.push { cls:=.type "list",dict:=none,data:=.seq ([]:List Value).toArray } }:=
  I2.laid (t':=s2.toks) (λb u e=>Heap.get?_push_of_some _ e) (Nat.le_refl _) ⟨Nat.zero_le _,[],0,.nil,Heap.get?_push_size _ rfl⟩
 have fpn:∀b∈fp,b≠s2.heap.objs.size:=λb hb=>by
  obtain⟨o,e,_⟩:=T'.obj 0 s2.heap st2 b hb
  exact Nat.ne_of_lt (Heap.lt_size e)
 have fplt:∀b∈fp,b<(s2.heap.push { cls:=.type "list",dict:=none,data:=.seq ([]:List Value).toArray }).objs.size:=λb hb=>by
  obtain⟨o,e,_⟩:=T'.obj 0 s2.heap st2 b hb
  rw[Heap.size_push];exact Nat.lt_succ_of_lt (Heap.lt_size e)
 have f3:∀b∈fp,FpOk X pins (upd H2 s2.heap.objs.size (.lst [])) b:=λb hb=>⟨by rw[upd_ne (fpn b hb)];exact (f2 b hb).1,(f2 b hb).2⟩
 generalize hg2:s2.heap.push { cls:=.type "list",dict:=none,data:=.seq ([]:List Value).toArray }=g2 at hns₁ hsb₁ I3 fplt ⊢
 have keep:∀b o,g2.get? b=some o->h₁.get? b=some o:=λb o e=>(hsb₁.2 b (Nat.ne_of_lt (Heap.lt_size e))).trans (Heap.get?_push_of_some _ e)
 have J0:=compG_start (nn:=nn) (tk:=s2.toks+([]:List (Str×Value)).length) I3 (C:=g2.objs.size) rfl keep hns₁ f3 fplt hkind hcell hloc hcl1 hcl2 hfr
 generalize hY:compCxG X scope cl g2.objs.size nn fp { s2 with heap:=g2 } (upd H2 s2.heap.objs.size (.lst []))=Y at J0
 have eY:PE Y elt te:=by rw[<- hY];exact he _ _ _ _ _
 have eG:PG Y tg g:=by rw[<- hY];exact hgt _ _ _ _ _
 have eT:∀(pins:List (Addr×Obj)) (s:Shared) (σ:St) (H:Hp) (Q:Bool->Hp->Prop),Inv Y pins σ H s->tt σ H Q->wpAny (model Y.prog Y.w) Y.A (T Y.env) (TP Y pins σ Q) Y.xe s:=by rw[<- hY];exact htt _ _ _ _ _
 have eP:Y.prog=X.prog:=by rw[<- hY];rfl
 have eW:Y.w=X.w:=by rw[<- hY];rfl
 have eK:Y.K=X.K:=by rw[<- hY];rfl
 have eA:Y.A=X.A:=by rw[<- hY];rfl
 have eC:Y.calm=true:=by rw[<- hY];exact hc
 have eE:Y.env=compEnvC scope cl g2.objs.size X.env:=by rw[<- hY];rfl
 have eX:Y.xe=λ_ _=>False:=by rw[<- hY];rfl
 have eN:Y.N=nn++X.N:=by rw[<- hY];rfl
 have eEx:Y.ex=fp:=by rw[<- hY];rfl
 have eFs:Y.fs=frs X.stack:=by rw[<- hY];rfl
 have ePn:Y.pn=[]:=by rw[<- hY];rfl
 have fpY:∀{H':Hp},(∀b∈fp,H' b=none)->∀b∈fp,FpOk Y [] H' b:=λhn b hb=>by
  have g:=f3 b hb
  refine⟨hn b hb,?_,?_,.inl (by rw[eEx];exact hb),?_,λp hp=>absurd hp (by rw[ePn];simp)⟩
  ·rw[eE];exact Nat.ne_of_lt (fplt b hb)
  ·rw[eFs]
   intro z
   rcases List.mem_cons.mp (I3.stkSub b z) with z|z
   ·exact g.2.1 z
   ·exact g.2.2.1 z
  ·rw[eE]
   exact λy c e=>g.2.2.2.2.1 y c (hcl1 y c e)
 have loop:∀s₃:Shared,s₃={ s2 with heap:=h₁,toks:=s2.toks+([]:List (Str×Value)).length } ->
   codeAny (model X.prog X.w) X.A (.compLoop (.ListComp elt [⟨tg,iter,ifs,0⟩] scope pos) 0 (.ref it) (.ref s2.heap.objs.size) (compEnvC scope cl g2.objs.size X.env))
    (compPost (model X.prog X.w) X.A X.xe (some (assign (.Name x0 px0) X.env)) (λ_ s'=>SP X pins EE .next s') (.ref s2.heap.objs.size) g2.objs.size) s₃:=by
  rintro s₃ rfl
  refine compLoopG (T (compEnvC scope cl g2.objs.size X.env)) (hturn _ _ _) (λn s'=>∃i xs H' os,os.length=nn.length/\Inv Y [] (os++σ) H' s'/\tn i s'.heap/\(∀b∈fp,H' b=none)/\W i n xs H') ?_ m0
   ⟨0,[],_,nn.map λ_=>none,by simp,J0,T'.keep 0 _ _ st2 (λb hb o e=>keep b o (by rw[<- hg2];exact Heap.get?_push_of_some _ e)),λb hb=>(f3 b hb).1,w0⟩
  rintro n s3 ⟨i,xs,H3,os,hos,I4,st3,fr3,w3⟩
  obtain⟨hDx,hlx,alt⟩:=turn i n xs H3 w3
  rcases alt with ⟨stop,qn⟩|⟨go,step⟩
  ·have D1:=T'.done Y eP eW eK eC i [] s3 _ H3 (λ_ _=>False) I4 (fpY fr3) st3 stop
   rw[eA] at D1
   refine thn D1 λr s4 ⟨hr,I5⟩=>?_
   subst hr
   obtain⟨m4,hns4,_⟩:=id I5.loc
   rw[eE] at hns4
   have hC0:H3 g2.objs.size=none:=by
    have:=I5.free
    rw[eE] at this
    exact this
   have fC:FpOk X pins H3 g2.objs.size:=I3.fpOk (Nat.le_refl _) hC0
   rw[<- hY] at I5
   have IX:Inv X pins σ H3 s4:=compG_end I3 rfl f3 I5 (Heap.SameBut.refl _ _)
   have hns4:s4.heap.Ns g2.objs.size m4:=hns4
   obtain⟨oC,esC,epC,hoC,rC⟩:=id hns4
   have IP:=IX.pinned (fp:=[g2.objs.size]) (λb hb=>by
    have:b=g2.objs.size:=by simpa using hb
    subst this
    exact fC) (λb hb=>by
    have:b=g2.objs.size:=by simpa using hb
    subst this
    exact⟨oC,hoC,λv z=>by rw[rC.1] at z;cases z⟩)
   show wpAny _ X.A (assign (.Name x0 px0) X.env (.ref s2.heap.objs.size)) _ _ s4
   refine wpAny_assign_Name (store_ok (v:=.ref s2.heap.objs.size) IP hN0 hi0 (.inl hx0) rfl (λs5 I6=>?_) (.inr hx0))
   have pC:=I6.pin (g2.objs.size,oC) (List.mem_append_right _ (List.mem_append_right _ (mem_pinsAt (by simp) hoC)))
   refine⟨m4,hns4.at' (λo e=>by rw[hoC] at e;cases e;exact pC.1),λh' sb=>⟨_,H3,?_,qn⟩⟩
   exact I6.unpinned.turned (t':=s5.toks) (λb o hb e=>(sb.2 b hb).trans e) fC.1 fC.2.1 fC.2.2.2.1 fC.2.2.2.2.1 fC.2.2.2.2.2
  ·have G1:=T'.item Y eP eW eK eC i [] s3 _ H3 (λ_ _=>False) I4 (fpY fr3) st3 go
   rw[eA] at G1
   refine thn G1 λr s4 ⟨u,hr,h4⟩=>?_
   subst hr
   refine thn h4 λ_ s5 ⟨y,H5,I5,r5,y5,st5,fr5⟩=>?_
   have I5':=I5.pinned (fpY fr5) (T'.obj _ _ st5)
   have S1:=eG _ s5 _ H5 y u _ I5' r5 (hloc2 y os σ H5 _ hos (step y _ y5 os hos))
   rw[eP,eW,eA,eE,eX] at S1
   refine thn S1 λ_ s6 ⟨σ6,H6,I6,⟨os6,hos6,e6⟩,q6⟩=>?_
   subst e6
   have S2:=eT _ s6 _ _ _ I6 q6
   rw[eP,eW,eA,eE,eX] at S2
   refine thn S2 λok s7 ⟨H7,I7,q7⟩=>?_
   have back:∀{s9:Shared}{H9:Hp}{m':Nat}{zs:List V},Inv Y ([]++pinsAt fp s5.heap) (os6++σ) H9 s9->m'<n->W (i+1) m' zs H9->∃m,m<n/\∃i xs H' os,os.length=nn.length/\Inv Y [] (os++σ) H' s9/\tn i s9.heap/\(∀b∈fp,H' b=none)/\W i m xs H':=λ{s9 H9 m' zs} I9 hm' w9=>by
    have pin:∀b∈fp,∀ob,s5.heap.get? b=some ob->s9.heap.get? b=some ob/\H9 b=none:=λb hb ob e=>by
     have z:=I9.pin (b,ob) (List.mem_append_right _ (List.mem_append_right _ (mem_pinsAt hb e)))
     exact⟨z.1,z.2.1⟩
    refine⟨m',hm',i+1,zs,H9,os6,hos6,I9.unpinned,T'.keep _ _ _ st5 (λb hb ob e=>(pin b hb ob e).1),λb hb=>?_,w9⟩
    obtain⟨ob,e,_⟩:=T'.obj _ _ st5 b hb
    exact (pin b hb ob e).2
   cases ok with
   |true=>
    rw[if_pos rfl] at q7
    rw[if_pos rfl]
    have S3:=eY _ s7 _ _ _ I7 q7
    rw[eP,eW,eA,eE,eX] at S3
    refine thn S3 λxv s8 ⟨v8,H8,I8,r8,hD8,m',hm',w8⟩=>?_
    have S4:=mt_append (X:=Y) _ s8 _ H8 (.ref s2.heap.objs.size) [v8] (.ref s2.heap.objs.size) [xv] (λ_ H9=>H9=upd H8 s2.heap.objs.size (.lst (xs++[v8]))) I8 rfl (.cons r8 .nil) ⟨_,xs,v8,rfl,rfl,hD8,hlx,rfl⟩
    rw[eP,eW,eA,eX] at S4
    refine thn S4 λ_ s9 ⟨v9,H9,I9,_,e9⟩=>?_
    subst e9
    exact back I9 hm' w8
   |false=>
    rw[if_neg Bool.false_ne_true] at q7
    rw[if_neg Bool.false_ne_true]
    obtain⟨m',hm',w8⟩:=q7
    exact back I7 hm' w8
 exact codeAny_compStart_list (loop _ rfl) (T'.self _ 0 _ _ _ (T'.keep 0 _ _ st2 (λb hb o e=>keep b o (by rw[<- hg2];exact Heap.get?_push_of_some _ e))) (loop _ rfl))
theorem ps_setC {i0:Nat}{x0:Str}{px0 spos:Pos}{x:Str}{px pos:Pos}{elt iter:Expr}{scope:Scope}{wi:TI}{te:TE}(N:List Str) (sc:Scope) (hNe:X.N=N) (hsc:X.env.scope=sc) (hc:X.calm=true) (hN:X.N.Nodup) (hi0:X.N[i0]?=some x0) (hx0:X.env.scope.names.lookup x0=some .local) (hi:PI X (.Name x px) iter wi)
  (he:∀cl C fp s₀ H₀,PE (compCxG X scope cl C [x] fp s₀ H₀) elt te)
  (hkind:scope.kind=.function:=by rfl) (hcell:scope.names.all (λy=>y.2 != .cell)=true:=by decide +kernel) (hnames:scope.names.all (λy=>y.2 != .local||scope.names.lookup y.1==some .local)=true:=by decide +kernel)
  (hx:scope.names.lookup x=some .local:=by rfl) (hloc:N.all (λy=>scope.names.lookup y != some .local)=true:=by decide +kernel)
  (hfr:scope.names.all (λp=>p.2 != .free||(sc.names.lookup p.1==some .cell||sc.names.lookup p.1==some .free))=true:=by decide +kernel)
  (hs:∀x,foldedSetIterable iter X.env x=pure x:=by intro _;rfl) (hsw:swapsWith (.ListComp elt [⟨.Name x px,iter,[],0⟩] scope pos) (some (.Name x0 px0)) spos.line X.env=pure true:=by rfl) :
  PS X (.Assign [.Name x0 px0] (.ListComp elt [⟨.Name x px,iter,[],0⟩] scope pos) spos) (tAsg (tCompG 1 wi (gName 0) ttYes te) (gName i0)):=by
 obtain⟨s1,s2,s3,s4⟩:=scopes_ok hNe hsc hcell hnames hloc hfr
 refine ps_compG (nn:=[x]) (λ_=>pure true) hc hi (λit acc env=>turn_no elt _ iter scope pos it acc env) (λcl C fp s₀ H₀=>?_) (λy os σ H R ho h=>loc1 ho h) (λcl C fp s₀ H₀ pins s σ H Q I h=>wpAny_pure ⟨H,I,h⟩) he hkind s1 s2 s3 s4 hs hN hi0 hx0 hsw
 have l:(compCxG X scope cl C [x] fp s₀ H₀).env.scope.names.lookup x=some .local:=lookup_relabel_local hx
 exact pg_name (i:=0) (List.nodup_cons.mpr ⟨λz=>s3 x z hx,hN⟩) rfl (.inl l) (.inr l)
end
end L2
namespace L2
open PySem
theorem beq_inst {α:Type}{i1 i2:BEq α}(h1:@LawfulBEq α i1) (h2:@LawfulBEq α i2):i1=i2:=by
 have:∀a b,@BEq.beq α i1 a b=@BEq.beq α i2 a b:=λa b=>by
  rw[Bool.eq_iff_iff,@beq_iff_eq α i1 h1,@beq_iff_eq α i2 h2]
 cases i1;cases i2
 congr 1
 funext a b
 exact this a b
inductive Ars (X:Cx):List Expr->TA->Prop
 |nil:Ars X [] tNil
 |cons {e:Expr}{es:List Expr}{te:TE}{t:TA}(h:PE X e te) (r:Ars X es t) (hs:starEach (e::es) X.env=(false,eval e X.env)::starEach es X.env):Ars X (e::es) (tCons te t)
theorem Ars.go {X:Cx}:∀{es:List Expr}{t:TA},Ars X es t->PA X es t
 |_,_,.nil=>pa_nil
 |_,_,.cons h r hs=>pa_cons h r.go hs
structure PEb (X:Cx) (e:Expr) (t:TE):Prop where
 go:PE X e t
structure PSb (X:Cx) (st:Stmt) (t:TS):Prop where
 go:PS X st t
inductive StB (X:Cx):List Stmt->TS->Prop
 |one {st:Stmt}{t:TS}(h:PSb X st t):StB X [st] t
 |cons {st:Stmt}{rest:List Stmt}{t u:TS}(h:PSb X st t) (r:StB X rest u):StB X (st::rest) (tSeq t u)
theorem StB.go {X:Cx}:∀{l:List Stmt}{t:TS},StB X l t->PSs X l t
 |_,_,.one h=>pss_one h.go
 |_,_,.cons h r=>pss_cons h.go r.go
theorem seqE {X:Cx}{st:Stmt}{rest:List Stmt}{R:TS->Prop}(h:∃t,PSb X st t/\∃u,PSs X rest u/\R (tSeq t u)):∃t,PSs X (st::rest) t/\R t:=by
 obtain⟨t,h1,u,h2,h3⟩:=h
 exact⟨_,pss_cons h1.go h2,h3⟩
theorem lastE {X:Cx}{st:Stmt}{R:TS->Prop}(h:∃t,PSb X st t/\R t):∃t,PSs X [st] t/\R t:=by
 obtain⟨t,h1,h3⟩:=h
 exact⟨_,pss_one h1.go,h3⟩
inductive Ars2 (X:Cx):List Expr->TA->Prop
 |nil:Ars2 X [] tNil
 |cons {e:Expr}{es:List Expr}{te:TE}{t:TA}(h:PEb X e te) (r:Ars2 X es t) (hs:starEach (e::es) X.env=(false,eval e X.env)::starEach es X.env):Ars2 X (e::es) (tCons te t)
theorem Ars2.go {X:Cx}:∀{es:List Expr}{t:TA},Ars2 X es t->PA X es t
 |_,_,.nil=>pa_nil
 |_,_,.cons h r hs=>pa_cons h.go r.go hs
theorem pe_bmb {X:Cx}{T id:String}{name:Str}{r:V->List V->Hp->VK->Prop}{o e:Expr}{es:List Expr}{to:TE}{t:TA}{apos cpos:Pos}(pa:PlainAttrs T) (slot:Slot T name id) (hty:typeOf (.builtin id)=pure (.type "method_descriptor")) (hm:MtR X id r) (ho:PEb X o to) (ha:Ars2 X (e::es) t)
  (hbase:attributeBase o name X.env (eval o X.env)=eval o X.env:=by rfl)
  (hfew:((backTo cpos (starEach (e::es) X.env)).all (λx=>!x.1)&&(backToKw cpos (keywordEach [] X.env)).all (λx=>x.1.isSome)
   && decide ((e::es).length+([]:List Keyword).length+(if ([]:List Keyword).isEmpty then 0 else 1)<30))=true:=by rfl)
  (hline:(apos.endLine==cpos.line)=true:=by rfl) (hs:starEach (e::es) X.env=(false,eval e X.env)::starEach es X.env:=by rfl) (hplain:(backTo cpos (starEach es X.env)).any (·.1)=false:=by rfl) :
  PEb X (.Call (.Attribute o name apos) (e::es) [] cpos) (tBM X.K T r to t):=⟨pe_bm pa slot hty hm ho.go ha.go hbase hfew hline hs hplain⟩
inductive Prs (X:Cx) (pos:Pos):List (Option Expr)->List Expr->List (TE×TE)->Prop
 |nil:Prs X pos [] [] []
 |cons {k v:Expr}{ks:List (Option Expr)}{vs:List Expr}{tk tv:TE}{trs:List (TE×TE)}(hk:PEb X k tk) (hv:PEb X v tv) (r:Prs X pos ks vs trs):Prs X pos (some k::ks) (v::vs) ((tk,tv)::trs)
theorem Prs.go {X:Cx}{pos:Pos}:∀{ks:List (Option Expr)}{vs:List Expr}{trs:List (TE×TE)},Prs X pos ks vs trs->PPs X pos ks vs trs
 |_,_,_,.nil=>pps_nil
 |_,_,_,.cons hk hv r=>pps_cons hk.go hv.go r.go
theorem pe_intb {X:Cx}{i:Int}{j:Nat}{pos:Pos}:PEb X (.Constant (.int i) j pos) (tC (.int i)):=⟨pe_int⟩
theorem ps_setb {X:Cx}{i:Nat}{x:Str}{e:Expr}{te:TE}{pos pos':Pos}(hN:X.N.Nodup) (hi:X.N[i]?=some x) (hx:Loc X.env.scope x) (he:PEb X e te) (hs:swapsWith e (some (.Name x pos')) pos.line X.env=pure false) (hf:X.fn x=true) :
  PSb X (.Assign [.Name x pos'] e pos) (tAsg te (gName i)):=⟨ps_set hN hi hx he.go hs (.inl hf)⟩
theorem four_ints {X:Cx}{a b c d:Int}{ja jb jc jd:Nat}{pa pb pc pd pos:Pos}{x1:Nat}:PEb X (.Tuple [.Constant (.int a) ja pa,.Constant (.int b) jb pb,.Constant (.int c) jc pc,.Constant (.int d) jd pd] x1 pos) (tTup (tCons (tC (.int a)) (tCons (tC (.int b)) (tCons (tC (.int c)) (tCons (tC (.int d)) tNil))))):=
 ⟨pe_tup (Ars.go (.cons pe_int (.cons pe_int (.cons pe_int (.cons pe_int .nil rfl) rfl) rfl) rfl))⟩
end L2
namespace Pr
open PySem L2 Qf
def PurseAt (H:Hp) (p:Addr):Prop:=∃a b:Int,H p=some (.lst [.int a,.int b])/\0<=a/\0<=b/\b<2^40
theorem PurseAt.same {H H':Hp}{p:Addr}(h:PurseAt H p) (s:Same H H'):PurseAt H' p:=by
 obtain⟨a,b,e,r⟩:=h
 exact⟨a,b,s _ _ e,r⟩
def RowsL (H:Hp) (p:Addr) (rows:List Row):Prop:=∃bs:List Addr,H p=some (.lst (bs.map V.ref))/\bs.length=rows.length/\∀(i:Nat) b r,bs[i]?=some b->rows[i]?=some r->H b=some (.tup (vN r))
theorem RowsL.same {H H':Hp}{p:Addr}{rows:List Row}(h:RowsL H p rows) (s:Same H H'):RowsL H' p rows:=by
 obtain⟨bs,h1,h2,h3⟩:=h
 exact⟨bs,s _ _ h1,h2,λi b r e1 e2=>s _ _ (h3 i b r e1 e2)⟩
def tabl {α κ:Type}(key:α->κ) (l:List α) (k:Nat):List (κ×V):=(l.zipIdx k).map λp=>(key p.1,V.int (p.2:Nat))
section
variable {α κ:Type}[DecidableEq α] [DecidableEq κ]{key:α->κ}
theorem tabl_len (l:List α) (k:Nat):(tabl key l k).length=l.length:=by simp[tabl]
theorem tabl_cons (a:α) (l:List α) (k:Nat):tabl key (a::l) k=(key a,V.int (k:Nat))::tabl key l (k+1):=by simp[tabl]
theorem tabl_snoc (l:List α) (a:α) (k:Nat):tabl key (l++[a]) k=tabl key l k++[(key a,V.int (k+l.length:Nat))]:=by simp[tabl,List.zipIdx_append]
theorem tabl_val (inj:∀a b,key a=key b->a=b) (a:α):∀(l:List α) (k:Nat),valV (tabl key l k) (key a)=if a∈l then some (.int (k+l.idxOf a:Nat)) else none
 |[],k=>by simp[tabl,valV]
 |b::l,k=>by
  rw[tabl_cons]
  by_cases h:b=a
  ·subst h
   rw[valV_pos rfl,if_pos List.mem_cons_self,List.idxOf_cons_self]
   rfl
  ·rw[valV_neg (λz=>h (inj _ _ z)),tabl_val inj a l (k+1)]
   by_cases hm:a∈l
   ·have e:(b::l).idxOf a=l.idxOf a+1:=by
     rw[List.idxOf_cons,beq_false_of_ne h]
     rfl
    rw[if_pos hm,if_pos (List.mem_cons_of_mem _ hm),e]
    congr 3
    lia
   ·rw[if_neg hm,if_neg (λz=>by rcases List.mem_cons.mp z with z|z;exact h z.symm;exact hm z)]
theorem tabl_put (inj:∀a b,key a=key b->a=b){l:List α}{a:α}{k:Nat}(h:a∉l):putK (tabl key l k) (key a) (.int (k+l.length:Nat))=tabl key (l++[a]) k:=by
 unfold putK
 rw[valV_any,tabl_val inj,if_neg h,if_neg (by decide),tabl_snoc]
end
def fKey (p:Nat):Key:=Sum.inl ((p+2:Nat):Int)
def fK (es:List Nat):List (Key×V):=tabl fKey es 2
theorem RowsL.but {H H':Hp}{p e:Addr}{rows:List Row}{o:HO}(h:RowsL H p rows) (b:But e H H') (hpe:p≠e) (he:H e=some o) (no:∀u,o≠.tup u):RowsL H' p rows:=by
 obtain⟨bs,h1,h2,h3⟩:=h
 exact⟨bs,b _ _ h1 hpe,h2,λi c r e1 e2=>b.tups he no _ _ (h3 i c r e1 e2)⟩
theorem sameW {H H':Hp}{a:Addr}{o:HO}(s:Same H H') (h:H a=none):Same H (upd H' a o):=λb u e=>by
 rw[upd_ne (ne_of_none e h)];exact s b u e
def dTell (n top:Nat) (rows:List Row):PyData:=.tuple [.int (n:Nat),.int (top:Nat),.tuple (rows.map λr=>dT (r.map λx:Nat=>(x:Int)))]
theorem datas_rows {H:Hp}:∀{bs:List Addr}{rows:List Row},bs.length=rows.length->(∀(i:Nat) b r,bs[i]?=some b->rows[i]?=some r->H b=some (.tup (vN r))) ->
  DatasAt H (bs.map V.ref) (rows.map λr=>dT (r.map λx:Nat=>(x:Int)))
 |[],[],_,_=>.nil
 |b::bs,r::rows,hl,h=>by
  refine .cons ?_ (datas_rows (by simpa using hl) λi c q e1 e2=>h (i+1) c q (by simpa using e1) (by simpa using e2))
  have h0:=h 0 b r rfl rfl
  rw[vN_int] at h0
  exact .tup h0 (DatasAt.ints _)
theorem tell_data {H:Hp}{t:Addr}{n top:Nat}{rows:List Row}(h:TellAt H t n top rows):DataAt H (.ref t) (dTell n top rows):=by
 obtain⟨p,ht,bs,hp,hl,hr⟩:=h
 exact .tup ht (.cons (.int _) (.cons (.int _) (.cons (.tup hp (datas_rows hl hr)) .nil)))
theorem rows_lay:∀rows:List Row,PyData.canLayAll0 (rows.map λr=>dT (r.map λx:Nat=>(x:Int)))=true
 |[]=>rfl
 |r::rows=>by
  rw[List.map_cons,PyData.canLayAll0,dT_lay,rows_lay rows];rfl
theorem ints_depth:∀ns:List Int,PyData.depthAll (ns.map PyData.int)=0
 |[]=>rfl
 |n::ns=>by rw[List.map_cons,PyData.depthAll,ints_depth ns];rfl
theorem rows_depth:∀rows:List Row,PyData.depthAll (rows.map λr=>dT (r.map λx:Nat=>(x:Int)))<=1
 |[]=>by decide
 |r::rows=>by
  have:=rows_depth rows
  have e:(dT (r.map λx:Nat=>(x:Int))).depth=1:=by
   show PyData.depthAll _+1=1
   rw[ints_depth]
  rw[List.map_cons,PyData.depthAll,e]
  lia
theorem ref_snoc (cs:List Addr) (t:Addr):cs.map V.ref++[.ref t]=(cs++[t]).map V.ref:=by rw[List.map_append];rfl
def dRows (rows:List Row):List PyData:=rows.map λr=>dT (r.map λx:Nat=>(x:Int))
theorem eqv_nil (m:List Row):PyData.eqv (.list (dRows m)) (.list [])=m.isEmpty:=by
 cases m with
 |nil=>rfl
 |cons a l=>simp[dRows,PyData.eqv,PyData.eqvAll]
theorem rowsL_data {H:Hp}{p:Addr}{rows:List Row}(h:RowsL H p rows):DataAt H (.ref p) (.list (dRows rows)):=by
 obtain⟨bs,hp,hl,hr⟩:=h
 exact .lst hp (datas_rows hl hr)
theorem rowsL_depth (rows:List Row):(PyData.list (dRows rows)).depth<=60:=by
 have:=rows_depth rows
 show PyData.depthAll _+1<=60
 unfold dRows
 lia
def tK (rows:List Row):List (List Key×V):=tabl keyN rows 2
theorem idx_inst {α:Type}{i1 i2:BEq α}(h1:@LawfulBEq α i1) (h2:@LawfulBEq α i2) (l:List α) (a:α):@List.idxOf α i1 a l=@List.idxOf α i2 a l:=by
 cases beq_inst h1 h2
 rfl
theorem tK_val (rows:List Row) (r:Row):valV (tK rows) (keyN r)=if r∈rows then some (.int (rows.idxOf r+2:Nat)) else none:=by
 unfold tK
 rw[tabl_val (λa b=>keyN_inj)]
 split
 ·rw[Nat.add_comm]
  exact congrArg (λn:Nat=>some (V.int ((n+2:Nat):Int))) (idx_inst (by infer_instance) (by infer_instance) _ _)
 ·rfl
theorem same_sh {H1 H2:Hp}{t n tp:Nat}{rows:List Row}(h:ShapeAt H1 t n tp rows) (s:Same H1 H2):ShapeAt H2 t n tp rows:=let ⟨⟨p,a,b⟩,c,d⟩:=h;⟨⟨p,s _ _ a,b.same s⟩,c,d⟩
end Pr
namespace Qf
inductive Tr
 |z|o|nd (a b c d:Tr)
deriving DecidableEq
namespace Tr
def kids:Tr->List Tr
 |nd a b c d=>[a,b,c,d]
 |_=>[]
def dep:Tr->Nat
 |nd a b c d=>1+mx [dep a,dep b,dep c,dep d]
 |_=>0
def Red:Tr->Prop
 |nd a b c d=>¬(a=z/\b=z/\c=z/\d=z)/\¬(a=o/\b=o/\c=o/\d=o)/\Red a/\Red b/\Red c/\Red d
 |_=>True
def post:Tr->List Tr->List Tr
 |nd a b c d,e=>if nd a b c d∈e then e else post d (post c (post b (post a e)))++[nd a b c d]
 |_,e=>e
def In (L:List Tr) (t:Tr):Prop:=t=z\/t=o\/t∈L
theorem In.app {L s:List Tr}{t:Tr}(h:In L t):In (L++s) t:=h.imp id λh=>h.imp id λh=>List.mem_append_left _ h
structure Ord (L:List Tr):Prop where
 nd:L.Nodup
 ch:∀(i:Nat) t,L[i]?=some t->(∃a b c d,t=.nd a b c d)/\∀s∈kids t,s=z\/s=o\/∃j:Nat,j<i/\L[j]?=some s
theorem ord_nil:Ord []:=⟨List.nodup_nil,λi t h=>by simp at h⟩
theorem post_ext:∀(t:Tr) (e:List Tr),∃s,post t e=e++s
 |z,e=>⟨[],by simp[post]⟩
 |o,e=>⟨[],by simp[post]⟩
 |nd a b c d,e=>by
  unfold post
  split
  ·exact⟨[],by simp⟩
  ·obtain⟨s1,h1⟩:=post_ext a e
   obtain⟨s2,h2⟩:=post_ext b (post a e)
   obtain⟨s3,h3⟩:=post_ext c (post b (post a e))
   obtain⟨s4,h4⟩:=post_ext d (post c (post b (post a e)))
   exact⟨s1++s2++s3++s4++[nd a b c d],by rw[h4,h3,h2,h1];simp⟩
theorem In.post {L:List Tr}{t:Tr}(s:Tr) (h:In L t):In (post s L) t:=by
 obtain⟨u,e⟩:=post_ext s L
 rw[e];exact h.app
theorem post_mem:∀(t:Tr) (e:List Tr) (s:Tr),s∈post t e->s∈e\/sizeOf s<=sizeOf t
 |z,e,s,h=>.inl h
 |o,e,s,h=>.inl h
 |nd a b c d,e,s,h=>by
  unfold post at h
  split at h
  ·exact .inl h
  ·have sz:sizeOf (nd a b c d)=1+sizeOf a+sizeOf b+sizeOf c+sizeOf d:=by simp
   rcases List.mem_append.mp h with h|h
   ·rcases post_mem d _ s h with h|h
    ·rcases post_mem c _ s h with h|h
     ·rcases post_mem b _ s h with h|h
      ·rcases post_mem a _ s h with h|h
       ·exact .inl h
       ·exact .inr (by lia)
      ·exact .inr (by lia)
     ·exact .inr (by lia)
    ·exact .inr (by lia)
   ·have:s=nd a b c d:=by simpa using h
    rw[this]
    exact .inr (Nat.le_refl _)
theorem not_below {a b c d:Tr}{e:List Tr}(h:nd a b c d∉e):nd a b c d∉post d (post c (post b (post a e))):=λh2=>by
 have sz:sizeOf (nd a b c d)=1+sizeOf a+sizeOf b+sizeOf c+sizeOf d:=by simp
 rcases post_mem d _ _ h2 with h2|h2
 ·rcases post_mem c _ _ h2 with h2|h2
  ·rcases post_mem b _ _ h2 with h2|h2
   ·rcases post_mem a _ _ h2 with h2|h2
    ·exact h h2
    ·lia
   ·lia
  ·lia
 ·lia
theorem post_ord:∀(t:Tr) (e:List Tr),Ord e->Ord (post t e)/\In (post t e) t
 |z,e,h=>⟨h,.inl rfl⟩
 |o,e,h=>⟨h,.inr (.inl rfl)⟩
 |nd a b c d,e,h=>by
  unfold post
  split
  ·rename_i hm
   exact⟨h,.inr (.inr hm)⟩
  ·rename_i hm
   obtain⟨o1,i1⟩:=post_ord a e h
   obtain⟨o2,i2⟩:=post_ord b _ o1
   obtain⟨o3,i3⟩:=post_ord c _ o2
   obtain⟨o4,i4⟩:=post_ord d _ o3
   have i1:=((i1.post b).post c).post d
   have i2:=(i2.post c).post d
   have i3:=i3.post d
   have nb:=not_below hm
   generalize post d (post c (post b (post a e)))=L at o4 i1 i2 i3 i4 nb
   refine⟨⟨?_,?_⟩,.inr (.inr (by simp))⟩
   ·rw[List.nodup_append]
    exact⟨o4.nd,by simp,λx hx y hy e=>nb (by
     have:y=nd a b c d:=by simpa using hy
     rw[<- this,<- e];exact hx)⟩
   ·intro i t ht
    by_cases hi:i<L.length
    ·rw[List.getElem?_append_left hi] at ht
     obtain⟨h1,h2⟩:=o4.ch i t ht
     refine⟨h1,λs hs=>(h2 s hs).imp id λh=>h.imp id λ⟨j,hj,e⟩=>⟨j,hj,?_⟩⟩
     rw[List.getElem?_append_left (by lia)];exact e
    ·have hlen:=(List.getElem?_eq_some_iff.mp ht).1
     rw[List.length_append] at hlen
     have hi2:i=L.length:=by simp at hlen;lia
     subst hi2
     have et:t=nd a b c d:=by simpa using ht.symm
     subst et
     refine⟨⟨a,b,c,d,rfl⟩,λs hs=>?_⟩
     have hin:In L s:=by
      have:s=a\/s=b\/s=c\/s=d:=by simpa [kids] using hs
      rcases this with rfl|rfl|rfl|rfl<;>assumption
     refine hin.imp id λh=>h.imp id λhm=>?_
     obtain⟨j,hj,e⟩:=List.mem_iff_getElem.mp hm
     exact⟨j,hj,by rw[List.getElem?_append_left hj,List.getElem?_eq_getElem hj,e]⟩
def name (L:List Tr):Tr->Nat
 |z=>0
 |o=>1
 |t=>L.idxOf t+2
def rowsOf (L:List Tr):List Row:=L.map λt=>(kids t).map (name L)
theorem name_nd (L:List Tr) (a b c d:Tr):name L (.nd a b c d)=L.idxOf (.nd a b c d)+2:=rfl
theorem name_at {L:List Tr}(h:Ord L){i:Nat}{t:Tr}(e:L[i]?=some t):name L t=i+2:=by
 obtain⟨⟨a,b,c,d,rfl⟩,_⟩:=h.ch i t e
 rw[name_nd]
 congr 1
 have hl:=(List.getElem?_eq_some_iff.mp e).1
 have he:=(List.getElem?_eq_some_iff.mp e).2
 rw[<- he]
 exact h.nd.idxOf_getElem i hl
theorem name_in {L:List Tr}(h:Ord L){t:Tr}(hi:In L t):(t=z/\name L t=0)\/(t=o/\name L t=1)\/∃i:Nat,L[i]?=some t/\name L t=i+2:=by
 rcases hi with rfl|rfl|hm
 ·exact .inl ⟨rfl,rfl⟩
 ·exact .inr (.inl ⟨rfl,rfl⟩)
 ·obtain⟨j,hj,e⟩:=List.mem_iff_getElem.mp hm
  have e':L[j]?=some t:=by rw[List.getElem?_eq_getElem hj,e]
  exact .inr (.inr ⟨j,e',name_at h e'⟩)
theorem name_inj {L:List Tr}(h:Ord L){s t:Tr}(hs:In L s) (ht:In L t) (e:name L s=name L t):s=t:=by
 rcases name_in h hs with ⟨rfl,e1⟩|⟨rfl,e1⟩|⟨i,e0,e1⟩
 ·rcases name_in h ht with ⟨rfl,e2⟩|⟨rfl,e2⟩|⟨j,e3,e2⟩
  ·rfl
  ·lia
  ·lia
 ·rcases name_in h ht with ⟨rfl,e2⟩|⟨rfl,e2⟩|⟨j,e3,e2⟩
  ·lia
  ·rfl
  ·lia
 ·rcases name_in h ht with ⟨rfl,e2⟩|⟨rfl,e2⟩|⟨j,e3,e2⟩
  ·lia
  ·lia
  ·have:i=j:=by lia
   subst this
   rw[e0] at e3
   exact Option.some.inj e3
theorem name_app {L s:List Tr}{t:Tr}(h:In L t) (hz:Ord L):name (L++s) t=name L t:=by
 rcases name_in hz h with ⟨rfl,_⟩|⟨rfl,_⟩|⟨i,e,_⟩
 ·rfl
 ·rfl
 ·obtain⟨⟨a,b,c,d,rfl⟩,_⟩:=hz.ch i t e
  rw[name_nd,name_nd,List.idxOf_append,if_pos (List.mem_of_getElem? e)]
theorem kid_in {L:List Tr}(h:Ord L){i:Nat}{t s:Tr}(e:L[i]?=some t) (hs:s∈kids t):In L s/\name L s<i+2:=by
 rcases (h.ch i t e).2 s hs with rfl|rfl|⟨j,hj,e2⟩
 ·exact⟨.inl rfl,by show 0<_;lia⟩
 ·exact⟨.inr (.inl rfl),by show 1<_;lia⟩
 ·exact⟨.inr (.inr (List.mem_of_getElem? e2)),by rw[name_at h e2];lia⟩
theorem rowsOf_len (L:List Tr):(rowsOf L).length=L.length:=by simp[rowsOf]
theorem rowsOf_at {L:List Tr}{i:Nat}{t:Tr}(e:L[i]?=some t):(rowsOf L)[i]?=some ((kids t).map (name L)):=by
 unfold rowsOf;rw[List.getElem?_map,e];rfl
theorem rowsOf_get {L:List Tr}{i:Nat}{r:Row}(e:(rowsOf L)[i]?=some r):∃t,L[i]?=some t/\r=(kids t).map (name L):=by
 unfold rowsOf at e
 rw[List.getElem?_map] at e
 obtain⟨t,h1,h2⟩:=Option.map_eq_some_iff.mp e
 exact⟨t,h1,h2.symm⟩
theorem rowsOf_ok {L:List Tr}(h:Ord L):RowsOk (rowsOf L):=λp r hp=>by
 obtain⟨t,ht,rfl⟩:=rowsOf_get hp
 obtain⟨⟨a,b,c,d,rfl⟩,_⟩:=h.ch p t ht
 refine⟨rfl,λx hx=>?_⟩
 obtain⟨s,hs,rfl⟩:=List.mem_map.mp hx
 exact (kid_in h ht hs).2
theorem map_name_inj {L:List Tr}(h:Ord L):∀{k l:List Tr},(∀s∈k,In L s)->(∀s∈l,In L s)->k.map (name L)=l.map (name L)->k=l
 |[],[],_,_,_=>rfl
 |[],_::_,_,_,e=>by simp at e
 |_::_,[],_,_,e=>by simp at e
 |a::k,b::l,h1,h2,e=>by
  simp only[List.map_cons,List.cons.injEq] at e
  rw[name_inj h (h1 a List.mem_cons_self) (h2 b List.mem_cons_self) e.1,map_name_inj h (λs hs=>h1 s (List.mem_cons_of_mem _ hs)) (λs hs=>h2 s (List.mem_cons_of_mem _ hs)) e.2]
theorem kids_inj {s t:Tr}(hs:∃a b c d,s=.nd a b c d) (ht:∃a b c d,t=.nd a b c d) (e:kids s=kids t):s=t:=by
 obtain⟨a,b,c,d,rfl⟩:=hs
 obtain⟨a',b',c',d',rfl⟩:=ht
 simpa [kids] using e
theorem rowsOf_nodup {L:List Tr}(h:Ord L):(rowsOf L).Nodup:=by
 rw[nd_iff]
 intro i j hij hj e
 rw[rowsOf_len] at hj
 have ei:L[i]?=some L[i]:=List.getElem?_eq_getElem (by lia)
 have ej:L[j]?=some L[j]:=List.getElem?_eq_getElem hj
 rw[rowsOf_at ei,rowsOf_at ej] at e
 have:=kids_inj (h.ch i _ ei).1 (h.ch j _ ej).1 (map_name_inj h (λs hs=>(kid_in h ei hs).1) (λs hs=>(kid_in h ej hs).1) (Option.some.inj e))
 have h2:=nd_iff.mp h.nd i j hij hj
 rw[ei,ej] at h2
 exact h2 (by rw[this])
end Tr
open Tr
def tr (rows:List Row):Nat->Nat->Tr
 |0,x=>if x=1 then .o else .z
 |d+1,x=>if x=0 then .z else if x=1 then .o else .nd (tr rows d ((rows.getD (x-2) []).getD 0 0)) (tr rows d ((rows.getD (x-2) []).getD 1 0)) (tr rows d ((rows.getD (x-2) []).getD 2 0)) (tr rows d ((rows.getD (x-2) []).getD 3 0))
theorem tr_zero (rows:List Row) (d:Nat):tr rows d 0=.z:=by cases d<;>rfl
theorem tr_one (rows:List Row) (d:Nat):tr rows d 1=.o:=by cases d<;>rfl
theorem four_of {r:Row}(h:r.length=4):∃a b c d,r=[a,b,c,d]:=by
 match r,h with
 |[a,b,c,d],_=>exact⟨a,b,c,d,rfl⟩
theorem tr_row {rows:List Row}{d p a b c e:Nat}(hp:rows[p]?=some [a,b,c,e]):tr rows (d+1) (p+2)=.nd (tr rows d a) (tr rows d b) (tr rows d c) (tr rows d e):=by
 have:rows.getD p []=[a,b,c,e]:=by rw[List.getD_eq_getElem?_getD,hp];rfl
 show (if p+2=0 then _ else if p+2=1 then _ else _)=_
 rw[if_neg (by lia),if_neg (by lia),show p+2-2=p by lia,this]
 rfl
theorem row_at {rows:List Row}(ok:RowsOk rows){x:Nat}(hx:x<rows.length+2) (h:¬x<2):∃p a b c d,x=p+2/\rows[p]?=some [a,b,c,d]:=by
 have hp:x-2<rows.length:=by lia
 have hg:rows[x-2]?=some rows[x-2]:=List.getElem?_eq_getElem hp
 obtain⟨a,b,c,d,e⟩:=four_of (ok _ _ hg).1
 exact⟨x-2,a,b,c,d,by lia,by rw[hg,e]⟩
theorem tr_stable {rows:List Row}(ok:RowsOk rows):∀(d d' x:Nat),dp rows x<=d->dp rows x<=d'->x<rows.length+2->tr rows d x=tr rows d' x:=by
 intro d
 induction d with
 |zero=>
  intro d' x h1 h2 hx
  have x2:=dp_pos ok hx h1
  match x,x2 with
  |0,_=>rw[tr_zero,tr_zero]
  |1,_=>rw[tr_one,tr_one]
 |succ d ih=>
  intro d' x h1 h2 hx
  by_cases x2:x<2
  ·match x,x2 with
   |0,_=>rw[tr_zero,tr_zero]
   |1,_=>rw[tr_one,tr_one]
  ·obtain⟨p,a,b,c,e,rfl,hp⟩:=row_at ok hx x2
   match d',h2 with
   |0,h2=>exact absurd (dp_pos ok hx h2) x2
   |d'+1,h2=>
    have q:=λy (hy:y∈[a,b,c,e])=>dp_quarter ok hp h1 hy
    have q':=λy (hy:y∈[a,b,c,e])=>dp_quarter ok hp h2 hy
    rw[tr_row hp,tr_row hp,ih d' a (q a (by simp)).2 (q' a (by simp)).2 (q a (by simp)).1,ih d' b (q b (by simp)).2 (q' b (by simp)).2 (q b (by simp)).1,ih d' c (q c (by simp)).2 (q' c (by simp)).2 (q c (by simp)).1,ih d' e (q e (by simp)).2 (q' e (by simp)).2 (q e (by simp)).1]
def T (rows:List Row) (x:Nat):Tr:=tr rows (dp rows x) x
theorem T_zero (rows:List Row):T rows 0=.z:=tr_zero _ _
theorem T_one (rows:List Row):T rows 1=.o:=tr_one _ _
theorem T_row {rows:List Row}(ok:RowsOk rows){p a b c e:Nat}(hp:rows[p]?=some [a,b,c,e]):T rows (p+2)=.nd (T rows a) (T rows b) (T rows c) (T rows e):=by
 have hpl:=(List.getElem?_eq_some_iff.mp hp).1
 obtain⟨d,hd⟩:∃d,dp rows (p+2)=d+1:=⟨_,by rw[dp_at ok hp];exact Nat.add_comm _ _⟩
 have q:=λy (hy:y∈[a,b,c,e])=>dp_quarter ok hp (Nat.le_of_eq hd) hy
 unfold T
 rw[hd,tr_row hp,tr_stable ok d _ a (q a (by simp)).2 (Nat.le_refl _) (q a (by simp)).1,tr_stable ok d _ b (q b (by simp)).2 (Nat.le_refl _) (q b (by simp)).1,tr_stable ok d _ c (q c (by simp)).2 (Nat.le_refl _) (q c (by simp)).1,tr_stable ok d _ e (q e (by simp)).2 (Nat.le_refl _) (q e (by simp)).1]
theorem T_inj {rows:List Row}(ok:RowsOk rows) (nd:rows.Nodup):∀(d x y:Nat),dp rows x<=d->x<rows.length+2->y<rows.length+2->T rows x=T rows y->x=y:=by
 intro d
 have low:∀x y,x<2->y<rows.length+2->T rows x=T rows y->x=y:=λx y x2 hy e=>by
  by_cases y2:y<2
  ·match x,y,x2,y2 with
   |0,0,_,_=>rfl
   |1,1,_,_=>rfl
   |0,1,_,_=>rw[T_zero,T_one] at e;cases e
   |1,0,_,_=>rw[T_zero,T_one] at e;cases e
  ·obtain⟨p,a,b,c,f,rfl,hp⟩:=row_at ok hy y2
   rw[T_row ok hp] at e
   match x,x2 with
   |0,_=>rw[T_zero] at e;cases e
   |1,_=>rw[T_one] at e;cases e
 induction d with
 |zero=>exact λx y h hx hy e=>low x y (dp_pos ok hx h) hy e
 |succ d ih=>
  intro x y h hx hy e
  by_cases x2:x<2
  ·exact low x y x2 hy e
  ·by_cases y2:y<2
   ·exact (low y x y2 hx e.symm).symm
   ·obtain⟨p,a,b,c,f,rfl,hp⟩:=row_at ok hx x2
    obtain⟨p',a',b',c',f',rfl,hp'⟩:=row_at ok hy y2
    rw[T_row ok hp,T_row ok hp'] at e
    have q:=λy (hy:y∈[a,b,c,f])=>dp_quarter ok hp h hy
    have q':∀y∈[a',b',c',f'],y<rows.length+2:=λy hy=>by
     have:=(ok _ _ hp').2 y hy
     have:=(List.getElem?_eq_some_iff.mp hp').1
     lia
    injection e with e1 e2 e3 e4
    have h1:=ih a a' (q a (by simp)).2 (q a (by simp)).1 (q' a' (by simp)) e1
    have h2:=ih b b' (q b (by simp)).2 (q b (by simp)).1 (q' b' (by simp)) e2
    have h3:=ih c c' (q c (by simp)).2 (q c (by simp)).1 (q' c' (by simp)) e3
    have h4:=ih f f' (q f (by simp)).2 (q f (by simp)).1 (q' f' (by simp)) e4
    subst h1 h2 h3 h4
    have:p=p':=by
     rcases Nat.lt_trichotomy p p' with z|z|z
     ·exact absurd (hp.trans hp'.symm) (nd_iff.mp nd p p' z (List.getElem?_eq_some_iff.mp hp').1)
     ·exact z
     ·exact absurd (hp'.trans hp.symm) (nd_iff.mp nd p' p z (List.getElem?_eq_some_iff.mp hp).1)
    rw[this]
def tau (rows:List Row) (p:Nat):Tr:=T rows (p+2)
theorem tau_mem {rows:List Row}(ok:RowsOk rows) (nd:rows.Nodup){e:List Nat}(pe:Post rows e){p:Nat}(hp:p<rows.length):tau rows p∈e.map (tau rows)<->p∈e:=by
 constructor
 ·intro h
  obtain⟨q,hq,e2⟩:=List.mem_map.mp h
  have:=T_inj ok nd _ (q+2) (p+2) (Nat.le_refl _) (by have:=pe.lt q hq;lia) (by lia) e2
  have:q=p:=by lia
  rw[<- this];exact hq
 ·exact λh=>List.mem_map.mpr ⟨p,h,rfl⟩
theorem dfs_tree {rows:List Row}(ok:RowsOk rows) (nd:rows.Nodup):∀(d:Nat) (e:List Nat) (x:Nat),Post rows e->x<rows.length+2->dp rows x<=d->(dfs rows d e x).map (tau rows)=post (T rows x) (e.map (tau rows)):=by
 intro d
 induction d with
 |zero=>
  intro e x pe hx hd
  have x2:=dp_pos ok hx hd
  match x,x2 with
  |0,_=>rw[T_zero];rfl
  |1,_=>rw[T_one];rfl
 |succ d ih=>
  intro e x pe hx hd
  by_cases x2:x<2
  ·have:dfs rows (d+1) e x=e:=by
    show (if x<2\/x-2∈e then e else _)=e
    rw[if_pos (.inl x2)]
   rw[this]
   match x,x2 with
   |0,_=>rw[T_zero];rfl
   |1,_=>rw[T_one];rfl
  ·obtain⟨p,a,b,c,f,rfl,hp⟩:=row_at ok hx x2
   have hpl:=(List.getElem?_eq_some_iff.mp hp).1
   have hm:=tau_mem ok nd pe hpl
   have hg:rows.getD p []=[a,b,c,f]:=by rw[List.getD_eq_getElem?_getD,hp];rfl
   have et:tau rows p=.nd (T rows a) (T rows b) (T rows c) (T rows f):=T_row ok hp
   rw[T_row ok hp]
   show (if p+2<2\/p+2-2∈e then e else (rows.getD (p+2-2) []).foldl (dfs rows d) e++[p+2-2]).map (tau rows)=(if _∈e.map (tau rows) then _ else _)
   rw[show p+2-2=p by lia,<- et,hg]
   by_cases hpe:p∈e
   ·rw[if_pos (.inr hpe),if_pos (hm.mpr hpe)]
   ·rw[if_neg (by rintro (z|z);lia;exact hpe z),if_neg (λz=>hpe (hm.mp z))]
    have q:=λy (hy:y∈[a,b,c,f])=>dp_quarter ok hp hd hy
    obtain⟨qa,qa'⟩:=q a (by simp)
    obtain⟨qb,qb'⟩:=q b (by simp)
    obtain⟨qc,qc'⟩:=q c (by simp)
    obtain⟨qf,qf'⟩:=q f (by simp)
    have p1:=(dfs_post ok d e a pe qa qa').1
    have p2:=(dfs_post ok d _ b p1 qb qb').1
    have p3:=(dfs_post ok d _ c p2 qc qc').1
    show (dfs rows d (dfs rows d (dfs rows d (dfs rows d e a) b) c) f++[p]).map (tau rows)=_
    rw[List.map_append,ih _ f p3 qf qf',ih _ c p2 qc qc',ih _ b p1 qb qb',ih _ a pe qa qa',et]
    show _++[tau rows p]=_
    rw[et]
theorem dp_name {L:List Tr}(h:Ord L):∀t:Tr,In L t->dp (rowsOf L) (name L t)=dep t
 |.z,_=>dp_low (by decide:(0:Nat)<2)
 |.o,_=>dp_low (by decide:(1:Nat)<2)
 |.nd a b c d,hi=>by
  rcases name_in h hi with ⟨e,_⟩|⟨e,_⟩|⟨i,e,e2⟩
  ·cases e
  ·cases e
  ·have hk:=λs (hs:s∈kids (.nd a b c d))=>(kid_in h e hs).1
   rw[e2,dp_at (rowsOf_ok h) (rowsOf_at e)]
   show 1+mx [_,_,_,_]=1+mx [dep a,dep b,dep c,dep d]
   rw[dp_name h a (hk a (by simp[kids])),dp_name h b (hk b (by simp[kids])),dp_name h c (hk c (by simp[kids])),dp_name h d (hk d (by simp[kids]))]
theorem T_name {L:List Tr}(h:Ord L):∀t:Tr,In L t->T (rowsOf L) (name L t)=t
 |.z,_=>T_zero _
 |.o,_=>T_one _
 |.nd a b c d,hi=>by
  rcases name_in h hi with ⟨e,_⟩|⟨e,_⟩|⟨i,e,e2⟩
  ·cases e
  ·cases e
  ·have hk:=λs (hs:s∈kids (.nd a b c d))=>(kid_in h e hs).1
   rw[e2,T_row (rowsOf_ok h) (rowsOf_at e),T_name h a (hk a (by simp[kids])),T_name h b (hk b (by simp[kids])),T_name h c (hk c (by simp[kids])),T_name h d (hk d (by simp[kids]))]
def AllRed (L:List Tr):Prop:=∀t∈L,Red t
theorem post_red:∀(t:Tr) (e:List Tr),Red t->AllRed e->AllRed (post t e)
 |.z,_,_,h=>h
 |.o,_,_,h=>h
 |.nd a b c d,e,hr,h=>by
  unfold post
  split
  ·exact h
  ·have h4:=post_red d _ hr.2.2.2.2.2 (post_red c _ hr.2.2.2.2.1 (post_red b _ hr.2.2.2.1 (post_red a e hr.2.2.1 h)))
   intro s hs
   rcases List.mem_append.mp hs with hs|hs
   ·exact h4 s hs
   ·have:s=.nd a b c d:=by simpa using hs
    rw[this];exact hr
theorem name_zero {L:List Tr}{t:Tr}(h:name L t=0):t=.z:=by
 cases t with
 |z=>rfl
 |o=>cases h
 |nd a b c d=>rw[name_nd] at h;lia
theorem name_one {L:List Tr}{t:Tr}(h:name L t=1):t=.o:=by
 cases t with
 |z=>cases h
 |o=>rfl
 |nd a b c d=>rw[name_nd] at h;lia
theorem rowsOf_unplain {L:List Tr}(h:Ord L) (hr:AllRed L):∀r∈rowsOf L,¬Plain r:=λr hm=>by
 obtain⟨i,hi,e⟩:=List.mem_iff_getElem.mp hm
 obtain⟨t,ht,rfl⟩:=rowsOf_get (i:=i) (r:=r) (by rw[List.getElem?_eq_getElem hi,e])
 obtain⟨⟨a,b,c,d,rfl⟩,_⟩:=h.ch i t ht
 have rd:=hr _ (List.mem_of_getElem? ht)
 rintro (z|z)
 ·have z':[name L a,name L b,name L c,name L d]=[0,0,0,0]:=z
  simp only[List.cons.injEq,and_true] at z'
  exact rd.1 ⟨name_zero z'.1,name_zero z'.2.1,name_zero z'.2.2.1,name_zero z'.2.2.2⟩
 ·have z':[name L a,name L b,name L c,name L d]=[1,1,1,1]:=z
  simp only[List.cons.injEq,and_true] at z'
  exact rd.2.1 ⟨name_one z'.1,name_one z'.2.1,name_one z'.2.2.1,name_one z'.2.2.2⟩
theorem canon_tree {n:Nat}(hn:n<=12){t:Tr}(hr:Red t) (hd:dep t<=n):Canon n (name (post t []) t) (rowsOf (post t [])):=by
 obtain⟨ho,hi⟩:=post_ord t [] ord_nil
 have hred:=post_red t [] hr (λs hs=>nomatch hs)
 have hT:=T_name ho t hi
 have hdp:=dp_name ho t hi
 have hpost:post t []=post t []:=rfl
 generalize hL:post t []=L at ho hi hred hT hdp
 have ok:=rowsOf_ok ho
 have ndr:=rowsOf_nodup ho
 have hin:name L t<(rowsOf L).length+2:=by
  rw[rowsOf_len]
  rcases name_in ho hi with ⟨_,e⟩|⟨_,e⟩|⟨i,e,e2⟩
  ·lia
  ·lia
  ·have:=(List.getElem?_eq_some_iff.mp e).1
   lia
 refine⟨hn,ok,hin,by rw[hdp];exact hd,rowsOf_unplain ho hred,ndr,?_⟩
 have hdt:=dfs_tree ok ndr n [] (name L t) (post_nil _) hin (by rw[hdp];exact hd)
 rw[hT] at hdt
 have e2:(dfs (rowsOf L) n [] (name L t)).map (tau (rowsOf L))=L:=by rw[hdt];exact hL
 have pe:=(dfs_post ok n [] (name L t) (post_nil _) hin (by rw[hdp];exact hd)).1
 generalize dfs (rowsOf L) n [] (name L t)=E at e2 pe
 have hE:E.length=L.length:=by rw[<- e2];simp
 refine List.ext_getElem? λi=>?_
 by_cases hi2:i<E.length
 ·have hg:E[i]?=some E[i]:=List.getElem?_eq_getElem hi2
  have hlt:=pe.lt E[i] (List.getElem_mem hi2)
  rw[rowsOf_len] at hlt
  have e3:L[i]?=some (tau (rowsOf L) E[i]):=by
   conv=>lhs;rw[<- e2]
   rw[List.getElem?_map,hg];rfl
  have e4:tau (rowsOf L) E[i]=L[E[i]]:=by
   have ea:L[E[i]]?=some L[E[i]]:=List.getElem?_eq_getElem hlt
   have:=T_name ho L[E[i]] (.inr (.inr (List.getElem_mem hlt)))
   rw[name_at ho ea] at this
   exact this
  rw[e4] at e3
  have:E[i]=i:=by
   rcases Nat.lt_trichotomy E[i] i with z|z|z
   ·exact absurd (by rw[e3];exact List.getElem?_eq_getElem hlt) (nd_iff.mp ho.nd E[i] i z (by lia))
   ·exact z
   ·exact absurd (by rw[e3];exact (List.getElem?_eq_getElem hlt).symm) (nd_iff.mp ho.nd i E[i] z hlt)
  rw[hg,this,List.getElem?_range (by rw[rowsOf_len];lia)]
 ·rw[List.getElem?_eq_none (by lia),List.getElem?_eq_none (by rw[List.length_range,rowsOf_len];lia)]
end Qf
namespace L2
open PySem
theorem compG_rng {H:Hp}{n k:Nat}{g:TG}{tt:TT}{te:TE}{σ:St}{Fin:Hp->Prop}{D:Addr}(Iv:Nat->List V->Hp->Prop) (hsz:n<sizeLine) (i0:Iv 0 [] (upd H D (.lst []))) (hD:∀i xs H2,Iv i xs H2->H2 D=some (.lst xs)/\xs.length<=i)
  (step:∀i xs H2,i<n->Iv i xs H2->∀os:St,os.length=k->∀(Q1:Hp->Prop) (Q2:VK),(∀H3,Iv (i+1) xs H3->Q1 H3)->(∀v H3,H3 D=some (.lst xs)->Iv (i+1) (xs++[v]) (upd H3 D (.lst (xs++[v])))->Q2 v H3) ->
   g (.int (0+(i:Int))) (os++σ) H2 λσ4 H4=>tt σ4 H4 λb H5=>if b=true then te σ4 H5 Q2 else Q1 H5)
  (fin:∀xs H2,Iv n xs H2->Fin H2) :
  ∃W:Nat->Nat->List V->Hp->Prop,(∃m,W 0 m [] (upd H D (.lst []))) /\
   ∀i m xs H2,W i m xs H2->H2 D=some (.lst xs)/\xs.length<sizeLine/\(((Itr 0 n).stop i H2/\Fin H2)\/((Itr 0 n).go i H2/\∀y H3,(Itr 0 n).yld i H2 y H3->∀os:St,os.length=k ->
    g y (os++σ) H3 λσ4 H4=>tt σ4 H4 λb H5=>if b=true then te σ4 H5 λv H6=>H6 D=some (.lst xs)/\∃m',m'<m/\W (i+1) m' (xs++[v]) (upd H6 D (.lst (xs++[v]))) else ∃m',m'<m/\W (i+1) m' xs H5)):=by
 refine⟨λi m xs H2=>i<=n/\m=n-i/\Iv i xs H2,⟨n,Nat.zero_le _,rfl,i0⟩,?_⟩
 rintro i m xs H2 ⟨hi,rfl,iv⟩
 obtain⟨h1,h2⟩:=hD i xs H2 iv
 refine⟨h1,by lia,?_⟩
 by_cases he:i=n
 ·subst he
  exact .inl ⟨Nat.le_refl i,fin xs H2 iv⟩
 ·refine .inr ⟨show i<n by lia,λy H3 hy os ho=>?_⟩
  obtain⟨e1,e2⟩:=hy
  rw[e1,e2]
  exact step i xs H2 (by lia) iv os ho _ _ (λH5 h=>⟨n-(i+1),by lia,by lia,rfl,h⟩) λv H6 h1 h2=>⟨h1,n-(i+1),by lia,by lia,rfl,h2⟩
theorem comp_rng {H:Hp}{n:Nat}{te:TE}{σ:St}{Fin:Hp->Prop}{D:Addr}(Iv:Nat->List V->Hp->Prop) (hsz:n<sizeLine) (i0:Iv 0 [] (upd H D (.lst []))) (hD:∀i xs H2,Iv i xs H2->H2 D=some (.lst xs)/\xs.length<=i)
  (step:∀i xs H2,i<n->Iv i xs H2->∀Q2:VK,(∀v H3,H3 D=some (.lst xs)->Iv (i+1) (xs++[v]) (upd H3 D (.lst (xs++[v])))->Q2 v H3)->te (some (.int (0+(i:Int)))::σ) H2 Q2)
  (fin:∀xs H2,Iv n xs H2->Fin H2) :
  ∃W:Nat->Nat->List V->Hp->Prop,(∃m,W 0 m [] (upd H D (.lst []))) /\
   ∀i m xs H2,W i m xs H2->H2 D=some (.lst xs)/\xs.length<sizeLine/\(((Itr 0 n).stop i H2/\Fin H2)\/((Itr 0 n).go i H2/\∀y H3,(Itr 0 n).yld i H2 y H3 ->
    te (some y::σ) H3 λv H4=>H4 D=some (.lst xs)/\∃m',m'<m/\W (i+1) m' (xs++[v]) (upd H4 D (.lst (xs++[v]))))):=by
 refine⟨λi m xs H2=>i<=n/\m=n-i/\Iv i xs H2,⟨n,Nat.zero_le _,rfl,i0⟩,?_⟩
 rintro i m xs H2 ⟨hi,rfl,iv⟩
 obtain⟨h1,h2⟩:=hD i xs H2 iv
 refine⟨h1,by lia,?_⟩
 by_cases he:i=n
 ·subst he
  exact .inl ⟨Nat.le_refl i,fin xs H2 iv⟩
 ·refine .inr ⟨show i<n by lia,λy H3 hy=>?_⟩
  obtain⟨e1,e2⟩:=hy
  rw[e1,e2]
  exact step i xs H2 (by lia) iv _ λv H6 h1 h2=>⟨h1,n-(i+1),by lia,by lia,rfl,h2⟩
end L2
namespace Pr
open PySem L2 Qf
structure Blt2 (mg:Str->Option Value):Prop where
 abs:mg "abs" = none
 repr:mg "repr" = none
 str:mg "str" = none
section
variable {P:Program}{w:World}{K:PySem.W.Frag}{mg:Str->Option Value}{base:Heap}
theorem scDigit:FnScope ["_law_pot_here", "_law_many", "_law_digit_here"] ["_law_pot_here", "_law_many"] (defScope lDigit):=⟨rfl,rfl,rfl,by decide +kernel,rfl,by decide +kernel,by decide +kernel⟩
def spDigit:Sp:=λvs H Q _=>∃(p:Addr) (n:Nat),vs=[.ref p,.int (n:Nat)]/\PurseAt H p/\0<n/\n<1000000/\∀(d:Nat) (H':Hp),d<n->But p H H'->PurseAt H' p->Q (.int (d:Nat)) H'
theorem ok_digit {f:Addr}{fd:FuncData}(F:Fun K "_law_digit" "_law_digit" lDigit f fd):FnOk P w K mg base CX0 1 f fd ["_law_pot_here", "_law_many"] spDigit:=by
 refine F.ok scDigit (λvs H Q E h=>?_) (λcdv A outer s H vs Q E hr h=>?_)
 ·obtain⟨p,n,rfl,_⟩:=h
  rfl
 ·obtain⟨p,n,rfl,⟨a,b,hp,ha,hb,hb2⟩,hn,hn2,q⟩:=h
  refine⟨_,pss_cons (ps_if (pt_cmpR op_gt (pe_ix ix_list (pv 0) pe_int (λ_ _=>rfl)) pe_int (nomark _))
    (pss_cons (ps_set (i:=2) scDigit.nd rfl (Or.inl rfl) (pe_op op_mod (pe_ix ix_list (pv 0) pe_int (λ_ _=>rfl)) (pv 1)))
    (pss_cons (ps_asg (pe_op op_fdiv (pe_ix ix_list (pv 0) pe_int (λ_ _=>rfl)) (pv 1)) (pg_sub (pv 0) pe_int set_list))
    (pss_one (ps_ret (pv 2))))) pss_nil)
   (pss_cons (ps_asg (pe_op op_mod (pe_op op_add (pe_op op_mul (pe_ix ix_list (pv 0) pe_int (λ_ _=>rfl)) pe_int) pe_int) pe_int) (pg_sub (pv 0) pe_int set_list))
   (pss_one (ps_ret (pe_op op_mod (pe_op op_fdiv (pe_ix ix_list (pv 0) pe_int (λ_ _=>rfl)) pe_int) (pv 1))))),?_⟩
  have sq:∀{H':Hp}{xs:List V},H' p=some (.lst xs)->SqL K H' p xs:=λh=>SqL.of h
  have fin:∀(d x y:Int),0<=d->d<(n:Int)->0<=x->0<=y->y<2^40->Q (.int d) (upd H p (.lst [.int x,.int y])):=λd x y d0 d1 x0 y0 y1=>by
   have:=q d.toNat (upd H p (.lst [.int x,.int y])) (by lia) But.upd ⟨x,y,upd_same,x0,y0,y1⟩
   rwa [show ((d.toNat:Nat):Int)=d by lia] at this
  have hn0:(0:Int)<n:=by lia
  refine⟨_,rfl,p,_,0,_,rfl,rfl,sq hp,rfl,_,_,rfl,rfl,_,rfl,?_⟩
  refine ite2 (λhc=>?_) (λhc=>?_)
  ·refine⟨_,rfl,p,_,0,_,rfl,rfl,sq hp,rfl,_,rfl,_,_,rfl,rfl,hn0,?_⟩
   refine⟨_,rfl,p,_,0,_,rfl,rfl,sq hp,rfl,_,rfl,_,_,rfl,rfl,⟨hn0,by lia⟩,_,rfl,p,_,0,0,rfl,rfl,hp,rfl,?_⟩
   refine⟨_,rfl,?_⟩
   exact fin _ _ _ (Int.emod_nonneg _ (by lia)) (Int.emod_lt_of_pos _ hn0) (Int.ediv_nonneg ha (by lia)) hb hb2
  ·refine⟨_,rfl,p,_,1,_,rfl,rfl,sq hp,rfl,_,_,rfl,rfl,.inl ⟨by lia,by lia⟩,_,_,rfl,rfl,_,_,rfl,rfl,(by show (0:Int)<2147483629;decide),_,rfl,p,_,1,1,rfl,rfl,hp,rfl,?_⟩
   have m1:0<=(b*48271+8191)%2147483629/\(b*48271+8191)%2147483629<2147483629:=⟨Int.emod_nonneg _ (by decide),Int.emod_lt_of_pos _ (by decide)⟩
   refine⟨_,rfl,p,_,1,_,rfl,rfl,sq upd_same,rfl,_,_,rfl,rfl,⟨by decide,by decide⟩,_,rfl,_,_,rfl,rfl,hn0,?_⟩
   exact fin _ _ _ (Int.emod_nonneg _ (by lia)) (Int.emod_lt_of_pos _ hn0) ha m1.1 (by lia)
theorem scPot:FnScope ["_law_script", "_law_k", "_law_cell"] ["_law_script", "_law_k"] (defScope lPot):=⟨rfl,rfl,rfl,by decide +kernel,rfl,by decide +kernel,by decide +kernel⟩
def spPot (K:PySem.W.Frag):Sp:=λvs H Q _=>∃(a:Addr) (k:Int) (ns:List Int),vs=[.ref a,.int k]/\SqL K H a (ns.map V.int)/\ns.length<=63/\0<=k/\k<=1000/\∀(H':Hp) (p:Addr),Same H H'->H p=none->PurseAt H' p->Q (.ref p) H'
theorem ok_pot {f:Addr}{fd:FuncData}(F:Fun K "_law_pot" "_law_pot" lPot f fd) (B:Blt mg) (C:Blt2 mg):FnOk P w K mg base CX0 1 f fd ["_law_script", "_law_k"] (spPot K):=by
 refine F.ok scPot (λvs H Q E h=>?_) (λcdv A outer s H vs Q E hr h=>?_)
 ·obtain⟨a,k,ns,rfl,_⟩:=h
  rfl
 ·obtain⟨a,k,ns,rfl,hS,hl,h0,h1,q⟩:=h
  refine seqE ⟨_,⟨ps_set (i:=2) scPot.nd rfl (Or.inl rfl) pe_int⟩,?_⟩
  refine seqE ⟨_,⟨ps_if (pt_cmpR op_lt (pv 1) (pe_callB call_len_seq (by rfl) B.len PySem.boot_len (pa_cons (pv 0) pa_nil)) (nomark _)) (pss_one (ps_set (i:=2) scPot.nd rfl (Or.inl rfl) (pe_ix ix_list (pv 0) (pv 1) (λ_ _=>rfl)))) pss_nil⟩,?_⟩
  refine lastE ⟨_,⟨ps_ret (pe_lst (Ars2.go (.cons ⟨pe_callB (call_max2 rfl) (by rfl) B.max PyProof.Rows.boot_max (pa_cons pe_int (pa_cons (pe_op op_sub (pe_callB call_abs (by rfl) C.abs PyProof.Rows.boot_abs (pa_cons (pv 2) pa_nil)) (pe_op op_pow pe_int pe_int)) pa_nil))⟩
    (.cons ⟨pe_op op_add (pe_op op_add (pe_op op_mod (pe_callB call_abs (by rfl) C.abs PyProof.Rows.boot_abs (pa_cons (pv 2) pa_nil)) pe_int) (pe_op op_mul pe_int (pv 1))) pe_int⟩ .nil rfl) rfl)))⟩,?_⟩
  have fin:∀(z:Int) (p:Addr),H p=none->Q (.ref p) (upd H p (.lst [.int (if (if z<0 then -z else z)-10^18>0 then (if z<0 then -z else z)-10^18 else 0),.int ((if z<0 then -z else z)%2147483629+97*k+1)])):=λz p hp=>by
   have m1:0<=(if z<0 then -z else z)%2147483629/\(if z<0 then -z else z)%2147483629<2147483629:=⟨Int.emod_nonneg _ (by decide),Int.emod_lt_of_pos _ (by decide)⟩
   refine q _ p (sameU hp) hp ⟨_,_,upd_same,?_,?_,?_⟩
   ·split<;>lia
   ·lia
   ·lia
  refine⟨_,rfl,_,rfl,a,_,rfl,.inl hS,_,_,rfl,rfl,_,rfl,?_⟩
  refine ite2 (λhc=>?_) (λhc=>?_)
  ·have hk:k<(ns.length:Int):=by
    have:=of_decide_eq_true hc
    simpa using this
   have hkn:k.toNat<ns.length:=by lia
   refine⟨_,rfl,_,rfl,a,_,k,.int (ns[k.toNat]),rfl,rfl,hS,?_,?_⟩
   ·have:=atI_nat (xs:=ns.map V.int) (j:=k.toNat) (v:=.int (ns[k.toNat])) (by simp[hkn])
    rw[show ((k.toNat:Nat):Int)=k by lia] at this
    exact this
   ·refine⟨_,rfl,_,rfl,_,_,rfl,rfl,⟨by decide,by decide,by decide⟩,_,_,rfl,rfl,_,_,rfl,?_⟩
    exact⟨_,rfl,_,rfl,_,_,rfl,rfl,(by show (0:Int)<2147483629;decide),_,rfl,_,_,rfl,rfl,.inl ⟨by decide,by decide⟩,_,_,rfl,rfl,_,_,rfl,rfl,(by show 2<=sizeLine;decide),λp hp=>fin _ p hp⟩
  ·refine⟨_,rfl,_,rfl,_,_,rfl,rfl,⟨by decide,by decide,by decide⟩,_,_,rfl,rfl,_,_,rfl,?_⟩
   exact⟨_,rfl,_,rfl,_,_,rfl,rfl,(by show (0:Int)<2147483629;decide),_,rfl,_,_,rfl,rfl,.inl ⟨by decide,by decide⟩,_,_,rfl,rfl,_,_,rfl,rfl,(by show 2<=sizeLine;decide),λp hp=>fin _ p hp⟩
end
end Pr
namespace Qf
def BoxIn (n:Nat) (b:Row):Prop:=∃r c h w,b=[r,c,h,w]/\1<=h/\1<=w/\r+h<=2^n/\c+w<=2^n
def Small (b:Row):Prop:=∃r c h w,b=[r,c,h,w]/\((h<=9/\w<=9)\/∃s i j,h=2^s/\w=2^s/\r=i*2^s/\c=j*2^s)
def Boxes (n:Nat) (bs:List Row):Prop:=(∀b∈bs,BoxIn n b)/\((n<4/\bs.length<=64)\/(bs.length<=5/\∀b∈bs,Small b))
theorem pow_int (k:Nat):(1:Int)*2^((k:Int)).toNat=((2^k:Nat):Int):=by
 rw[Int.toNat_natCast,Int.one_mul];push_cast;rfl
theorem pow_le12 {n:Nat}(h:n<=12):2^n<=4096/\0<2^n:=⟨by
 have:=Nat.pow_le_pow_right (n:=2) (by decide) h
 simpa using this,Nat.pow_pos (by decide)⟩
end Qf
namespace Pr
open PySem L2 Qf
section
variable {P:Program}{w:World}{K:PySem.W.Frag}{mg:Str->Option Value}{base:Heap}
theorem scBox:FnScope ["_law_pot_here", "_law_n", "_law_most", "_law_side", "_law_size", "_law_row", "_law_column", "_law_high", "_law_wide"] ["_law_pot_here", "_law_n", "_law_most"] (defScope lBox):=⟨rfl,rfl,rfl,by decide +kernel,rfl,by decide +kernel,by decide +kernel⟩
def spBox:Sp:=λvs H Q _=>∃(p:Addr) (n:Nat),vs=[.ref p,.int (n:Nat),.int 9]/\PurseAt H p/\n<=12 /\
 ∀(H':Hp) (t:Addr) (b:Row),But p H H'->PurseAt H' p->H' t=some (.tup (vN b))->BoxIn n b->Small b->Q (.ref t) H'
theorem ok_box {f fD:Addr}{fd fdD:FuncData}(F:Fun K "_law_box" "_law_box" lBox f fd) (B:Blt mg) (hD:mg "_law_digit" = some (.ref fD)) (FD:Fun K "_law_digit" "_law_digit" lDigit fD fdD) (bD:Binds K fdD ["_law_pot_here", "_law_many"] []) :
  FnOk P w K mg base CX0 2 f fd ["_law_pot_here", "_law_n", "_law_most"] spBox:=by
 have GD:FnOk P w K mg base CX0 1 fD fdD ["_law_pot_here", "_law_many"] spDigit:=ok_digit FD
 refine F.ok scBox (λvs H Q E h=>?_) (λcdv A outer s H vs Q E hr h=>?_)
 ·obtain⟨p,n,rfl,_⟩:=h
  rfl
 ·obtain⟨p,n,rfl,hp,hn,q⟩:=h
  refine seqE ⟨_,⟨ps_set (i:=3) scBox.nd rfl (Or.inl rfl) (pe_op op_shl pe_int (pv 1))⟩,?_⟩
  refine seqE ⟨_,⟨ps_if (pt_cmpR op_eq (pe_call GD hr (by rfl) hD FD.kp bD .nil pass0 (pa_cons (pv 0) (pa_cons pe_int pa_nil))) pe_int (nomark _))
   (StB.go (.cons ⟨ps_set (i:=4) scBox.nd rfl (Or.inl rfl) (pe_call GD hr (by rfl) hD FD.kp bD .nil pass0 (pa_cons (pv 0) (pa_cons (pe_op op_add (pv 1) pe_int) pa_nil)))⟩
    (.cons ⟨ps_set (i:=5) scBox.nd rfl (Or.inl rfl) (pe_op op_mul (pe_call GD hr (by rfl) hD FD.kp bD .nil pass0 (pa_cons (pv 0) (pa_cons (pe_op op_shl pe_int (pe_op op_sub (pv 1) (pv 4))) pa_nil))) (pe_op op_shl pe_int (pv 4)))⟩
    (.cons ⟨ps_set (i:=6) scBox.nd rfl (Or.inl rfl) (pe_op op_mul (pe_call GD hr (by rfl) hD FD.kp bD .nil pass0 (pa_cons (pv 0) (pa_cons (pe_op op_shl pe_int (pe_op op_sub (pv 1) (pv 4))) pa_nil))) (pe_op op_shl pe_int (pv 4)))⟩
    (.one ⟨ps_ret (pe_tup (Ars2.go (.cons ⟨pv 5⟩ (.cons ⟨pv 6⟩ (.cons ⟨pe_op op_shl pe_int (pv 4)⟩ (.cons ⟨pe_op op_shl pe_int (pv 4)⟩ .nil rfl) rfl) rfl) rfl)))⟩))))) pss_nil⟩,?_⟩
  refine seqE ⟨_,⟨ps_set (i:=5) scBox.nd rfl (Or.inl rfl) (pe_call GD hr (by rfl) hD FD.kp bD .nil pass0 (pa_cons (pv 0) (pa_cons (pv 3) pa_nil)))⟩,?_⟩
  refine seqE ⟨_,⟨ps_set (i:=6) scBox.nd rfl (Or.inl rfl) (pe_call GD hr (by rfl) hD FD.kp bD .nil pass0 (pa_cons (pv 0) (pa_cons (pv 3) pa_nil)))⟩,?_⟩
  refine seqE ⟨_,⟨ps_set (i:=7) scBox.nd rfl (Or.inl rfl) (pe_op op_add pe_int (pe_call GD hr (by rfl) hD FD.kp bD .nil pass0 (pa_cons (pv 0) (pa_cons (pe_callB (call_min2 rfl) (by rfl) B.min PyProof.Rows.boot_min (pa_cons (pv 2) (pa_cons (pe_op op_sub (pv 3) (pv 5)) pa_nil))) pa_nil))))⟩,?_⟩
  refine seqE ⟨_,⟨ps_set (i:=8) scBox.nd rfl (Or.inl rfl) (pe_op op_add pe_int (pe_call GD hr (by rfl) hD FD.kp bD .nil pass0 (pa_cons (pv 0) (pa_cons (pe_callB (call_min2 rfl) (by rfl) B.min PyProof.Rows.boot_min (pa_cons (pv 2) (pa_cons (pe_op op_sub (pv 3) (pv 6)) pa_nil))) pa_nil))))⟩,?_⟩
  refine lastE ⟨_,⟨ps_ret (pe_tup (Ars2.go (.cons ⟨pv 5⟩ (.cons ⟨pv 6⟩ (.cons ⟨pv 7⟩ (.cons ⟨pv 8⟩ .nil rfl) rfl) rfl) rfl)))⟩,?_⟩
  obtain⟨p1,p2⟩:=pow_le12 hn
  refine⟨_,rfl,_,_,rfl,rfl,⟨by lia,by lia,by decide⟩,?_⟩
  refine⟨_,rfl,p,2,rfl,hp,by decide,by decide,λd H1 hd b1 hp1=>⟨rfl,_,rfl,?_⟩⟩
  refine ite2 (λhc=>?_) (λhc=>?_)
  ·refine⟨_,rfl,_,rfl,_,_,rfl,rfl,p,n+1,rfl,hp1,by lia,by lia,λz H2 hz b2 hp2=>?_⟩
   have hzn:z<=n:=by lia
   obtain⟨s1,s2⟩:=pow_le12 (Nat.le_trans hzn hn)
   obtain⟨m1,m2⟩:=pow_le12 (Nat.le_trans (Nat.sub_le n z) hn)
   have em:(1:Int)*2^((n:Int)-(z:Int)).toNat=((2^(n-z):Nat):Int):=by
    rw[<- pow_int (n-z)]
    congr 3
    lia
   have ez:=pow_int z
   have hsplit:2^(n-z)*2^z=2^n:=by rw[<- Nat.pow_add];congr 1;lia
   refine⟨_,rfl,_,rfl,_,rfl,_,_,rfl,rfl,_,_,rfl,rfl,⟨by lia,by lia,by decide⟩,p,2^(n-z),congrArg (λx=>[V.ref p,V.int x]) em,hp2,m2,by lia,λi H3 hi b3 hp3=>?_⟩
   refine⟨_,rfl,_,_,rfl,rfl,⟨by lia,by lia,by decide⟩,_,_,rfl,rfl,.inl ⟨by lia,by lia⟩,?_⟩
   refine⟨_,rfl,_,rfl,_,rfl,_,_,rfl,rfl,_,_,rfl,rfl,⟨by lia,by lia,by decide⟩,p,2^(n-z),congrArg (λx=>[V.ref p,V.int x]) em,hp3,m2,by lia,λj H4 hj b4 hp4=>?_⟩
   refine⟨_,rfl,_,_,rfl,rfl,⟨by lia,by lia,by decide⟩,_,_,rfl,rfl,.inl ⟨by lia,by lia⟩,?_⟩
   refine⟨_,rfl,_,rfl,_,rfl,_,_,rfl,rfl,⟨by lia,by lia,by decide⟩,_,rfl,_,_,rfl,rfl,⟨by lia,by lia,by decide⟩,(by show 4<=sizeLine;decide),λt ht=>?_⟩
   have bnd:∀i,i<2^(n-z)->i*2^z+2^z<=2^n:=λi hi=>by
    rw[<- hsplit,<- Nat.succ_mul]
    exact Nat.mul_le_mul_right _ hi
   refine q _ t [i*2^z,j*2^z,2^z,2^z] ((((b1.trans b2).trans b3).trans b4).trans (But.of (sameU ht))) (hp4.same (sameU ht)) ?_ ⟨_,_,_,_,rfl,s2,s2,bnd i hi,bnd j hj⟩ ⟨_,_,_,_,rfl,.inr ⟨z,i,j,rfl,rfl,rfl,rfl⟩⟩
   rw[upd_same]
   show some (HO.tup [V.int ((i:Int)*(1*2^((z:Int)).toNat)),V.int ((j:Int)*(1*2^((z:Int)).toNat)),V.int (1*2^((z:Int)).toNat),V.int (1*2^((z:Int)).toNat)])=some (HO.tup [V.int ((i*2^z:Nat):Int),V.int ((j*2^z:Nat):Int),V.int ((2^z:Nat):Int),V.int ((2^z:Nat):Int)])
   rw[ez]
   push_cast
   rfl
  ·have es:=pow_int n
   have hside:[V.ref p,V.int ((1:Int)*2^((n:Int)).toNat)]=[V.ref p,V.int ((2^n:Nat):Int)]:=by rw[es]
   refine⟨_,rfl,_,rfl,p,2^n,hside,hp1,p2,by lia,λr H2 hr2 b2 hp2=>?_⟩
   refine⟨_,rfl,_,rfl,p,2^n,hside,hp2,p2,by lia,λc H3 hc3 b3 hp3=>?_⟩
   have emin:∀r:Nat,r<2^n->[V.ref p,V.int (if (1:Int)*2^((n:Int)).toNat-(r:Int)<9 then (1:Int)*2^((n:Int)).toNat-(r:Int) else 9)]=[V.ref p,V.int ((min 9 (2^n-r):Nat):Int)]:=λr hr=>by
    rw[es]
    congr 3
    split<;>lia
   refine⟨_,rfl,_,rfl,_,rfl,_,rfl,_,_,rfl,rfl,_,_,rfl,p,min 9 (2^n-r),emin r hr2,hp3,by lia,by lia,λh H4 hh b4 hp4=>?_⟩
   refine⟨_,_,rfl,rfl,?_⟩
   refine⟨_,rfl,_,rfl,_,rfl,_,rfl,_,_,rfl,rfl,_,_,rfl,p,min 9 (2^n-c),emin c hc3,hp4,by lia,by lia,λw' H5 hw b5 hp5=>?_⟩
   refine⟨_,_,rfl,rfl,?_⟩
   refine⟨_,rfl,_,rfl,_,rfl,_,rfl,(by show 4<=sizeLine;decide),λt ht=>?_⟩
   refine q _ t [r,c,1+h,1+w'] (((((b1.trans b2).trans b3).trans b4).trans b5).trans (But.of (sameU ht))) (hp5.same (sameU ht)) ?_ ⟨_,_,_,_,rfl,by lia,by lia,by lia,by lia⟩ ⟨_,_,_,_,rfl,.inl ⟨by lia,by lia⟩⟩
   rw[upd_same]
   rfl
end
end Pr
namespace Pr
open PySem L2 Qf
structure Grow (p D:Addr) (H:Hp) (ok:Row->Prop) (i:Nat) (xs:List V) (H2:Hp):Prop where
 but:But p H H2
 pot:PurseAt H2 p
 at_:H2 D=some (.lst xs)
 len:xs.length<=i
 its:∃(cs:List Addr) (bs:List Row),xs=cs.map V.ref/\cs.length=bs.length/\(∀b∈bs,ok b)/\∀(j:Nat) c b,cs[j]?=some c->bs[j]?=some b->H2 c=some (.tup (vN b))
theorem Grow.start {p D:Addr}{H:Hp}{ok:Row->Prop}(hp:PurseAt H p) (hD:H D=none):Grow p D H ok 0 [] (upd H D (.lst [])):=
 ⟨But.of (sameU hD),hp.same (sameU hD),upd_same,Nat.le_refl _,[],[],rfl,rfl,λb hb=>(nomatch hb),λj c b e=>by simp at e⟩
theorem Grow.kept {p D:Addr}{H H2 H3:Hp}{ok:Row->Prop}{i:Nat}{xs:List V}(g:Grow p D H ok i xs H2) (npD:p≠D) (b:But p H2 H3) (hp:PurseAt H3 p):Grow p D H ok (i+1) xs H3:=by
 obtain⟨b2,p2,a2,l2,cs,bs,e,hl,hok,hr⟩:=g
 refine⟨b2.trans b,hp,b _ _ a2 (Ne.symm npD),by lia,cs,bs,e,hl,hok,λj c r e1 e2=>?_⟩
 have:=hr j c r e1 e2
 refine b _ _ this λz=>?_
 obtain⟨x,y,e3,_⟩:=p2
 rw[z,e3] at this
 cases this
theorem Grow.more {p D t:Addr}{H H2 H3:Hp}{ok:Row->Prop}{i:Nat}{xs:List V}{r:Row}(g:Grow p D H ok i xs H2) (hDn:H D=none) (npD:p≠D) (b:But p H2 H3) (hp:PurseAt H3 p) (ht:H3 t=some (.tup (vN r))) (hr:ok r) :
  H3 D=some (.lst xs)/\Grow p D H ok (i+1) (xs++[.ref t]) (upd H3 D (.lst (xs++[.ref t]))):=by
 have k:=g.kept npD b hp
 obtain⟨b2,p2,a2,l2,cs,bs,rfl,hl,hok,hrr⟩:=k
 have l1:=g.len
 refine⟨a2,λc o e n=>?_,?_,upd_same,by rw[List.length_append];show (cs.map V.ref).length+1<=_;lia,cs++[t],bs++[r],ref_snoc cs t,by rw[List.length_append,List.length_append,hl];rfl,?_,?_⟩
 ·rw[upd_ne (ne_of_none e hDn)]
  exact b2 c o e n
 ·obtain⟨x,y,e,rr⟩:=hp
  exact⟨x,y,by rw[upd_ne npD];exact e,rr⟩
 ·intro z hz
  rcases List.mem_append.mp hz with hz|hz
  ·exact hok z hz
  ·have:z=r:=by simpa using hz
   rw[this];exact hr
 ·intro j c q e1 e2
  have nD:∀{c:Addr}{u:List V},H3 c=some (.tup u)->c≠D:=λ{c u} e z=>by rw[z,a2] at e;cases e
  by_cases hj:j<cs.length
  ·rw[List.getElem?_append_left hj] at e1
   rw[List.getElem?_append_left (by lia)] at e2
   have:=hrr j c q e1 e2
   rw[upd_ne (nD this)];exact this
  ·rw[List.getElem?_append_right (by lia)] at e1
   rw[List.getElem?_append_right (by lia)] at e2
   have hj0:j-cs.length=0:=by
    have:=(List.getElem?_eq_some_iff.mp e1).1
    simp at this
    lia
   rw[hj0] at e1
   rw[<- hl,hj0] at e2
   have ec:c=t:=by simpa using e1.symm
   have eq:q=r:=by simpa using e2.symm
   rw[ec,eq,upd_ne (nD ht)];exact ht
theorem Grow.rows {p D:Addr}{H H2:Hp}{ok:Row->Prop}{i:Nat}{xs:List V}(g:Grow p D H ok i xs H2):∃bs:List Row,RowsL H2 D bs/\(∀b∈bs,ok b)/\bs.length<=i:=by
 obtain⟨_,_,a2,l2,cs,bs,rfl,hl,hok,hr⟩:=g
 exact⟨bs,⟨cs,a2,hl,hr⟩,hok,by rw[List.length_map] at l2;lia⟩
section
variable {P:Program}{w:World}{K:PySem.W.Frag}{mg:Str->Option Value}{base:Heap}
abbrev nCells:List Str:=["_law_pot_here", "_law_n", "_law_side"]
theorem scCells:FnScope nCells ["_law_pot_here", "_law_n"] (defScope lCells):=⟨rfl,rfl,rfl,by decide +kernel,rfl,by decide +kernel,by decide +kernel⟩
def spCells:Sp:=λvs H Q _=>∃(p:Addr) (n:Nat),vs=[.ref p,.int (n:Nat)]/\PurseAt H p/\n<4 /\
 ∀(H':Hp) (l:Addr) (bs:List Row),But p H H'->PurseAt H' p->H l=none->RowsL H' l bs->(∀b∈bs,BoxIn n b)->bs.length<=64->Q (.ref l) H'
theorem ok_cells {f fD:Addr}{fd fdD:FuncData}(F:Fun K "_law_cells" "_law_cells" lCells f fd) (B:Blt mg) (hD:mg "_law_digit" = some (.ref fD)) (FD:Fun K "_law_digit" "_law_digit" lDigit fD fdD) (bD:Binds K fdD ["_law_pot_here", "_law_many"] []) :
  FnOk P w K mg base CX0 2 f fd ["_law_pot_here", "_law_n"] spCells:=by
 have GD:FnOk P w K mg base CX0 1 fD fdD ["_law_pot_here", "_law_many"] spDigit:=ok_digit FD
 refine F.ok scCells (λvs H Q E h=>?_) (λcdv A outer s H vs Q E hr h=>?_)
 ·obtain⟨p,n,rfl,_⟩:=h
  rfl
 ·obtain⟨p,n,rfl,hp,hn,q⟩:=h
  refine seqE ⟨_,⟨ps_set (i:=2) scCells.nd rfl (by first|exact Or.inl rfl|exact Or.inr rfl) (pe_op op_shl pe_int (pv 1))⟩,?_⟩
  refine lastE ⟨_,⟨ps_ret (pe_compIf nCells (defScope lCells) rfl rfl rfl scCells.nd (pi_range1 (by rfl) B.range (pa_cons (pe_op op_mul (pv 2) (pv 2)) pa_nil))
   (λcl C fp s₀ H₀=>pt_cmpR op_eq (pe_call GD hr (by rfl) hD FD.kp bD .nil pass0 (pa_cons (pv 1) (pa_cons pe_int pa_nil))) pe_int (nomark _))
   (λcl C fp s₀ H₀=>PEb.go ⟨pe_tup (Ars2.go (.cons ⟨pe_op op_fdiv (pv 0) (pv 3)⟩ (.cons ⟨pe_op op_mod (pv 0) (pv 3)⟩ (.cons ⟨pe_int⟩ (.cons ⟨pe_int⟩ .nil rfl) rfl) rfl) rfl))⟩))⟩,?_⟩
  obtain⟨p1,p2⟩:=pow_le12 (show n<=12 by lia)
  have p8:2^n<=8:=by
   have:=Nat.pow_le_pow_right (n:=2) (by decide) (show n<=3 by lia)
   simpa using this
  have es:=pow_int n
  refine⟨_,rfl,_,_,rfl,rfl,⟨by lia,by lia,by decide⟩,?_⟩
  have hsz:(2^n*2^n:Nat)<=64:=by
   have:=Nat.mul_le_mul p8 p8
   lia
  have esq:((1:Int)*2^((n:Int)).toNat)*(1*2^((n:Int)).toNat)=((2^n*2^n:Nat):Int):=by rw[es];push_cast;rfl
  have etn:(((1:Int)*2^((n:Int)).toNat)*(1*2^((n:Int)).toNat)).toNat=2^n*2^n:=by rw[esq,Int.toNat_natCast]
  refine⟨_,rfl,_,rfl,_,_,rfl,rfl,.inl ⟨by lia,by lia⟩,_,rfl,by lia,by lia,λD hDn=>?_⟩
  have npD:p≠D:=by obtain⟨a,b,e,_⟩:=hp;exact ne_of_none e hDn
  refine compG_rng (Grow p D H (BoxIn n)) (by rw[etn];exact small1000 (by lia)) (Grow.start hp hDn) (λi xs H2 g=>⟨g.at_,g.len⟩) ?_ ?_
  ·intro i xs H2 hi g os ho Q1 Q2 q1 q2
   rw[etn] at hi
   match os,ho with
   |[o1],_=>
    refine⟨_,rfl,p,2,rfl,g.pot,by decide,by decide,λd H3 hd b3 hp3=>⟨rfl,_,rfl,?_⟩⟩
    refine ite2 (λ_=>?_) (λ_=>q1 H3 (g.kept npD b3 hp3))
    refine⟨_,rfl,_,rfl,_,_,rfl,rfl,⟨by lia,by lia⟩,_,rfl,_,rfl,_,_,rfl,rfl,(by show (0:Int)<1*2^((n:Int)).toNat;lia),(by show 4<=sizeLine;decide),λt ht=>?_⟩
    have hbx:BoxIn n [i/2^n,i%2^n,1,1]:=by
     refine⟨_,_,_,_,rfl,Nat.le_refl _,Nat.le_refl _,?_,?_⟩
     ·exact (Nat.div_lt_iff_lt_mul p2).mpr hi
     ·exact Nat.mod_lt _ p2
    have e4:HO.tup [V.int ((0+(i:Int))/(1*2^((n:Int)).toNat)),V.int ((0+(i:Int))%(1*2^((n:Int)).toNat)),V.int 1,V.int 1]=HO.tup (vN [i/2^n,i%2^n,1,1]):=by
     rw[es,Int.zero_add]
     show HO.tup [V.int ((i:Int)/((2^n:Nat):Int)),V.int ((i:Int)%((2^n:Nat):Int)),V.int 1,V.int 1]=HO.tup [V.int ((i/2^n:Nat):Int),V.int ((i%2^n:Nat):Int),V.int 1,V.int 1]
     rw[Int.natCast_ediv,Int.natCast_emod]
    show Q2 (.ref t) (upd H3 t (HO.tup [V.int ((0+(i:Int))/(1*2^((n:Int)).toNat)),V.int ((0+(i:Int))%(1*2^((n:Int)).toNat)),V.int 1,V.int 1]))
    rw[e4]
    have m:=g.more (t:=t) (r:=[i/2^n,i%2^n,1,1]) hDn npD (b3.trans (But.of (sameU ht))) (hp3.same (sameU ht)) upd_same hbx
    exact q2 _ _ m.1 m.2
  ·intro xs H2 g
   obtain⟨bs,h1,h2,h3⟩:=g.rows
   exact q H2 D bs g.but g.pot hDn h1 h2 (by rw[etn] at h3;lia)
abbrev nBoxes:List Str:=["_law_pot_here", "_law_n"]
theorem scBoxes:FnScope nBoxes ["_law_pot_here", "_law_n"] (defScope lBoxes):=⟨rfl,rfl,rfl,by decide +kernel,rfl,by decide +kernel,by decide +kernel⟩
def spBoxes:Sp:=λvs H Q _=>∃(p:Addr) (n:Nat),vs=[.ref p,.int (n:Nat)]/\PurseAt H p/\n<=12 /\
 ∀(H':Hp) (l:Addr) (bs:List Row),But p H H'->PurseAt H' p->H l=none->RowsL H' l bs->Boxes n bs->Q (.ref l) H'
theorem ok_boxes {f fD fC fB:Addr}{fd fdD fdC fdB:FuncData}(F:Fun K "_law_boxes" "_law_boxes" lBoxes f fd) (B:Blt mg) (hD:mg "_law_digit" = some (.ref fD)) (FD:Fun K "_law_digit" "_law_digit" lDigit fD fdD) (bD:Binds K fdD ["_law_pot_here", "_law_many"] [])
  (hC:mg "_law_cells" = some (.ref fC)) (FC:Fun K "_law_cells" "_law_cells" lCells fC fdC) (bC:Binds K fdC ["_law_pot_here", "_law_n"] [])
  (hB:mg "_law_box" = some (.ref fB)) (FB:Fun K "_law_box" "_law_box" lBox fB fdB) (bB:Binds K fdB ["_law_pot_here", "_law_n", "_law_most"] []) :
  FnOk P w K mg base CX0 3 f fd ["_law_pot_here", "_law_n"] spBoxes:=by
 have GD:FnOk P w K mg base CX0 1 fD fdD ["_law_pot_here", "_law_many"] spDigit:=ok_digit FD
 have GC:FnOk P w K mg base CX0 2 fC fdC ["_law_pot_here", "_law_n"] spCells:=ok_cells FC B hD FD bD
 have GB:FnOk P w K mg base CX0 2 fB fdB ["_law_pot_here", "_law_n", "_law_most"] spBox:=ok_box FB B hD FD bD
 refine F.ok scBoxes (λvs H Q E h=>?_) (λcdv A outer s H vs Q E hr h=>?_)
 ·obtain⟨p,n,rfl,_⟩:=h
  rfl
 ·obtain⟨p,n,rfl,hp,hn,q⟩:=h
  have hr1:Room 1 _:=hr.mono (by decide)
  refine seqE ⟨_,⟨ps_if (PW.pt (pw_and (pt_cmpR op_lt (pv 1) pe_int (nomark _)) (pw_and1 (pt_cmpR op_eq (pe_call GD hr1 (by rfl) hD FD.kp bD .nil pass0 (pa_cons (pv 0) (pa_cons pe_int pa_nil))) pe_int (nomark _)))))
   (pss_one (ps_ret (pe_call GC hr (by rfl) hC FC.kp bC .nil pass0 (pa_cons (pv 0) (pa_cons (pv 1) pa_nil))))) pss_nil⟩,?_⟩
  refine lastE ⟨_,⟨ps_ret (pe_compB nBoxes (defScope lBoxes) rfl rfl rfl scBoxes.nd (pi_range1 (by rfl) B.range (pa_cons (pe_call GD hr1 (by rfl) hD FD.kp bD .nil pass0 (pa_cons (pv 0) (pa_cons pe_int pa_nil))) pa_nil))
   (λcl C fp s₀ H₀=>pe_call GB hr (by rfl) hB FB.kp bB .nil pass0 (pa_cons (pv 1) (pa_cons (pv 2) (pa_cons pe_int pa_nil)))))⟩,?_⟩
  have rest:∀H1,But p H H1->PurseAt H1 p->tComp (iRng1 (tCons (tCall spDigit [] E0 (tCons (tVar 0) (tCons (tC (.int 6)) tNil))) tNil)) (tCall spBox [] E0 (tCons (tVar 1) (tCons (tVar 2) (tCons (tC (.int 9)) tNil)))) [some (.ref p),some (.int (n:Nat))] H1 Q:=λH1 b1 hp1=>by
   refine⟨_,rfl,p,6,rfl,hp1,by decide,by decide,λd H2 hd b2 hp2=>⟨_,rfl,by lia,by lia,λD hDn=>?_⟩⟩
   have npD:p≠D:=by obtain⟨a,b,e,_⟩:=hp2;exact ne_of_none e hDn
   have hDH:H D=none:=by
    cases e:H D with
    |none=>rfl
    |some o=>rw[(b1.trans b2) _ _ e (Ne.symm npD)] at hDn;cases hDn
   refine comp_rng (Grow p D H2 (λb=>BoxIn n b/\Small b)) (by rw[Int.toNat_natCast];exact small1000 (by lia)) (Grow.start hp2 hDn) (λi xs H2 g=>⟨g.at_,g.len⟩) ?_ ?_
   ·intro i xs H3 hi g Q2 q2
    refine⟨_,rfl,_,rfl,p,n,rfl,g.pot,hn,λH4 t b b4 hp4 ht h1 h2=>?_⟩
    have m:=g.more (t:=t) (r:=b) hDn npD b4 hp4 ht ⟨h1,h2⟩
    exact q2 _ _ m.1 m.2
   ·intro xs H3 g
    obtain⟨bs,h1,h2,h3⟩:=g.rows
    rw[Int.toNat_natCast] at h3
    exact q H3 D bs ((b1.trans b2).trans g.but) g.pot hDH h1 ⟨λb hb=>(h2 b hb).1,.inr ⟨by lia,λb hb=>(h2 b hb).2⟩⟩
  refine⟨_,rfl,_,_,rfl,rfl,_,rfl,?_⟩
  refine ite2 (λhc=>?_) (λhc=>?_)
  ·have n4:n<4:=by have:=of_decide_eq_true hc;lia
   refine⟨_,rfl,p,2,rfl,hp,by decide,by decide,λd H1 hd b1 hp1=>⟨rfl,_,rfl,?_⟩⟩
   refine ite2 (λ_=>?_) (λ_=>rest H1 b1 hp1)
   refine⟨_,rfl,_,rfl,p,n,rfl,hp1,n4,λH2 l bs b2 hp2 hl hR hb hlen=>q H2 l bs (b1.trans b2) hp2 ?_ hR ⟨hb,.inl ⟨n4,hlen⟩⟩⟩
   cases e:H l with
   |none=>rfl
   |some o=>
    have nlp:l≠p:=by obtain⟨a,b,e2,_⟩:=hp1;exact (ne_of_none e2 hl).symm
    rw[b1 _ _ e nlp] at hl;cases hl
  ·exact iteF (rest H (But.refl p H) hp)
end
end Pr
namespace Qf
open Tr
def meetsB (r c s:Nat) (b:Row):Bool:=decide (b.getD 0 0<r+s/\r<b.getD 0 0+b.getD 2 0/\c<b.getD 1 0+b.getD 3 0/\b.getD 1 0<c+s)
def hasB (r c s:Nat) (b:Row):Bool:=decide (b.getD 0 0<=r/\r+s<=b.getD 0 0+b.getD 2 0/\b.getD 1 0<=c/\c+s<=b.getD 1 0+b.getD 3 0)
def mk (a b c d:Tr):Tr:=if a=z/\b=z/\c=z/\d=z then z else if a=o/\b=o/\c=o/\d=o then o else .nd a b c d
def met (boxes:List Row) (r c s:Nat):List Row:=boxes.filter (meetsB r c s)
def bt:Nat->List Row->Nat->Nat->Tr
 |0,boxes,r,c=>if met boxes r c 1=[] then z else if (met boxes r c 1).any (hasB r c 1) then o else z
 |k+1,boxes,r,c=>if met boxes r c (2^(k+1))=[] then z else if (met boxes r c (2^(k+1))).any (hasB r c (2^(k+1))) then o else
   mk (bt k (met boxes r c (2^(k+1))) r c) (bt k (met boxes r c (2^(k+1))) r (c+2^k)) (bt k (met boxes r c (2^(k+1))) (r+2^k) c) (bt k (met boxes r c (2^(k+1))) (r+2^k) (c+2^k))
theorem mk_red {a b c d:Tr}(ha:Red a) (hb:Red b) (hc:Red c) (hd:Red d):Red (mk a b c d):=by
 unfold mk
 split
 ·trivial
 ·split
  ·trivial
  ·exact⟨by assumption,by assumption,ha,hb,hc,hd⟩
theorem bt_red:∀(k:Nat) (boxes:List Row) (r c:Nat),Red (bt k boxes r c)
 |0,boxes,r,c=>by
  unfold bt
  split
  ·trivial
  ·split<;>trivial
 |k+1,boxes,r,c=>by
  unfold bt
  split
  ·trivial
  ·split
   ·trivial
   ·exact mk_red (bt_red k _ _ _) (bt_red k _ _ _) (bt_red k _ _ _) (bt_red k _ _ _)
theorem mk_dep {a b c d:Tr}{k:Nat}(ha:dep a<=k) (hb:dep b<=k) (hc:dep c<=k) (hd:dep d<=k):dep (mk a b c d)<=k+1:=by
 unfold mk
 split
 ·show 0<=_;lia
 ·split
  ·show 0<=_;lia
  ·show 1+mx [dep a,dep b,dep c,dep d]<=k+1
   have:=mx_le (l:=[dep a,dep b,dep c,dep d]) (b:=k) (by
    intro x hx
    have:x=dep a\/x=dep b\/x=dep c\/x=dep d:=by simpa using hx
    rcases this with rfl|rfl|rfl|rfl<;>assumption)
   lia
theorem bt_dep:∀(k:Nat) (boxes:List Row) (r c:Nat),dep (bt k boxes r c)<=k
 |0,boxes,r,c=>by
  unfold bt
  split
  ·exact Nat.le_refl 0
  ·split<;>exact Nat.le_refl 0
 |k+1,boxes,r,c=>by
  unfold bt
  split
  ·exact Nat.zero_le _
  ·split
   ·exact Nat.zero_le _
   ·exact mk_dep (bt_dep k _ _ _) (bt_dep k _ _ _) (bt_dep k _ _ _) (bt_dep k _ _ _)
def nds:Tr->Nat
 |.nd a b c d=>1+nds a+nds b+nds c+nds d
 |_=>0
theorem post_le:∀(t:Tr) (e:List Tr),(post t e).length<=e.length+nds t
 |.z,e=>Nat.le_refl _
 |.o,e=>Nat.le_refl _
 |.nd a b c d,e=>by
  unfold post
  split
  ·exact Nat.le_add_right _ _
  ·have h1:=post_le a e
   have h2:=post_le b (post a e)
   have h3:=post_le c (post b (post a e))
   have h4:=post_le d (post c (post b (post a e)))
   rw[List.length_append]
   show _+1<=e.length+(1+nds a+nds b+nds c+nds d)
   lia
theorem mk_nds (a b c d:Tr):nds (mk a b c d)<=1+nds a+nds b+nds c+nds d:=by
 unfold mk
 split
 ·exact Nat.zero_le _
 ·split
  ·exact Nat.zero_le _
  ·exact Nat.le_refl _
def cnt (b:Row):Nat->Nat->Nat->Nat
 |0,_,_=>0
 |k+1,r,c=>if meetsB r c (2^(k+1)) b=true/\hasB r c (2^(k+1)) b=false then 1+cnt b k r c+cnt b k r (c+2^k)+cnt b k (r+2^k) c+cnt b k (r+2^k) (c+2^k) else 0
def cnts (boxes:List Row) (k r c:Nat):Nat:=(boxes.map λb=>cnt b k r c).sum
theorem cnts_filter {p:Row->Bool}(boxes:List Row) (k r c:Nat):cnts (boxes.filter p) k r c<=cnts boxes k r c:=by
 induction boxes with
 |nil=>exact Nat.le_refl _
 |cons b bs ih=>
  unfold cnts at ih ⊢
  rw[List.filter_cons]
  split
  ·simp only[List.map_cons,List.sum_cons];lia
  ·simp only[List.map_cons,List.sum_cons];lia
theorem cnts_split {boxes:List Row}{k r c:Nat}(hm:∀b∈boxes,meetsB r c (2^(k+1)) b=true/\hasB r c (2^(k+1)) b=false) :
  cnts boxes (k+1) r c=boxes.length+cnts boxes k r c+cnts boxes k r (c+2^k)+cnts boxes k (r+2^k) c+cnts boxes k (r+2^k) (c+2^k):=by
 induction boxes with
 |nil=>rfl
 |cons b bs ih=>
  have h1:=ih λx hx=>hm x (List.mem_cons_of_mem _ hx)
  have e:cnt b (k+1) r c=1+cnt b k r c+cnt b k r (c+2^k)+cnt b k (r+2^k) c+cnt b k (r+2^k) (c+2^k):=by
   show (if _ then _ else _)=_
   rw[if_pos (hm b List.mem_cons_self)]
  unfold cnts at h1 ⊢
  simp only[List.map_cons,List.sum_cons,List.length_cons,e,h1]
  lia
theorem bt_nds:∀(k:Nat) (boxes:List Row) (r c:Nat),nds (bt k boxes r c)<=cnts boxes k r c
 |0,boxes,r,c=>by
  unfold bt
  split
  ·exact Nat.zero_le _
  ·split<;>exact Nat.zero_le _
 |k+1,boxes,r,c=>by
  unfold bt
  split
  ·exact Nat.zero_le _
  ·rename_i hne
   split
   ·exact Nat.zero_le _
   ·rename_i hany
    refine Nat.le_trans (mk_nds _ _ _ _) ?_
    have h1:=bt_nds k (met boxes r c (2^(k+1))) r c
    have h2:=bt_nds k (met boxes r c (2^(k+1))) r (c+2^k)
    have h3:=bt_nds k (met boxes r c (2^(k+1))) (r+2^k) c
    have h4:=bt_nds k (met boxes r c (2^(k+1))) (r+2^k) (c+2^k)
    have h5:cnts (met boxes r c (2^(k+1))) (k+1) r c<=cnts boxes (k+1) r c:=cnts_filter _ _ _ _
    have hm:∀b∈met boxes r c (2^(k+1)),meetsB r c (2^(k+1)) b=true/\hasB r c (2^(k+1)) b=false:=λb hb=>by
     refine⟨(List.mem_filter.mp hb).2,?_⟩
     cases hh:hasB r c (2^(k+1)) b with
     |false=>rfl
     |true=>exact absurd (List.any_eq_true.mpr ⟨b,hb,hh⟩) hany
    rw[cnts_split hm] at h5
    have hl:0<(met boxes r c (2^(k+1))).length:=List.length_pos_iff.mpr hne
    lia
def sz:Nat->Nat
 |0=>0
 |k+1=>4*sz k+1
theorem bt_sz:∀(k:Nat) (boxes:List Row) (r c:Nat),nds (bt k boxes r c)<=sz k
 |0,boxes,r,c=>by
  unfold bt
  split
  ·exact Nat.zero_le _
  ·split<;>exact Nat.zero_le _
 |k+1,boxes,r,c=>by
  unfold bt
  split
  ·exact Nat.zero_le _
  ·split
   ·exact Nat.zero_le _
   ·refine Nat.le_trans (mk_nds _ _ _ _) ?_
    have h1:=bt_sz k (met boxes r c (2^(k+1))) r c
    have h2:=bt_sz k (met boxes r c (2^(k+1))) r (c+2^k)
    have h3:=bt_sz k (met boxes r c (2^(k+1))) (r+2^k) c
    have h4:=bt_sz k (met boxes r c (2^(k+1))) (r+2^k) (c+2^k)
    show _<=4*sz k+1
    lia
def lin (a h j:Nat):Nat->Nat->Nat
 |0,x=>0
 |k+1,x=>if j=k+1 then (if a<x+2^(k+1)/\x<a+h then 1 else 0) else lin a h j k x+lin a h j k (x+2^k)
def squ (a h c w:Nat):Nat->Nat->Nat->Nat->Nat
 |0,_,_,_=>0
 |j+1,k,x,y=>squ a h c w j k x y+lin a h (j+1) k x*lin c w (j+1) k y
theorem squ_split (a h c w:Nat):∀(j k x y:Nat),j<=k->squ a h c w j (k+1) x y=squ a h c w j k x y+squ a h c w j k x (y+2^k)+squ a h c w j k (x+2^k) y+squ a h c w j k (x+2^k) (y+2^k)
 |0,k,x,y,_=>rfl
 |j+1,k,x,y,hj=>by
  have ih:=squ_split a h c w j k x y (by lia)
  have e1:∀a h x,lin a h (j+1) (k+1) x=lin a h (j+1) k x+lin a h (j+1) k (x+2^k):=λa h x=>by
   show (if j+1=k+1 then _ else _)=_
   rw[if_neg (by lia)]
  show squ a h c w j (k+1) x y+lin a h (j+1) (k+1) x*lin c w (j+1) (k+1) y=_
  rw[ih,e1,e1]
  show _=(squ a h c w j k x y+lin a h (j+1) k x*lin c w (j+1) k y)+(squ a h c w j k x (y+2^k)+lin a h (j+1) k x*lin c w (j+1) k (y+2^k))+(squ a h c w j k (x+2^k) y+lin a h (j+1) k (x+2^k)*lin c w (j+1) k y)+(squ a h c w j k (x+2^k) (y+2^k)+lin a h (j+1) k (x+2^k)*lin c w (j+1) k (y+2^k))
  generalize lin a h (j+1) k x=p,lin a h (j+1) k (x+2^k)=p',lin c w (j+1) k y=q,lin c w (j+1) k (y+2^k)=q'
  rw[Nat.add_mul,Nat.mul_add,Nat.mul_add]
  lia
theorem cnt_squ (a c h w:Nat):∀(k x y:Nat),cnt [a,c,h,w] k x y<=squ a h c w k k x y
 |0,x,y=>Nat.le_refl _
 |k+1,x,y=>by
  show (if meetsB x y (2^(k+1)) [a,c,h,w]=true/\_ then _ else _)<=squ a h c w k (k+1) x y+lin a h (k+1) (k+1) x*lin c w (k+1) (k+1) y
  split
  ·rename_i hm
   have m:a<x+2^(k+1)/\x<a+h/\y<c+w/\c<y+2^(k+1):=of_decide_eq_true hm.1
   have e1:lin a h (k+1) (k+1) x=1:=by
    show (if k+1=k+1 then (if _ then 1 else 0) else _)=1
    rw[if_pos rfl,if_pos ⟨m.1,m.2.1⟩]
   have e2:lin c w (k+1) (k+1) y=1:=by
    show (if k+1=k+1 then (if _ then 1 else 0) else _)=1
    rw[if_pos rfl,if_pos ⟨m.2.2.2,m.2.2.1⟩]
   rw[squ_split a h c w k k x y (Nat.le_refl _),e1,e2]
   have h1:=cnt_squ a c h w k x y
   have h2:=cnt_squ a c h w k x (y+2^k)
   have h3:=cnt_squ a c h w k (x+2^k) y
   have h4:=cnt_squ a c h w k (x+2^k) (y+2^k)
   lia
  ·exact Nat.zero_le _
theorem lin_card (a h j:Nat) (hh:1<=h):∀(i u:Nat),lin a h (j+1) (j+1+i) (u*2^(j+1))<=min (u+2^i) ((a+h-1)/2^(j+1)+1)-max u (a/2^(j+1))
 |0,u=>by
  have hp:0<2^(j+1):=Nat.pow_pos (by decide)
  show (if j+1=j+1 then (if _ then 1 else 0) else _)<=_
  rw[if_pos rfl]
  split
  ·rename_i m
   have h1:a/2^(j+1)<=u:=by
    have:a/2^(j+1)<u+1:=(Nat.div_lt_iff_lt_mul hp).mpr (by rw[Nat.succ_mul];exact m.1)
    lia
   have h2:u<=(a+h-1)/2^(j+1):=(Nat.le_div_iff_mul_le hp).mpr (by lia)
   rw[Nat.pow_zero]
   lia
  ·exact Nat.zero_le _
 |i+1,u=>by
  have e:lin a h (j+1) (j+1+(i+1)) (u*2^(j+1))=lin a h (j+1) (j+1+i) (u*2^(j+1))+lin a h (j+1) (j+1+i) (u*2^(j+1)+2^(j+1+i)):=by
   show (if j+1=j+1+i+1 then _ else _)=_
   rw[if_neg (by lia)]
   rfl
  have e2:u*2^(j+1)+2^(j+1+i)=(u+2^i)*2^(j+1):=by rw[Nat.add_mul,Nat.pow_add 2 (j+1) i,Nat.mul_comm (2^i)]
  have h1:=lin_card a h j hh i u
  have h2:=lin_card a h j hh i (u+2^i)
  have e3:2^(i+1)=2^i+2^i:=by rw[Nat.pow_succ];lia
  rw[e,e2,e3]
  lia
def lim:Nat->Nat
 |1=>6
 |2=>4
 |3=>3
 |_=>2
theorem lin_lim {a h k j:Nat}(hh:1<=h) (h9:h<=9) (hj:j+1<=k):lin a h (j+1) k 0<=lim (j+1):=by
 obtain⟨i,rfl⟩:∃i,k=j+1+i:=⟨k-(j+1),by lia⟩
 have h1:=lin_card a h j hh i 0
 rw[Nat.zero_mul] at h1
 have hp:0<2^(j+1):=Nat.pow_pos (by decide)
 have h2:(a+h-1)/2^(j+1)<=a/2^(j+1)+8/2^(j+1)+1:=by
  have:=Nat.add_div (a:=a) (b:=8) hp
  have h3:(a+h-1)/2^(j+1)<=(a+8)/2^(j+1):=Nat.div_le_div_right (by lia)
  split at this<;>lia
 have h4:8/2^(j+1)+2<=lim (j+1):=by
  match j with
  |0=>decide
  |1=>decide
  |2=>decide
  |j+3=>
   have:2^(j+3+1)>=16:=by
    have:=Nat.pow_le_pow_right (n:=2) (by decide) (show 4<=j+3+1 by lia)
    simpa using this
   rw[Nat.div_eq_of_lt (by lia)]
   exact Nat.le_refl 2
 lia
def lims:Nat->Nat
 |0=>0
 |j+1=>lims j+lim (j+1)*lim (j+1)
theorem squ_lims {a h c w k:Nat}(h1:1<=h) (h2:h<=9) (w1:1<=w) (w2:w<=9):∀j,j<=k->squ a h c w j k 0 0<=lims j
 |0,_=>Nat.le_refl _
 |j+1,hj=>Nat.add_le_add (squ_lims h1 h2 w1 w2 j (by lia)) (Nat.mul_le_mul (lin_lim h1 h2 hj) (lin_lim w1 w2 hj))
theorem lims_mono:∀{j k:Nat},j<=k->lims j<=lims k
 |j,0,h=>by rw[show j=0 by lia];exact Nat.le_refl _
 |j,k+1,h=>by
  by_cases e:j=k+1
  ·rw[e];exact Nat.le_refl _
  ·exact Nat.le_trans (lims_mono (show j<=k by lia)) (Nat.le_add_right _ _)
theorem cnt_square (s i j:Nat):∀(k u v:Nat),cnt [i*2^s,j*2^s,2^s,2^s] k (u*2^k) (v*2^k)<=k
 |0,u,v=>Nat.le_refl _
 |k+1,u,v=>by
  show (if meetsB (u*2^(k+1)) (v*2^(k+1)) (2^(k+1)) [i*2^s,j*2^s,2^s,2^s]=true/\hasB (u*2^(k+1)) (v*2^(k+1)) (2^(k+1)) [i*2^s,j*2^s,2^s,2^s]=false then _ else _)<=_
  split
  ·rename_i hm
   have m:i*2^s<u*2^(k+1)+2^(k+1)/\u*2^(k+1)<i*2^s+2^s/\v*2^(k+1)<j*2^s+2^s/\j*2^s<v*2^(k+1)+2^(k+1):=of_decide_eq_true hm.1
   have nh:¬(i*2^s<=u*2^(k+1)/\u*2^(k+1)+2^(k+1)<=i*2^s+2^s/\j*2^s<=v*2^(k+1)/\v*2^(k+1)+2^(k+1)<=j*2^s+2^s):=of_decide_eq_false hm.2
   have mul_up:∀{x y m:Nat},0<m->x*m<y*m+m->x*m<=y*m:=λ{x y m} hm h=>by
    have:x<y+1:=Nat.lt_of_mul_lt_mul_right (a:=m) (by rw[Nat.succ_mul];exact h)
    exact Nat.mul_le_mul_right _ (by lia)
   have hk:s<=k:=by
    by_cases z:s<=k
    ·exact z
    ·exfalso
     apply nh
     obtain⟨d,rfl⟩:∃d,s=k+1+d:=⟨s-(k+1),by lia⟩
     have hp:0<2^(k+1):=Nat.pow_pos (by decide)
     have ep:2^(k+1+d)=2^d*2^(k+1):=by rw[Nat.pow_add,Nat.mul_comm]
     have e:∀i,i*2^(k+1+d)=i*2^d*2^(k+1):=λi=>by rw[ep,Nat.mul_assoc]
     have e':∀i,i*2^(k+1+d)+2^(k+1+d)=(i*2^d+2^d)*2^(k+1):=λi=>by rw[Nat.add_mul,<- ep,<- e]
     have low:∀u i,i*2^(k+1+d)<u*2^(k+1)+2^(k+1)->i*2^(k+1+d)<=u*2^(k+1):=λu i h=>by
      rw[e] at h ⊢
      exact mul_up hp h
     have up:∀u i,u*2^(k+1)<i*2^(k+1+d)+2^(k+1+d)->u*2^(k+1)+2^(k+1)<=i*2^(k+1+d)+2^(k+1+d):=λu i h=>by
      rw[e'] at h ⊢
      rw[<- Nat.succ_mul]
      exact Nat.mul_le_mul_right _ (Nat.lt_of_mul_lt_mul_right h)
     exact⟨low u i m.1,up u i m.2.1,low v j m.2.2.2,up v j m.2.2.1⟩
   obtain⟨d,rfl⟩:∃d,k=s+d:=⟨k-s,by lia⟩
   have hp:0<2^s:=Nat.pow_pos (by decide)
   have es:2^(s+d)=2^d*2^s:=by rw[Nat.pow_add,Nat.mul_comm]
   have ek:∀u,u*2^(s+d+1)=(2*u)*2^(s+d):=λu=>by rw[Nat.pow_succ,Nat.mul_comm (2^(s+d)) 2,<- Nat.mul_assoc,Nat.mul_comm u 2]
   have ek2:∀u,u*2^(s+d+1)+2^(s+d)=(2*u+1)*2^(s+d):=λu=>by rw[ek];exact (Nat.succ_mul _ _).symm
   have half:∀u i,i*2^s+2^s<=(2*u+1)*2^(s+d)\/(2*u+1)*2^(s+d)<=i*2^s:=λu i=>by
    rw[es,<- Nat.mul_assoc,<- Nat.succ_mul]
    rcases Nat.lt_or_ge i ((2*u+1)*2^d) with z|z
    ·exact .inl (Nat.mul_le_mul_right _ z)
    ·exact .inr (Nat.mul_le_mul_right _ z)
   have q0:∀x y,¬(x<i*2^s+2^s)\/¬(i*2^s<x+2^(s+d))\/¬(y<j*2^s+2^s)\/¬(j*2^s<y+2^(s+d))->cnt [i*2^s,j*2^s,2^s,2^s] (s+d) x y=0:=λx y hn=>by
    cases hsd:s+d with
    |zero=>rfl
    |succ k'=>
     rw[hsd] at hn
     show (if meetsB x y (2^(k'+1)) [i*2^s,j*2^s,2^s,2^s]=true/\_ then _ else _)=0
     rw[if_neg]
     rintro⟨h1,_⟩
     have m:i*2^s<x+2^(k'+1)/\x<i*2^s+2^s/\y<j*2^s+2^s/\j*2^s<y+2^(k'+1):=of_decide_eq_true h1
     rcases hn with z|z|z|z
     ·exact z m.2.1
     ·exact z m.1
     ·exact z m.2.2.1
     ·exact z m.2.2.2
   have c1:=cnt_square s i j (s+d) (2*u) (2*v)
   have c2:=cnt_square s i j (s+d) (2*u) (2*v+1)
   have c3:=cnt_square s i j (s+d) (2*u+1) (2*v)
   have c4:=cnt_square s i j (s+d) (2*u+1) (2*v+1)
   rw[ek2,ek2,ek,ek]
   have st:∀u:Nat,(2*u)*2^(s+d)+2^(s+d)=(2*u+1)*2^(s+d):=λu=>(Nat.succ_mul _ _).symm
   rcases half u i with hu|hu
   ·have z3:=q0 ((2*u+1)*2^(s+d)) ((2*v)*2^(s+d)) (.inl (by lia))
    have z4:=q0 ((2*u+1)*2^(s+d)) ((2*v+1)*2^(s+d)) (.inl (by lia))
    rcases half v j with hv|hv
    ·have z2:=q0 ((2*u)*2^(s+d)) ((2*v+1)*2^(s+d)) (.inr (.inr (.inl (by lia))))
     lia
    ·have z1:=q0 ((2*u)*2^(s+d)) ((2*v)*2^(s+d)) (.inr (.inr (.inr (by rw[st];lia))))
     lia
   ·have z1:=q0 ((2*u)*2^(s+d)) ((2*v)*2^(s+d)) (.inr (.inl (by rw[st];lia)))
    have z2:=q0 ((2*u)*2^(s+d)) ((2*v+1)*2^(s+d)) (.inr (.inl (by rw[st];lia)))
    rcases half v j with hv|hv
    ·have z4:=q0 ((2*u+1)*2^(s+d)) ((2*v+1)*2^(s+d)) (.inr (.inr (.inl (by lia))))
     lia
    ·have z3:=q0 ((2*u+1)*2^(s+d)) ((2*v)*2^(s+d)) (.inr (.inr (.inr (by rw[st];lia))))
     lia
  ·exact Nat.zero_le _
theorem boxes_few {n:Nat}{bs:List Row}(hn:n<=12) (h:Boxes n bs):nds (bt n bs 0 0)<=485:=by
 rcases h.2 with ⟨h4,_⟩|⟨h5,hs⟩
 ·refine Nat.le_trans (bt_sz n bs 0 0) ?_
  match n,h4 with
  |0,_|1,_|2,_|3,_=>decide
 ·refine Nat.le_trans (bt_nds n bs 0 0) ?_
  have each:∀b∈bs,cnt b n 0 0<=97:=λb hb=>by
   obtain⟨r,c,hh,w,rfl,h1,w1,_⟩:=h.1 b hb
   obtain⟨r',c',hh',w',e,sm⟩:=hs _ hb
   simp only[List.cons.injEq,and_true] at e
   obtain⟨rfl,rfl,rfl,rfl⟩:=e
   rcases sm with ⟨h9,w9⟩|⟨s,i,j,rfl,rfl,rfl,rfl⟩
   ·refine Nat.le_trans (cnt_squ r c hh w n 0 0) (Nat.le_trans (squ_lims h1 h9 w1 w9 n (Nat.le_refl _)) (Nat.le_trans (lims_mono hn) (by decide)))
   ·have:=cnt_square s i j n 0 0
    rw[Nat.zero_mul] at this
    lia
  unfold cnts
  have gen:∀l:List Row,(∀b∈l,cnt b n 0 0<=97)->(l.map λb=>cnt b n 0 0).sum<=l.length*97:=λl hl=>by
   induction l with
   |nil=>exact Nat.zero_le _
   |cons b l ih=>
    have h1:=hl b List.mem_cons_self
    have h2:=ih λx hx=>hl x (List.mem_cons_of_mem _ hx)
    rw[List.map_cons,List.sum_cons,List.length_cons,Nat.succ_mul]
    lia
  have:=gen bs each
  lia
end Qf
namespace Qf
open Tr
theorem filt_fst {m:Row->Bool}:∀(bs:List Nat) (rs:List Row),bs.length=rs.length ->
  ((List.range bs.length).filter (λi=>m (rs.getD i []))).map (λi=>bs.getD i 0)=((bs.zip rs).filter (λq=>m q.2)).map Prod.fst
 |[],[],_=>rfl
 |b::bs,r::rs,h=>by
  have ih:=filt_fst (m:=m) bs rs (by simpa using h)
  rw[List.length_cons,List.range_succ_eq_map,List.filter_cons,List.zip_cons_cons,List.filter_cons,List.filter_map]
  have e1:((λi=>m ((r::rs).getD i []))∘Nat.succ)=λi=>m (rs.getD i []):=by funext i;rfl
  have e2:((λi=>(b::bs).getD i 0)∘Nat.succ)=λi=>bs.getD i 0:=by funext i;rfl
  rw[e1]
  show List.map _ (if m r=true then _ else _)=List.map _ (if m r=true then _ else _)
  split
  ·rw[List.map_cons,List.map_map,e2,ih,List.map_cons];rfl
  ·rw[List.map_map,e2,ih]
theorem filt_snd {m:Row->Bool}:∀(bs:List Nat) (rs:List Row),bs.length=rs.length->((bs.zip rs).filter (λq=>m q.2)).map Prod.snd=rs.filter m
 |[],[],_=>rfl
 |b::bs,r::rs,h=>by
  have ih:=filt_snd (m:=m) bs rs (by simpa using h)
  rw[List.zip_cons_cons,List.filter_cons,List.filter_cons]
  show List.map _ (if m r=true then _ else _)=_
  split
  ·rw[List.map_cons,ih]
  ·exact ih
end Qf
namespace Pr
open PySem L2 Qf
theorem RowsL.filter {H H':Hp}{p D:Addr}{rs:List Row}{bs:List Addr}(m:Row->Bool) (hl:bs.length=rs.length) (hr:∀(i:Nat) b r,bs[i]?=some b->rs[i]?=some r->H b=some (.tup (vN r))) (s:Same H H')
  (hD:H' D=some (.lst (((List.range bs.length).filter (λi=>m (rs.getD i []))).map (λi=>V.ref (bs.getD i 0))))):RowsL H' D (rs.filter m):=by
 have e:((List.range bs.length).filter (λi=>m (rs.getD i []))).map (λi=>V.ref (bs.getD i 0))=(((bs.zip rs).filter (λq=>m q.2)).map Prod.fst).map V.ref:=by
  rw[<- filt_fst bs rs hl,List.map_map];rfl
 rw[e] at hD
 refine⟨_,hD,by rw[<- filt_snd bs rs hl,List.length_map,List.length_map],λi b r e1 e2=>?_⟩
 rw[<- filt_snd bs rs hl] at e2
 rw[List.getElem?_map] at e1 e2
 obtain⟨q,hq,rfl⟩:=Option.map_eq_some_iff.mp e1
 rw[hq] at e2
 have e3:q.2=r:=by simpa using e2
 have hm:=(List.mem_filter.mp (List.mem_of_getElem? hq)).1
 obtain⟨j,hj,ej⟩:=List.mem_iff_getElem.mp hm
 rw[List.length_zip] at hj
 have ez:(bs.zip rs)[j]?=some q:=by rw[List.getElem?_eq_getElem (by rw[List.length_zip];exact hj),ej]
 rw[List.getElem?_zip_eq_some] at ez
 rw[<- e3]
 exact s _ _ (hr j q.1 q.2 ez.1 ez.2)
section
variable {P:Program}{w:World}{K:PySem.W.Frag}{mg:Str->Option Value}{base:Heap}
abbrev nBRCS:List Str:=["_law_box_here", "_law_row", "_law_column", "_law_side"]
theorem scMeets:FnScope nBRCS nBRCS (defScope lMeets):=⟨rfl,rfl,rfl,by decide +kernel,rfl,by decide +kernel,by decide +kernel⟩
theorem scHas:FnScope nBRCS nBRCS (defScope lHas):=⟨rfl,rfl,rfl,by decide +kernel,rfl,by decide +kernel,by decide +kernel⟩
def spMeets (m:Nat->Nat->Nat->Row->Bool):Sp:=λvs H Q _=>∃(b:Addr) (bx:Row) (r c s:Nat),vs=[.ref b,.int (r:Nat),.int (c:Nat),.int (s:Nat)]/\H b=some (.tup (vN bx))/\bx.length=4/\Q (.bl (m r c s bx)) H
theorem ok_meets {f:Addr}{fd:FuncData}(F:Fun K "_law_meets" "_law_meets" lMeets f fd):FnOk P w K mg base CX0 1 f fd nBRCS (spMeets meetsB):=by
 refine F.ok scMeets (λvs H Q E h=>?_) (λcdv A outer s H vs Q E hr h=>?_)
 ·obtain⟨b,bx,r,c,s,rfl,_⟩:=h
  rfl
 ·obtain⟨b,bx,r,c,s,rfl,hb,h4,q⟩:=h
  obtain⟨x,y,h',w',rfl⟩:=four_of h4
  refine seqE ⟨_,⟨ps_if (pw_or (pt_cmpR op_le (pe_op op_add (pv 1) (pv 3)) (pe_ix ix_tup (pv 0) pe_int (λ_ _=>rfl)) (nomark _))
   (pw_or1 (pt_cmpR op_le (pe_op op_add (pe_ix ix_tup (pv 0) pe_int (λ_ _=>rfl)) (pe_ix ix_tup (pv 0) pe_int (λ_ _=>rfl))) (pv 1) (nomark _)))).pt (pss_one (ps_ret pe_bl)) pss_nil⟩,?_⟩
  refine lastE ⟨_,⟨ps_ret (pe_and (pe_cmpR op_lt (pv 2) (pe_op op_add (pe_ix ix_tup (pv 0) pe_int (λ_ _=>rfl)) (pe_ix ix_tup (pv 0) pe_int (λ_ _=>rfl))) (nomark _)) (pe_one (pe_cmpR op_lt (pe_ix ix_tup (pv 0) pe_int (λ_ _=>rfl)) (pe_op op_add (pv 2) (pv 3)) (nomark _))))⟩,?_⟩
  have em:meetsB r c s [x,y,h',w']=decide (x<r+s/\r<x+h'/\c<y+w'/\y<c+s):=rfl
  rw[em] at q
  refine⟨_,rfl,_,rfl,_,_,rfl,rfl,_,rfl,b,_,0,.int (x:Nat),rfl,rfl,SqT.of hb,rfl,_,_,rfl,rfl,_,rfl,?_⟩
  refine ite2 (λhc=>?_) (λhc=>?_)
  ·have:=of_decide_eq_true hc
   rw[decide_eq_false (by lia)] at q
   exact iteT q
  ·have h1:=of_decide_eq_false (Bool.eq_false_iff.mpr hc)
   refine⟨_,rfl,b,_,0,.int (x:Nat),rfl,rfl,SqT.of hb,rfl,_,rfl,b,_,2,.int (h':Nat),rfl,rfl,SqT.of hb,rfl,_,_,rfl,rfl,_,rfl,_,_,rfl,rfl,_,rfl,?_⟩
   refine ite2 (λhc=>?_) (λhc=>?_)
   ·have:=of_decide_eq_true hc
    rw[decide_eq_false (by lia)] at q
    exact q
   ·have h2:=of_decide_eq_false (Bool.eq_false_iff.mpr hc)
    refine⟨_,rfl,_,rfl,b,_,1,.int (y:Nat),rfl,rfl,SqT.of hb,rfl,_,rfl,b,_,3,.int (w':Nat),rfl,rfl,SqT.of hb,rfl,_,_,rfl,rfl,_,_,rfl,rfl,_,rfl,?_⟩
    refine ite2 (λhc=>?_) (λhc=>?_)
    ·have h3:=of_decide_eq_true hc
     refine⟨_,rfl,b,_,1,.int (y:Nat),rfl,rfl,SqT.of hb,rfl,_,rfl,_,rfl,_,_,rfl,rfl,_,_,rfl,rfl,?_⟩
     have e:decide ((y:Int)<(c:Int)+(s:Int))=decide (x<r+s/\r<x+h'/\c<y+w'/\y<c+s):=by
      congr 1
      exact propext ⟨λz=>⟨by lia,by lia,by lia,by lia⟩,λz=>by lia⟩
     show Q (.bl (decide ((y:Int)<(c:Int)+(s:Int)))) H
     rw[e]
     exact q
    ·have h3:=of_decide_eq_false (Bool.eq_false_iff.mpr hc)
     rw[decide_eq_false (by lia)] at q
     exact q
theorem ok_has {f:Addr}{fd:FuncData}(F:Fun K "_law_has" "_law_has" lHas f fd):FnOk P w K mg base CX0 1 f fd nBRCS (spMeets hasB):=by
 refine F.ok scHas (λvs H Q E h=>?_) (λcdv A outer s H vs Q E hr h=>?_)
 ·obtain⟨b,bx,r,c,s,rfl,_⟩:=h
  rfl
 ·obtain⟨b,bx,r,c,s,rfl,hb,h4,q⟩:=h
  obtain⟨x,y,h',w',rfl⟩:=four_of h4
  refine seqE ⟨_,⟨ps_if (pw_or (pt_cmpR op_lt (pv 1) (pe_ix ix_tup (pv 0) pe_int (λ_ _=>rfl)) (nomark _))
   (pw_or1 (pt_cmpR op_lt (pe_op op_add (pe_ix ix_tup (pv 0) pe_int (λ_ _=>rfl)) (pe_ix ix_tup (pv 0) pe_int (λ_ _=>rfl))) (pe_op op_add (pv 1) (pv 3)) (nomark _)))).pt (pss_one (ps_ret pe_bl)) pss_nil⟩,?_⟩
  refine lastE ⟨_,⟨ps_ret (pe_and (pe_cmpR op_le (pe_ix ix_tup (pv 0) pe_int (λ_ _=>rfl)) (pv 2) (nomark _)) (pe_one (pe_cmpR op_le (pe_op op_add (pv 2) (pv 3)) (pe_op op_add (pe_ix ix_tup (pv 0) pe_int (λ_ _=>rfl)) (pe_ix ix_tup (pv 0) pe_int (λ_ _=>rfl))) (nomark _))))⟩,?_⟩
  have em:hasB r c s [x,y,h',w']=decide (x<=r/\r+s<=x+h'/\y<=c/\c+s<=y+w'):=rfl
  rw[em] at q
  refine⟨_,rfl,_,rfl,b,_,0,.int (x:Nat),rfl,rfl,SqT.of hb,rfl,_,_,rfl,rfl,_,rfl,?_⟩
  refine ite2 (λhc=>?_) (λhc=>?_)
  ·have:=of_decide_eq_true hc
   rw[decide_eq_false (by lia)] at q
   exact iteT q
  ·have h1:=of_decide_eq_false (Bool.eq_false_iff.mpr hc)
   refine⟨_,rfl,b,_,0,.int (x:Nat),rfl,rfl,SqT.of hb,rfl,_,rfl,b,_,2,.int (h':Nat),rfl,rfl,SqT.of hb,rfl,_,_,rfl,rfl,_,rfl,_,rfl,_,_,rfl,rfl,_,_,rfl,rfl,_,rfl,?_⟩
   refine ite2 (λhc=>?_) (λhc=>?_)
   ·have:=of_decide_eq_true hc
    rw[decide_eq_false (by lia)] at q
    exact q
   ·have h2:=of_decide_eq_false (Bool.eq_false_iff.mpr hc)
    refine⟨_,rfl,b,_,1,.int (y:Nat),rfl,rfl,SqT.of hb,rfl,_,rfl,_,_,rfl,rfl,_,rfl,?_⟩
    refine ite2 (λhc=>?_) (λhc=>?_)
    ·have h3:=of_decide_eq_true hc
     refine⟨_,rfl,_,rfl,_,_,rfl,rfl,_,rfl,b,_,1,.int (y:Nat),rfl,rfl,SqT.of hb,rfl,_,rfl,b,_,3,.int (w':Nat),rfl,rfl,SqT.of hb,rfl,_,_,rfl,rfl,_,_,rfl,rfl,?_⟩
     have e:decide ((c:Int)+(s:Int)<=(y:Int)+(w':Int))=decide (x<=r/\r+s<=x+h'/\y<=c/\c+s<=y+w'):=by
      congr 1
      exact propext ⟨λz=>⟨by lia,by lia,by lia,by lia⟩,λz=>by lia⟩
     show Q (.bl (decide ((c:Int)+(s:Int)<=(y:Int)+(w':Int)))) H
     rw[e]
     exact q
    ·have h3:=of_decide_eq_false (Bool.eq_false_iff.mpr hc)
     rw[decide_eq_false (by lia)] at q
     exact q
end
end Pr
namespace Qf
open Tr
theorem post_in {L:List Tr}{t:Tr}(h:In L t):post t L=L:=by
 cases t with
 |z=>rfl
 |o=>rfl
 |nd a b c d=>
  have hm:Tr.nd a b c d∈L:=by rcases h with h|h|h;cases h;cases h;exact h
  unfold post
  rw[if_pos hm]
theorem rowsOf_app {L:List Tr}(h:Ord L){t:Tr}(hk:∀s∈kids t,In L s):rowsOf (L++[t])=rowsOf L++[(kids t).map (name L)]:=by
 unfold rowsOf
 rw[List.map_append]
 congr 1
 ·refine List.map_congr_left λu hu=>?_
  obtain⟨i,hi,e⟩:=List.mem_iff_getElem.mp hu
  exact List.map_congr_left λs hs=>name_app (kid_in h (i:=i) (t:=u) (by rw[List.getElem?_eq_getElem hi,e]) hs).1 h
 ·show[(kids t).map (name (L++[t]))]=_
  congr 1
  exact List.map_congr_left λs hs=>name_app (hk s hs) h
theorem row_mem {L:List Tr}(h:Ord L){a b c d:Tr}(hk:∀s∈kids (.nd a b c d),In L s):(kids (.nd a b c d)).map (name L)∈rowsOf L<->Tr.nd a b c d∈L:=by
 constructor
 ·intro hm
  obtain⟨i,hi,e⟩:=List.mem_iff_getElem.mp hm
  obtain⟨t,ht,er⟩:=rowsOf_get (i:=i) (r:=(kids (.nd a b c d)).map (name L)) (by rw[List.getElem?_eq_getElem hi,e])
  have:=kids_inj ⟨a,b,c,d,rfl⟩ (h.ch i t ht).1 (map_name_inj h hk (λs hs=>(kid_in h ht hs).1) er)
  rw[this]
  exact List.mem_of_getElem? ht
 ·intro hm
  obtain⟨i,hi,e⟩:=List.mem_iff_getElem.mp hm
  exact List.mem_of_getElem? (rowsOf_at (i:=i) (t:=.nd a b c d) (by rw[List.getElem?_eq_getElem hi,e]))
theorem row_idx {L:List Tr}(h:Ord L){i:Nat}{t:Tr}(e:L[i]?=some t):(rowsOf L).idxOf ((kids t).map (name L))=i:=by
 have hl:=(List.getElem?_eq_some_iff.mp e).1
 have e2:=rowsOf_at e
 have hl2:i<(rowsOf L).length:=by rw[rowsOf_len];exact hl
 have e3:=(List.getElem?_eq_some_iff.mp e2).2
 rw[<- e3]
 exact (rowsOf_nodup h).idxOf_getElem i hl2
end Qf
namespace Pr
open PySem L2 Qf
theorem tK_get {H:Hp}{e u:Addr}{L:List Tr}(hO:Tr.Ord L){a b c d:Tr}(hm:Tr.nd a b c d∈L) (he:H e=some (.dT (tK (Tr.rowsOf L)))) (hu:H u=some (.tup (vN [Tr.name L a,Tr.name L b,Tr.name L c,Tr.name L d]))) :
  DGet H e (.ref u) (some (.int (Tr.name L (.nd a b c d):Nat))):=by
 obtain⟨i,hi,ei⟩:=List.mem_iff_getElem.mp hm
 have ei':L[i]?=some (.nd a b c d):=by rw[List.getElem?_eq_getElem hi,ei]
 have hix:=row_idx hO ei'
 have hmr:(Tr.kids (.nd a b c d)).map (Tr.name L)∈Tr.rowsOf L:=List.mem_of_getElem? (Tr.rowsOf_at ei')
 have:=DGet.t (k:=keyN ((Tr.kids (.nd a b c d)).map (Tr.name L))) he (by rw[keyN_V];exact hu)
 rw[tK_val,if_pos hmr,hix] at this
 rw[Tr.name_at hO ei']
 exact this
end Pr
namespace Qf
open Tr
def qt (k:Nat) (m:List Row) (r c i:Nat):Tr:=bt k m (r+2^k*(i/2)) (c+2^k*(i%2))
def qL (k:Nat) (m:List Row) (r c:Nat) (L:List Tr):Nat->List Tr
 |0=>L
 |i+1=>post (qt k m r c i) (qL k m r c L i)
theorem qL_ord {k:Nat}{m:List Row}{r c:Nat}{L:List Tr}(h:Ord L):∀i,Ord (qL k m r c L i)
 |0=>h
 |i+1=>(post_ord _ _ (qL_ord h i)).1
theorem qL_in {k:Nat}{m:List Row}{r c:Nat}{L:List Tr}(h:Ord L){j:Nat}:∀i,j<i->In (qL k m r c L i) (qt k m r c j)
 |i+1,hj=>by
  by_cases e:j=i
  ·rw[e];exact (post_ord _ _ (qL_ord h i)).2
  ·exact (qL_in h i (by lia)).post _
theorem qL_name {k:Nat}{m:List Row}{r c:Nat}{L:List Tr}(h:Ord L){i:Nat}{t:Tr}(ht:In (qL k m r c L i) t):name (qL k m r c L (i+1)) t=name (qL k m r c L i) t:=by
 obtain⟨s,e⟩:=post_ext (qt k m r c i) (qL k m r c L i)
 show name (post _ _) t=_
 rw[e]
 exact name_app ht (qL_ord h i)
theorem qL_len {k:Nat}{m:List Row}{r c:Nat}{L:List Tr}:∀i,(qL k m r c L i).length<=L.length+i*sz k
 |0=>by show L.length<=_;lia
 |i+1=>by
  have h1:=qL_len (k:=k) (m:=m) (r:=r) (c:=c) (L:=L) i
  have h2:=post_le (qt k m r c i) (qL k m r c L i)
  have h3:=bt_sz k m (r+2^k*(i/2)) (c+2^k*(i%2))
  show (post _ _).length<=_
  rw[Nat.succ_mul]
  unfold qt at h2
  unfold qt
  lia
def names (k:Nat) (m:List Row) (r c:Nat) (L:List Tr) (i:Nat):List Nat:=(List.range i).map λj=>name (qL k m r c L i) (qt k m r c j)
theorem names_succ {k:Nat}{m:List Row}{r c:Nat}{L:List Tr}(h:Ord L) (i:Nat):names k m r c L (i+1)=names k m r c L i++[name (post (qt k m r c i) (qL k m r c L i)) (qt k m r c i)]:=by
 unfold names
 rw[List.range_succ,List.map_append]
 congr 1
 exact List.map_congr_left λj hj=>qL_name h (qL_in h i (List.mem_range.mp hj))
theorem bt_qt (k:Nat) (boxes:List Row) (r c:Nat) (h1:met boxes r c (2^(k+1))≠[]) (h2:(met boxes r c (2^(k+1))).any (hasB r c (2^(k+1)))=false) :
  bt (k+1) boxes r c=mk (qt k (met boxes r c (2^(k+1))) r c 0) (qt k (met boxes r c (2^(k+1))) r c 1) (qt k (met boxes r c (2^(k+1))) r c 2) (qt k (met boxes r c (2^(k+1))) r c 3):=by
 unfold bt
 rw[if_neg h1,if_neg (by rw[h2];decide)]
 unfold qt
 simp
theorem met_len {boxes:List Row}{r c s:Nat}:(met boxes r c s).length<=boxes.length:=List.length_filter_le _ _
theorem met_has {boxes:List Row}{r c:Nat}(h:met boxes r c 1≠[]):(met boxes r c 1).any (hasB r c 1)=true:=by
 obtain⟨b,hb⟩:=List.exists_mem_of_ne_nil _ h
 refine List.any_eq_true.mpr ⟨b,hb,?_⟩
 have m:b.getD 0 0<r+1/\r<b.getD 0 0+b.getD 2 0/\c<b.getD 1 0+b.getD 3 0/\b.getD 1 0<c+1:=of_decide_eq_true (List.mem_filter.mp hb).2
 exact decide_eq_true ⟨by lia,by lia,by lia,by lia⟩
theorem sz_le:∀{k n:Nat},k<=n->sz k<=sz n
 |k,0,h=>by rw[show k=0 by lia];exact Nat.le_refl _
 |k,n+1,h=>by
  by_cases e:k=n+1
  ·rw[e];exact Nat.le_refl _
  ·have:=sz_le (show k<=n by lia)
   show _<=4*sz n+1
   lia
end Qf
namespace L2
open PySem
theorem compC_rng {H:Hp}{n:Nat}{te:TE}{σ:St}{Fin:Hp->Prop}{D:Addr}(Iv:Nat->List V->Hp->Prop) (hsz:n<sizeLine) (i0:Iv 0 [] (upd H D (.lst []))) (hD:∀i xs H2,Iv i xs H2->H2 D=some (.lst xs)/\xs.length<=i)
  (step:∀i xs H2,i<n->Iv i xs H2->∀Q2:VK,(∀v H3,H3 D=some (.lst xs)->Iv (i+1) (xs++[v]) (upd H3 D (.lst (xs++[v])))->Q2 v H3)->te (some (.int (0+(i:Int)))::σ) H2 Q2)
  (fin:∀xs H2,Iv n xs H2->Fin H2) :
  ∃W:Nat->Nat->List V->Hp->Prop,(∃m,W 0 m [] (upd H D (.lst []))) /\
   ∀i m xs H2,W i m xs H2->H2 D=some (.lst xs)/\xs.length<sizeLine/\(((Itr 0 n).stop i H2/\Fin H2)\/((Itr 0 n).go i H2/\∀y H3,(Itr 0 n).yld i H2 y H3->∀os:St,os.length=1 ->
    gName 0 y (os++σ) H3 λσ4 H4=>ttYes σ4 H4 λb H5=>if b=true then te σ4 H5 λv H6=>H6 D=some (.lst xs)/\∃m',m'<m/\W (i+1) m' (xs++[v]) (upd H6 D (.lst (xs++[v]))) else ∃m',m'<m/\W (i+1) m' xs H5)):=by
 obtain⟨W,w0,w⟩:=comp_rng (te:=te) (σ:=σ) Iv hsz i0 hD step fin
 refine⟨W,w0,λi m xs H2 h=>?_⟩
 obtain⟨h1,h2,h3⟩:=w i m xs H2 h
 refine⟨h1,h2,h3.imp id λ⟨g,y⟩=>⟨g,λx H3 hx os ho=>?_⟩⟩
 match os,ho with
 |[o],_=>
  show (if (true:Bool)=true then te (some x::σ) H3 (λv H6=>H6 D=some (.lst xs)/\∃m',m'<m/\W (i+1) m' (xs++[v]) (upd H6 D (.lst (xs++[v])))) else ∃m',m'<m/\W (i+1) m' xs H3)
  rw[if_pos rfl]
  exact y x H3 hx
end L2
namespace Pr
open PySem L2 Qf
section
variable {P:Program}{w:World}{K:PySem.W.Frag}{mg:Str->Option Value}{base:Heap}
abbrev nNum5:List Str:=["_law_rows", "_law_boxes_here", "_law_row", "_law_column", "_law_side"]
abbrev nNum:List Str:=["_law_rows", "_law_boxes_here", "_law_row", "_law_column", "_law_side", "_law_met", "_law_half", "_law_quarters"]
theorem scNum:FnScope nNum nNum5 (defScope lNumber):=⟨rfl,rfl,rfl,by decide +kernel,rfl,by decide +kernel,by decide +kernel⟩
def spNum (k:Nat):Sp:=λvs H Q _=>∃(e bp:Addr) (boxes:List Row) (r c:Nat) (L:List Tr),vs=[.ref e,.ref bp,.int (r:Nat),.int (c:Nat),.int ((2^k:Nat):Int)]/\RowsL H bp boxes/\(∀b∈boxes,b.length=4)/\boxes.length<=900/\bp≠e/\Tr.Ord L /\
 H e=some (.dT (tK (Tr.rowsOf L)))/\L.length+sz k<=6000000/\∀H',But e H H'->H' e=some (.dT (tK (Tr.rowsOf (Tr.post (bt k boxes r c) L))))->Q (.int (Tr.name (Tr.post (bt k boxes r c) L) (bt k boxes r c):Nat)) H'
theorem ok_num {f fM fH:Addr}{fd fdM fdH:FuncData}(F:Fun K "_law_number" "_law_number" lNumber f fd) (B:Blt mg) (hN:mg "_law_number" = some (.ref f)) (bN:Binds K fd nNum5 [])
  (hM:mg "_law_meets" = some (.ref fM)) (FM:Fun K "_law_meets" "_law_meets" lMeets fM fdM) (bM:Binds K fdM nBRCS [])
  (hH:mg "_law_has" = some (.ref fH)) (FH:Fun K "_law_has" "_law_has" lHas fH fdH) (bH:Binds K fdH nBRCS []):∀k,k<=12->FnOk P w K mg base CX0 (k+2) f fd nNum5 (spNum k):=by
 have GM:FnOk P w K mg base CX0 1 fM fdM nBRCS (spMeets meetsB):=ok_meets FM
 have GH:FnOk P w K mg base CX0 1 fH fdH nBRCS (spMeets hasB):=ok_has FH
 intro k
 induction k with
 |zero=>
  intro _
  refine F.ok scNum (λvs H Q E h=>?_) (λcdv A outer s H vs Q E hr h=>?_)
  ·obtain⟨e,bp,boxes,r,c,L,rfl,_⟩:=h
   rfl
  ·obtain⟨e,bp,boxes,r,c,L,rfl,hB,h4,hbl,hbe,hO,he,hLs,q⟩:=h
   have hr1:Room 1 _:=hr.mono (by decide)
   refine seqE ⟨_,⟨ps_set (i:=5) scNum.nd rfl (by first|exact Or.inl rfl|exact Or.inr rfl) (pe_compIf nNum (defScope lNumber) rfl rfl rfl scNum.nd (pi_list (pv 1))
    (λcl C fp s₀ H₀=>pt_val (pe_call GM hr1 (by rfl) hM FM.kp bM .nil pass0 (pa_cons (pv 0) (pa_cons (pv 3) (pa_cons (pv 4) (pa_cons (pv 5) pa_nil)))))) (λcl C fp s₀ H₀=>pv 0))⟩,?_⟩
   refine seqE ⟨_,⟨ps_if (PW.pt (pw_or (pt_cmpR (op_eqD hr) (pv 5) (pe_lst pa_nil) (nomark _)) (pw_or1 (pt_val (pe_callB (call_anyL rfl) (by rfl) B.any PyProof.Rows.boot_any (pa_cons (pe_compB nNum (defScope lNumber) rfl rfl rfl scNum.nd (pi_list (pv 5))
    (λcl C fp s₀ H₀=>pe_call GH hr1 (by rfl) hH FH.kp bH .nil pass0 (pa_cons (pv 0) (pa_cons (pv 3) (pa_cons (pv 4) (pa_cons (pv 5) pa_nil)))))) pa_nil))))))
    (pss_one (ps_ret (pe_callTy call_int1 (by rfl) B.int PyProof.Rows.boot_int (pa_cons (pe_cmpR (op_neD hr) (pv 5) (pe_lst pa_nil) (nomark _)) pa_nil)))) pss_nil⟩,?_⟩
   refine⟨_,pss_never,?_⟩
   obtain⟨bs,hb,hlen,hrow⟩:=id hB
   have hlb:(bs.map V.ref).length=bs.length:=List.length_map ..
   refine⟨_,rfl,bp,rfl,⟨_,SqL.of hb⟩,λD hD=>compG_walk hD (λi=>meetsB r c (2^0) (boxes.getD i [])) (λi=>.ref (bs.getD i 0)) (goes_lst (K:=K) hb) (by rw[hlb];exact small1000 (by lia)) ?_ ?_⟩
   ·intro j x H2 hj hx s2 os ho Q1 Q2 q1 q2
    rw[List.getElem?_map] at hx
    obtain⟨b,hbj,rfl⟩:=Option.map_eq_some_iff.mp hx
    have hj2:j<boxes.length:=by rw[hlb] at hj;lia
    have hg:boxes[j]?=some (boxes.getD j []):=by rw[List.getD_eq_getElem?_getD,List.getElem?_eq_getElem hj2];rfl
    have eb:bs.getD j 0=b:=by rw[List.getD_eq_getElem?_getD,hbj];rfl
    rw[eb] at q2
    match os,ho with
    |[o1],_=>
     refine⟨_,rfl,_,rfl,_,rfl,_,rfl,b,boxes.getD j [],r,c,2^0,rfl,s2 _ _ (hrow j b _ hbj hg),h4 _ (List.mem_of_getElem? hg),_,rfl,?_⟩
     refine ite2 (λhc=>⟨_,rfl,q2 hc H2 (Same.refl _)⟩) (λhc=>q1 (Bool.eq_false_iff.mpr hc) H2 (Same.refl _))
   ·intro H2 s2 hD2
    rw[hlb] at hD2
    have hRm:RowsL H2 D (met boxes r c (2^0)):=RowsL.filter (p:=bp) (meetsB r c (2^0)) hlen hrow s2 hD2
    have hml:(met boxes r c (2^0)).length<=900:=Nat.le_trans met_len hbl
    have hm4:∀b∈met boxes r c (2^0),b.length=4:=λb hb=>h4 b (List.mem_filter.mp hb).1
    have he2:=s2 _ _ he
    have nDe:D≠e:=(ne_of_none he hD).symm
    have etree:bt 0 boxes r c=bt 0 boxes r c:=rfl
    refine⟨_,rfl,(by show 0<=sizeLine;decide),λl hl=>?_⟩
    refine⟨_,_,rowsL_data (hRm.same (sameU hl)),.lst upd_same .nil,rows_lay _,rfl,rowsL_depth _,_,rfl,?_⟩
    rw[eqv_nil]
    have S3:Same H (upd H2 l (.lst [])):=s2.trans (sameU hl)
    have hR3:=hRm.same (sameU (o:=.lst []) hl)
    have he3:=keepU (u:=.lst []) he2 hl
    generalize upd H2 l (.lst [])=H3 at S3 hR3 he3
    cases hmt:met boxes r c (2^0) with
    |nil=>
     have hT:bt 0 boxes r c=.z:=by
      unfold bt
      simp only[Nat.pow_zero] at hmt
      rw[if_pos hmt]
     rw[hT] at q
     rw[hmt] at hR3
     refine iteT (iteT ?_)
     refine⟨_,rfl,(by show 0<=sizeLine;decide),λl2 hl2=>?_⟩
     refine⟨_,_,rowsL_data (hR3.same (sameU hl2)),.lst upd_same .nil,rows_lay _,rfl,rowsL_depth _,.inr ⟨_,rfl,?_⟩⟩
     exact q _ (But.of (S3.trans (sameU hl2))) (keepU he3 hl2)
    |cons b0 ml=>
     have hne:met boxes r c (2^0)≠[]:=by rw[hmt];exact λz=>nomatch z
     rw[<- hmt]
     clear hmt
     have hie:(met boxes r c (2^0)).isEmpty=false:=by
      cases hq:met boxes r c (2^0) with
      |nil=>exact absurd hq hne
      |cons _ _=>rfl
     rw[hie]
     refine iteF ?_
     obtain⟨ms,hms,hmsl,hmrow⟩:=id hR3
     have hml2:(ms.map V.ref).length=(met boxes r c (2^0)).length:=by rw[List.length_map,hmsl]
     refine⟨_,rfl,D,rfl,⟨_,SqL.of hms⟩,λD2 hDD=>comp_walk hDD (λi y _=>y=.bl (hasB r c (2^0) ((met boxes r c (2^0)).getD i []))) (goes_lst (K:=K) hms) (by rw[hml2];exact small1000 (by lia)) (λ_ _ _ _ _ _ h=>h) ?_ ?_⟩
     ·intro j x H4 hj hx s4 Q' hq
      rw[List.getElem?_map] at hx
      obtain⟨b,hbj,rfl⟩:=Option.map_eq_some_iff.mp hx
      have hj2:j<(met boxes r c (2^0)).length:=by rw[hml2] at hj;exact hj
      have hg:(met boxes r c (2^0))[j]?=some ((met boxes r c (2^0)).getD j []):=by rw[List.getD_eq_getElem?_getD,List.getElem?_eq_getElem hj2];rfl
      exact⟨_,rfl,_,rfl,_,rfl,_,rfl,b,_,r,c,2^0,rfl,s4 _ _ (hmrow j b _ hbj hg),hm4 _ (List.mem_of_getElem? hg),hq _ _ (Same.refl _) rfl⟩
     ·intro ys H4 s4 hd4 hly hys
      have ey:ys=((met boxes r c (2^0)).map (hasB r c (2^0))).map V.bl:=by
       refine list_ext (by rw[hly,hml2,List.length_map,List.length_map]) λj x hx=>?_
       have hj2:j<(met boxes r c (2^0)).length:=by
        have:=(List.getElem?_eq_some_iff.mp hx).1
        rw[hly,hml2] at this
        exact this
       rw[hys j x hx,List.getElem?_map,List.getElem?_map,List.getElem?_eq_getElem hj2,List.getD_eq_getElem?_getD,List.getElem?_eq_getElem hj2]
       rfl
      subst ey
      refine⟨D2,_,rfl,hd4,_,rfl,?_⟩
      have eany:((met boxes r c (2^0)).map (hasB r c (2^0))).any id=(met boxes r c (2^0)).any (hasB r c (2^0)):=by rw[List.any_map];rfl
      rw[eany]
      have S4:=S3.trans s4
      have hR4:=hR3.same s4
      have he4:=s4 _ _ he3
      cases hh:(met boxes r c (2^0)).any (hasB r c (2^0)) with
      |true=>
       have hT:bt 0 boxes r c=.o:=by
        unfold bt
        simp only[Nat.pow_zero] at hne hh
        rw[if_neg hne,if_pos hh]
       rw[hT] at q
       refine iteT ?_
       refine⟨_,rfl,(by show 0<=sizeLine;decide),λl2 hl2=>?_⟩
       refine⟨_,_,rowsL_data (hR4.same (sameU hl2)),.lst upd_same .nil,rows_lay _,rfl,rowsL_depth _,.inr ⟨_,rfl,?_⟩⟩
       rw[eqv_nil,hie]
       exact q _ (But.of (S4.trans (sameU hl2))) (keepU he4 hl2)
      |false=>
       exfalso
       simp only[Nat.pow_zero] at hne hh
       rw[met_has hne] at hh
       cases hh
 |succ k ih=>
  intro hk
  refine F.ok scNum (λvs H Q E h=>?_) (λcdv A outer s H vs Q E hr h=>?_)
  ·obtain⟨e,bp,boxes,r,c,L,rfl,_⟩:=h
   rfl
  ·obtain⟨e,bp,boxes,r,c,L,rfl,hB,h4,hbl,hbe,hO,he,hLs,q⟩:=h
   have hr1:Room 1 _:=hr.mono (by lia)
   have hu:A.units+3+1<cLine:=by
    have h2:A.units+3+16*(k+2)+200<cLine:=hr.un
    lia
   refine seqE ⟨_,⟨ps_set (i:=5) scNum.nd rfl (by first|exact Or.inl rfl|exact Or.inr rfl) (pe_compIf nNum (defScope lNumber) rfl rfl rfl scNum.nd (pi_list (pv 1))
    (λcl C fp s₀ H₀=>pt_val (pe_call GM hr1 (by rfl) hM FM.kp bM .nil pass0 (pa_cons (pv 0) (pa_cons (pv 3) (pa_cons (pv 4) (pa_cons (pv 5) pa_nil)))))) (λcl C fp s₀ H₀=>pv 0))⟩,?_⟩
   refine seqE ⟨_,⟨ps_if (PW.pt (pw_or (pt_cmpR (op_eqD hr) (pv 5) (pe_lst pa_nil) (nomark _)) (pw_or1 (pt_val (pe_callB (call_anyL rfl) (by rfl) B.any PyProof.Rows.boot_any (pa_cons (pe_compB nNum (defScope lNumber) rfl rfl rfl scNum.nd (pi_list (pv 5))
    (λcl C fp s₀ H₀=>pe_call GH hr1 (by rfl) hH FH.kp bH .nil pass0 (pa_cons (pv 0) (pa_cons (pv 3) (pa_cons (pv 4) (pa_cons (pv 5) pa_nil)))))) pa_nil))))))
    (pss_one (ps_ret (pe_callTy call_int1 (by rfl) B.int PyProof.Rows.boot_int (pa_cons (pe_cmpR (op_neD hr) (pv 5) (pe_lst pa_nil) (nomark _)) pa_nil)))) pss_nil⟩,?_⟩
   refine seqE ⟨_,⟨ps_set (i:=6) scNum.nd rfl (by first|exact Or.inl rfl|exact Or.inr rfl) (pe_op op_fdiv (pv 4) pe_int)⟩,?_⟩
   refine seqE ⟨_,⟨ps_setC (i0:=7) nNum (defScope lNumber) rfl rfl rfl scNum.nd rfl rfl (pi_range1 (by rfl) B.range (pa_cons pe_int pa_nil)) (λcl C fp s₀ H₀=>PEb.go ⟨pe_call (ih (by lia)) hr (by rfl) hN F.kp bN .nil pass0 (Ars2.go (.cons ⟨pv 1⟩ (.cons ⟨pv 6⟩
    (.cons ⟨pe_op op_add (pv 3) (pe_op op_mul (pv 7) (pe_op op_fdiv (pv 0) pe_int))⟩ (.cons ⟨pe_op op_add (pv 4) (pe_op op_mul (pv 7) (pe_op op_mod (pv 0) pe_int))⟩ (.cons ⟨pv 7⟩ .nil rfl) rfl) rfl) rfl) rfl))⟩)⟩,?_⟩
   refine seqE ⟨_,⟨ps_if (pt_cmpR (op_inD hr) (pv 7) (PEb.go ⟨pe_tup (Ars2.go (.cons ⟨pe_lst (Ars2.go (.cons pe_intb (.cons pe_intb (.cons pe_intb (.cons pe_intb .nil rfl) rfl) rfl) rfl))⟩ (.cons ⟨pe_lst (Ars2.go (.cons pe_intb (.cons pe_intb (.cons pe_intb (.cons pe_intb .nil rfl) rfl) rfl) rfl))⟩ .nil rfl) rfl))⟩) (by first|rfl|decide|with_unfolding_all rfl))
    (pss_one (ps_ret (pe_ix ix_list (pv 7) pe_int (λ_ _=>rfl)))) pss_nil⟩,?_⟩
   refine seqE ⟨_,⟨ps_if (pt_cmp (pc_dnotin hu (pe_callTy (tupO K rfl) (by rfl) B.tuple PyProof.Rows.boot_tuple (pa_cons (pv 7) pa_nil)) (pv 0)))
    (pss_one (ps_dput hu (pv 0) (pe_callTy (tupO K rfl) (by rfl) B.tuple PyProof.Rows.boot_tuple (pa_cons (pv 7) pa_nil)) (pe_op op_add (pe_callB call_lenT (by rfl) B.len PySem.boot_len (pa_cons (pv 0) pa_nil)) pe_int) (by rfl))) pss_nil⟩,?_⟩
   refine lastE ⟨_,⟨ps_ret (pe_dget hu (pv 0) (pe_callTy (tupO K rfl) (by rfl) B.tuple PyProof.Rows.boot_tuple (pa_cons (pv 7) pa_nil)) (λ_ _=>rfl))⟩,?_⟩
   obtain⟨bs,hb,hlen,hrow⟩:=id hB
   have hlb:(bs.map V.ref).length=bs.length:=List.length_map ..
   refine⟨_,rfl,bp,rfl,⟨_,SqL.of hb⟩,λD hD=>compG_walk hD (λi=>meetsB r c (2^(k+1)) (boxes.getD i [])) (λi=>.ref (bs.getD i 0)) (goes_lst (K:=K) hb) (by rw[hlb];exact small1000 (by lia)) ?_ ?_⟩
   ·intro j x H2 hj hx s2 os ho Q1 Q2 q1 q2
    rw[List.getElem?_map] at hx
    obtain⟨b,hbj,rfl⟩:=Option.map_eq_some_iff.mp hx
    have hj2:j<boxes.length:=by rw[hlb] at hj;lia
    have hg:boxes[j]?=some (boxes.getD j []):=by rw[List.getD_eq_getElem?_getD,List.getElem?_eq_getElem hj2];rfl
    have eb:bs.getD j 0=b:=by rw[List.getD_eq_getElem?_getD,hbj];rfl
    rw[eb] at q2
    match os,ho with
    |[o1],_=>
     refine⟨_,rfl,_,rfl,_,rfl,_,rfl,b,boxes.getD j [],r,c,2^(k+1),rfl,s2 _ _ (hrow j b _ hbj hg),h4 _ (List.mem_of_getElem? hg),_,rfl,?_⟩
     refine ite2 (λhc=>⟨_,rfl,q2 hc H2 (Same.refl _)⟩) (λhc=>q1 (Bool.eq_false_iff.mpr hc) H2 (Same.refl _))
   ·intro H2 s2 hD2
    rw[hlb] at hD2
    have hRm:RowsL H2 D (met boxes r c (2^(k+1))):=RowsL.filter (p:=bp) (meetsB r c (2^(k+1))) hlen hrow s2 hD2
    have hml:(met boxes r c (2^(k+1))).length<=900:=Nat.le_trans met_len hbl
    have hm4:∀b∈met boxes r c (2^(k+1)),b.length=4:=λb hb=>h4 b (List.mem_filter.mp hb).1
    have he2:=s2 _ _ he
    have nDe:D≠e:=(ne_of_none he hD).symm
    have etree:bt (k+1) boxes r c=bt (k+1) boxes r c:=rfl
    refine⟨_,rfl,(by show 0<=sizeLine;decide),λl hl=>?_⟩
    refine⟨_,_,rowsL_data (hRm.same (sameU hl)),.lst upd_same .nil,rows_lay _,rfl,rowsL_depth _,_,rfl,?_⟩
    rw[eqv_nil]
    have S3:Same H (upd H2 l (.lst [])):=s2.trans (sameU hl)
    have hR3:=hRm.same (sameU (o:=.lst []) hl)
    have he3:=keepU (u:=.lst []) he2 hl
    generalize upd H2 l (.lst [])=H3 at S3 hR3 he3
    cases hmt:met boxes r c (2^(k+1)) with
    |nil=>
     have hT:bt (k+1) boxes r c=.z:=by
      unfold bt
      skip
      rw[if_pos hmt]
     rw[hT] at q
     rw[hmt] at hR3
     refine iteT (iteT ?_)
     refine⟨_,rfl,(by show 0<=sizeLine;decide),λl2 hl2=>?_⟩
     refine⟨_,_,rowsL_data (hR3.same (sameU hl2)),.lst upd_same .nil,rows_lay _,rfl,rowsL_depth _,.inr ⟨_,rfl,?_⟩⟩
     exact q _ (But.of (S3.trans (sameU hl2))) (keepU he3 hl2)
    |cons b0 ml=>
     have hne:met boxes r c (2^(k+1))≠[]:=by rw[hmt];exact λz=>nomatch z
     rw[<- hmt]
     clear hmt
     have hie:(met boxes r c (2^(k+1))).isEmpty=false:=by
      cases hq:met boxes r c (2^(k+1)) with
      |nil=>exact absurd hq hne
      |cons _ _=>rfl
     rw[hie]
     refine iteF ?_
     obtain⟨ms,hms,hmsl,hmrow⟩:=id hR3
     have hml2:(ms.map V.ref).length=(met boxes r c (2^(k+1))).length:=by rw[List.length_map,hmsl]
     refine⟨_,rfl,D,rfl,⟨_,SqL.of hms⟩,λD2 hDD=>comp_walk hDD (λi y _=>y=.bl (hasB r c (2^(k+1)) ((met boxes r c (2^(k+1))).getD i []))) (goes_lst (K:=K) hms) (by rw[hml2];exact small1000 (by lia)) (λ_ _ _ _ _ _ h=>h) ?_ ?_⟩
     ·intro j x H4 hj hx s4 Q' hq
      rw[List.getElem?_map] at hx
      obtain⟨b,hbj,rfl⟩:=Option.map_eq_some_iff.mp hx
      have hj2:j<(met boxes r c (2^(k+1))).length:=by rw[hml2] at hj;exact hj
      have hg:(met boxes r c (2^(k+1)))[j]?=some ((met boxes r c (2^(k+1))).getD j []):=by rw[List.getD_eq_getElem?_getD,List.getElem?_eq_getElem hj2];rfl
      exact⟨_,rfl,_,rfl,_,rfl,_,rfl,b,_,r,c,2^(k+1),rfl,s4 _ _ (hmrow j b _ hbj hg),hm4 _ (List.mem_of_getElem? hg),hq _ _ (Same.refl _) rfl⟩
     ·intro ys H4 s4 hd4 hly hys
      have ey:ys=((met boxes r c (2^(k+1))).map (hasB r c (2^(k+1)))).map V.bl:=by
       refine list_ext (by rw[hly,hml2,List.length_map,List.length_map]) λj x hx=>?_
       have hj2:j<(met boxes r c (2^(k+1))).length:=by
        have:=(List.getElem?_eq_some_iff.mp hx).1
        rw[hly,hml2] at this
        exact this
       rw[hys j x hx,List.getElem?_map,List.getElem?_map,List.getElem?_eq_getElem hj2,List.getD_eq_getElem?_getD,List.getElem?_eq_getElem hj2]
       rfl
      subst ey
      refine⟨D2,_,rfl,hd4,_,rfl,?_⟩
      have eany:((met boxes r c (2^(k+1))).map (hasB r c (2^(k+1)))).any id=(met boxes r c (2^(k+1))).any (hasB r c (2^(k+1))):=by rw[List.any_map];rfl
      rw[eany]
      have S4:=S3.trans s4
      have hR4:=hR3.same s4
      have he4:=s4 _ _ he3
      cases hh:(met boxes r c (2^(k+1))).any (hasB r c (2^(k+1))) with
      |true=>
       have hT:bt (k+1) boxes r c=.o:=by
        unfold bt
        skip
        rw[if_neg hne,if_pos hh]
       rw[hT] at q
       refine iteT ?_
       refine⟨_,rfl,(by show 0<=sizeLine;decide),λl2 hl2=>?_⟩
       refine⟨_,_,rowsL_data (hR4.same (sameU hl2)),.lst upd_same .nil,rows_lay _,rfl,rowsL_depth _,.inr ⟨_,rfl,?_⟩⟩
       rw[eqv_nil,hie]
       exact q _ (But.of (S4.trans (sameU hl2))) (keepU he4 hl2)
      |false=>
       refine iteF ?_
       have hT:=bt_qt k boxes r c hne hh
       obtain⟨p1,p2⟩:=pow_le12 (show k<=12 by lia)
       obtain⟨p3,p4⟩:=pow_le12 hk
       have ehalf:(((2^(k+1):Nat):Int))/2=((2^k:Nat):Int):=by
        rw[Nat.pow_succ]
        lia
       clear hie hms hmsl hmrow hml2 hd4 hly hys eany hRm hR3 hD2 S3 s4 hlb
       generalize met boxes r c (2^(k+1))=m at hT hR4 hml hm4 hne hh
       refine⟨_,rfl,_,_,rfl,rfl,⟨by decide,by decide⟩,?_⟩
       refine⟨_,rfl,by decide,by decide,λD4 hD4=>?_⟩
       have nD4e:D4≠e:=(ne_of_none he4 hD4).symm
       refine compC_rng (λi xs H5=>But e H4 H5/\H5 D4=some (.lst xs)/\xs=vN (names k m r c L i)/\H5 e=some (.dT (tK (Tr.rowsOf (qL k m r c L i))))) (by decide) ⟨But.of (sameU hD4),upd_same,rfl,keepU he4 hD4⟩ (λi xs H5 h=>⟨h.2.1,by rw[h.2.2.1,vN_len];simp[names]⟩) ?_ ?_
       ·rintro i xs H5 hi ⟨b5,hd5,rfl,he5⟩ Q2 q2
        have hi4:i<4:=hi
        have veq:[V.ref e,V.ref D,V.int ((r:Int)+((2^(k+1):Nat):Int)/2*((0+(i:Int))/2)),V.int ((c:Int)+((2^(k+1):Nat):Int)/2*((0+(i:Int))%2)),V.int (((2^(k+1):Nat):Int)/2)]=[V.ref e,V.ref D,V.int ((r+2^k*(i/2):Nat):Int),V.int ((c+2^k*(i%2):Nat):Int),V.int ((2^k:Nat):Int)]:=by
         rw[ehalf,Int.zero_add,Int.natCast_add,Int.natCast_mul,Int.natCast_ediv,Int.natCast_add,Int.natCast_mul,Int.natCast_emod]
         rfl
        refine⟨_,rfl,_,rfl,_,rfl,_,rfl,_,rfl,_,_,rfl,rfl,⟨by decide,by decide⟩,_,_,rfl,rfl,.inl ⟨by lia,by lia⟩,_,_,rfl,rfl,_,rfl,_,rfl,_,rfl,_,_,rfl,rfl,(by show (0:Int)<2;decide),_,_,rfl,rfl,.inl ⟨by lia,by lia⟩,_,_,rfl,rfl,_,rfl,
         e,D,m,r+2^k*(i/2),c+2^k*(i%2),qL k m r c L i,veq,hR4.but b5 nDe he4 (λu z=>by cases z),hm4,hml,nDe,qL_ord hO i,he5,?_,λH6 b6 he6=>?_⟩
        ·have h1:=qL_len (k:=k) (m:=m) (r:=r) (c:=c) (L:=L) i
         have h2:sz (k+1)=4*sz k+1:=rfl
         have h3:i*sz k<=3*sz k:=Nat.mul_le_mul_right _ (by lia)
         lia
        ·refine q2 _ _ (b6 _ _ hd5 nD4e) ⟨?_,upd_same,?_,?_⟩
         ·intro b o z nb
          rw[upd_ne (ne_of_none z hD4)]
          exact b6 _ _ (b5 _ _ z nb) nb
         ·rw[names_succ hO]
          unfold vN
          rw[List.map_append]
          rfl
         ·rw[upd_ne (Ne.symm nD4e)]
          exact he6
       ·rintro xs H5 ⟨b5,hd5,rfl,he5⟩
        have hd5:H5 D4=some (.lst (vN (names k m r c L 4))):=hd5
        have he5:H5 e=some (.dT (tK (Tr.rowsOf (qL k m r c L 4)))):=he5
        have O4:=qL_ord (k:=k) (m:=m) (r:=r) (c:=c) hO 4
        have in0:=qL_in (k:=k) (m:=m) (r:=r) (c:=c) hO (j:=0) 4 (by decide)
        have in1:=qL_in (k:=k) (m:=m) (r:=r) (c:=c) hO (j:=1) 4 (by decide)
        have in2:=qL_in (k:=k) (m:=m) (r:=r) (c:=c) hO (j:=2) 4 (by decide)
        have in3:=qL_in (k:=k) (m:=m) (r:=r) (c:=c) hO (j:=3) 4 (by decide)
        have hl4:=qL_len (k:=k) (m:=m) (r:=r) (c:=c) (L:=L) 4
        have hs4:sz (k+1)=4*sz k+1:=rfl
        have e4:qL k m r c L 4=Tr.post (qt k m r c 3) (Tr.post (qt k m r c 2) (Tr.post (qt k m r c 1) (Tr.post (qt k m r c 0) L))):=rfl
        have en:names k m r c L 4=[Tr.name (qL k m r c L 4) (qt k m r c 0),Tr.name (qL k m r c L 4) (qt k m r c 1),Tr.name (qL k m r c L 4) (qt k m r c 2),Tr.name (qL k m r c L 4) (qt k m r c 3)]:=rfl
        rw[en] at hd5
        rw[hT] at q
        generalize qL k m r c L 4=L4 at he5 O4 in0 in1 in2 in3 hl4 e4 hd5
        generalize qt k m r c 0=t0,qt k m r c 1=t1,qt k m r c 2=t2,qt k m r c 3=t3 at in0 in1 in2 in3 e4 hd5 q
        have B5:But e H H5:=(But.of S4).trans b5
        refine⟨_,rfl,(by show 4<=sizeLine;decide),λa ha=>⟨(by show 4<=sizeLine;decide),λb hb'=>⟨(by show 2<=sizeLine;decide),λt ht=>?_⟩⟩⟩
        have S6:Same H5 (upd (upd (upd H5 a (.lst [.int 0,.int 0,.int 0,.int 0])) b (.lst [.int 1,.int 1,.int 1,.int 1])) t (.tup [.ref a,.ref b])):=((sameU ha).trans (sameU hb')).trans (sameU ht)
        have da:DataAt (upd (upd (upd H5 a (.lst [.int 0,.int 0,.int 0,.int 0])) b (.lst [.int 1,.int 1,.int 1,.int 1])) t (.tup [.ref a,.ref b])) (.ref a) (dL [0,0,0,0]):=.lst (keepU (keepU upd_same hb') ht) (DatasAt.ints [0,0,0,0])
        have db:DataAt (upd (upd (upd H5 a (.lst [.int 0,.int 0,.int 0,.int 0])) b (.lst [.int 1,.int 1,.int 1,.int 1])) t (.tup [.ref a,.ref b])) (.ref b) (dL [1,1,1,1]):=.lst (keepU upd_same ht) (DatasAt.ints [1,1,1,1])
        have hd6:=S6 _ _ hd5
        have he6:=S6 _ _ he5
        have ht6:upd (upd (upd H5 a (.lst [.int 0,.int 0,.int 0,.int 0])) b (.lst [.int 1,.int 1,.int 1,.int 1])) t (.tup [.ref a,.ref b]) t=some (.tup [.ref a,.ref b]):=upd_same
        generalize upd (upd (upd H5 a (.lst [.int 0,.int 0,.int 0,.int 0])) b (.lst [.int 1,.int 1,.int 1,.int 1])) t (.tup [.ref a,.ref b])=H6 at S6 da db hd6 he6 ht6 ⊢
        refine⟨t,[.ref a,.ref b],[dL [0,0,0,0],dL [1,1,1,1]],dL ([Tr.name L4 t0,Tr.name L4 t1,Tr.name L4 t2,Tr.name L4 t3].map λx:Nat=>(x:Int)),rfl,ht6,.cons da (.cons db .nil),.lst (hd6.trans (congrArg (λz=>some (HO.lst z)) (vN_int _))) (DatasAt.ints _),dL_lay _,(by simp[PyData.canLayAll0,dL_lay]),Nat.le_trans (dL_depth _) (by decide),?_⟩
        rw[List.any_cons,List.any_cons,List.any_nil,dL_eqv,dL_eqv,Bool.or_false]
        have B6:But e H H6:=B5.trans (But.of S6)
        refine⟨_,rfl,?_⟩
        have hk:∀s∈Tr.kids (.nd t0 t1 t2 t3),Tr.In L4 s:=λs hs=>by
         have:s=t0\/s=t1\/s=t2\/s=t3:=by simpa [Tr.kids] using hs
         rcases this with rfl|rfl|rfl|rfl<;>assumption
        refine ite2 (λhc=>?_) (λhc=>?_)
        ·rcases Bool.or_eq_true _ _▸hc with z|z
         ·have z':=of_decide_eq_true z
          simp only[List.map_cons,List.map_nil,List.cons.injEq,and_true] at z'
          have g0:=Qf.name_zero (L:=L4) (t:=t0) (by lia)
          have g1:=Qf.name_zero (L:=L4) (t:=t1) (by lia)
          have g2:=Qf.name_zero (L:=L4) (t:=t2) (by lia)
          have g3:=Qf.name_zero (L:=L4) (t:=t3) (by lia)
          subst g0 g1 g2 g3
          have eL:L4=L:=e4
          subst eL
          exact⟨_,rfl,D4,_,0,.int (0:Nat),rfl,rfl,SqL.of hd6,rfl,q H6 B6 he6⟩
         ·have z':=of_decide_eq_true z
          simp only[List.map_cons,List.map_nil,List.cons.injEq,and_true] at z'
          have g0:=Qf.name_one (L:=L4) (t:=t0) (by lia)
          have g1:=Qf.name_one (L:=L4) (t:=t1) (by lia)
          have g2:=Qf.name_one (L:=L4) (t:=t2) (by lia)
          have g3:=Qf.name_one (L:=L4) (t:=t3) (by lia)
          subst g0 g1 g2 g3
          have eL:L4=L:=e4
          subst eL
          exact⟨_,rfl,D4,_,0,.int (1:Nat),rfl,rfl,SqL.of hd6,rfl,q H6 B6 he6⟩
        ·have hmk:Qf.mk t0 t1 t2 t3=.nd t0 t1 t2 t3:=by
          unfold Qf.mk
          rw[if_neg,if_neg]
          ·rintro⟨rfl,rfl,rfl,rfl⟩
           exact hc (by rw[Bool.or_eq_true];exact .inr (decide_eq_true rfl))
          ·rintro⟨rfl,rfl,rfl,rfl⟩
           exact hc (by rw[Bool.or_eq_true];exact .inl (decide_eq_true rfl))
         rw[hmk] at q
         have hrow4:(Tr.kids (.nd t0 t1 t2 t3)).map (Tr.name L4)=[Tr.name L4 t0,Tr.name L4 t1,Tr.name L4 t2,Tr.name L4 t3]:=rfl
         have hmem:=row_mem O4 hk
         rw[hrow4] at hmem
         refine⟨_,rfl,D4,_,rfl,.inl ⟨SqL.of hd6,λu hu=>?_⟩⟩
         have S7:=sameU (o:=.tup (vN [Tr.name L4 t0,Tr.name L4 t1,Tr.name L4 t2,Tr.name L4 t3])) hu
         have he7:=S7 _ _ he6
         have hu7:upd H6 u (.tup (vN [Tr.name L4 t0,Tr.name L4 t1,Tr.name L4 t2,Tr.name L4 t3])) u=some (.tup ((keyN [Tr.name L4 t0,Tr.name L4 t1,Tr.name L4 t2,Tr.name L4 t3]).map kV)):=by rw[upd_same,keyN_V]
         have hd7:=S7 _ _ hd6
         have B7:=B6.trans (But.of (e:=e) S7)
         generalize upd H6 u (.tup (vN [Tr.name L4 t0,Tr.name L4 t1,Tr.name L4 t2,Tr.name L4 t3]))=H7 at S7 he7 hu7 hd7 B7 ⊢
         refine⟨_,rfl,e,_,rfl,DGet.t he7 hu7,_,rfl,?_⟩
         rw[tK_val]
         by_cases hm:[Tr.name L4 t0,Tr.name L4 t1,Tr.name L4 t2,Tr.name L4 t3]∈Tr.rowsOf L4
         ·rw[if_pos hm]
          refine iteF ?_
          have hT4:=hmem.mp hm
          have hTL:Tr.nd t0 t1 t2 t3∈L:=by
           by_cases zz:Tr.nd t0 t1 t2 t3∈L
           ·exact zz
           ·exact absurd (e4▸hT4) (Tr.not_below zz)
          obtain⟨i,hi,ei⟩:=List.mem_iff_getElem.mp hTL
          have kin:=λs hs=>(Tr.kid_in hO (i:=i) (t:=.nd t0 t1 t2 t3) (by rw[List.getElem?_eq_getElem hi,ei]) (s:=s) hs).1
          have eL:L4=L:=by
           rw[e4,post_in (kin t0 (by simp[Tr.kids])),post_in (kin t1 (by simp[Tr.kids])),post_in (kin t2 (by simp[Tr.kids])),post_in (kin t3 (by simp[Tr.kids]))]
          rw[post_in (.inr (.inr hTL))] at q
          subst eL
          refine⟨_,rfl,_,rfl,D4,_,rfl,.inl ⟨SqL.of hd7,λu2 hu2=>⟨e,_,rfl,tK_get O4 hTL (keepU he7 hu2) upd_same,?_⟩⟩⟩
          exact q _ (B7.trans (But.of (sameU hu2))) (keepU he7 hu2)
         ·rw[if_neg hm]
          refine iteT ?_
          have hT4:Tr.nd t0 t1 t2 t3∉L4:=λz=>hm (hmem.mpr z)
          have hTL:Tr.nd t0 t1 t2 t3∉L:=λz=>hT4 (by
           rw[e4]
           obtain⟨s1,h1⟩:=Tr.post_ext t0 L
           obtain⟨s2,h2⟩:=Tr.post_ext t1 (Tr.post t0 L)
           obtain⟨s3,h3⟩:=Tr.post_ext t2 (Tr.post t1 (Tr.post t0 L))
           obtain⟨s4,h4⟩:=Tr.post_ext t3 (Tr.post t2 (Tr.post t1 (Tr.post t0 L)))
           rw[h4,h3,h2,h1]
           simp[z])
          have ep:Tr.post (.nd t0 t1 t2 t3) L=L4++[.nd t0 t1 t2 t3]:=by
           rw[e4]
           show (if Tr.nd t0 t1 t2 t3∈L then L else _)=_
           rw[if_neg hTL]
          have O5:=(Tr.post_ord (.nd t0 t1 t2 t3) L hO).1
          rw[ep] at q O5
          have er:=rowsOf_app O4 hk
          rw[hrow4] at er
          have hlt:(tK (Tr.rowsOf L4)).length=L4.length:=by unfold tK;rw[tabl_len,Tr.rowsOf_len]
          have hli:L4.length+1<=6000000:=by lia
          refine⟨_,rfl,e,_,rfl,he7,_,_,rfl,rfl,_,rfl,_,rfl,D4,_,rfl,.inl ⟨SqL.of hd7,λu2 hu2=>?_⟩⟩
          have he8:=keepU (u:=.tup (vN [Tr.name L4 t0,Tr.name L4 t1,Tr.name L4 t2,Tr.name L4 t3])) he7 hu2
          refine⟨e,_,rfl,DPut.t he8 (by rw[upd_same,keyN_V]) (by rw[hlt];exact Nat.lt_of_le_of_lt (show L4.length<=6000000 by lia) (by decide)),?_⟩
          have eput:putK (tK (Tr.rowsOf L4)) (keyN [Tr.name L4 t0,Tr.name L4 t1,Tr.name L4 t2,Tr.name L4 t3]) (.int (((tK (Tr.rowsOf L4)).length:Int)+2))=tK (Tr.rowsOf (L4++[.nd t0 t1 t2 t3])):=by
           have h1:=tabl_put (key:=keyN) (k:=2) (λa b=>keyN_inj) hm
           rw[er,hlt]
           unfold tK
           rw[<- h1,Tr.rowsOf_len]
           congr 2
           lia
          rw[eput]
          have hd8:upd (upd H7 u2 (.tup (vN [Tr.name L4 t0,Tr.name L4 t1,Tr.name L4 t2,Tr.name L4 t3]))) e (.dT (tK (Tr.rowsOf (L4++[.nd t0 t1 t2 t3])))) D4=some (.lst (vN [Tr.name L4 t0,Tr.name L4 t1,Tr.name L4 t2,Tr.name L4 t3])):=by
           rw[upd_ne nD4e]
           exact keepU hd7 hu2
          have he9:upd (upd H7 u2 (.tup (vN [Tr.name L4 t0,Tr.name L4 t1,Tr.name L4 t2,Tr.name L4 t3]))) e (.dT (tK (Tr.rowsOf (L4++[.nd t0 t1 t2 t3])))) e=some (.dT (tK (Tr.rowsOf (L4++[.nd t0 t1 t2 t3])))):=upd_same
          have B8:But e H (upd (upd H7 u2 (.tup (vN [Tr.name L4 t0,Tr.name L4 t1,Tr.name L4 t2,Tr.name L4 t3]))) e (.dT (tK (Tr.rowsOf (L4++[.nd t0 t1 t2 t3]))))):=(B7.trans (But.of (sameU hu2))).trans But.upd
          generalize upd (upd H7 u2 (.tup (vN [Tr.name L4 t0,Tr.name L4 t1,Tr.name L4 t2,Tr.name L4 t3]))) e (.dT (tK (Tr.rowsOf (L4++[.nd t0 t1 t2 t3]))))=H8 at hd8 he9 B8 ⊢
          have enm:∀s,Tr.In L4 s->Tr.name (L4++[.nd t0 t1 t2 t3]) s=Tr.name L4 s:=λs hs=>Tr.name_app hs O4
          refine⟨_,rfl,_,rfl,D4,_,rfl,.inl ⟨SqL.of hd8,λu3 hu3=>⟨e,_,rfl,tK_get (a:=t0) (b:=t1) (c:=t2) (d:=t3) O5 (by simp) (keepU he9 hu3) (by rw[upd_same,enm t0 in0,enm t1 in1,enm t2 in2,enm t3 in3]),?_⟩⟩⟩
          exact q _ (B8.trans (But.of (sameU hu3))) (keepU he9 hu3)
end
end Pr
namespace Pr
open PySem L2 Qf
def bTop (n:Nat) (boxes:List Row):Nat:=Tr.name (Tr.post (bt n boxes 0 0) []) (bt n boxes 0 0)
def bRows (n:Nat) (boxes:List Row):List Row:=Tr.rowsOf (Tr.post (bt n boxes 0 0) [])
theorem b_canon {n:Nat}{boxes:List Row}(hn:n<=12):Canon n (bTop n boxes) (bRows n boxes):=canon_tree hn (bt_red n boxes 0 0) (bt_dep n boxes 0 0)
theorem b_len {n:Nat}{boxes:List Row}(hn:n<=12) (h:Boxes n boxes):(bRows n boxes).length<=485:=by
 unfold bRows
 rw[Tr.rowsOf_len]
 have h1:=post_le (bt n boxes 0 0) []
 have h2:=boxes_few hn h
 simp at h1
 lia
section
variable {P:Program}{w:World}{K:PySem.W.Frag}{mg:Str->Option Value}{base:Heap}
abbrev nBSh:List Str:=["_law_n", "_law_boxes_here", "_law_rows", "_law_top"]
theorem scBSh:FnScope nBSh ["_law_n", "_law_boxes_here"] (defScope lShape):=⟨rfl,rfl,rfl,by decide +kernel,rfl,by decide +kernel,by decide +kernel⟩
def spBSh:Sp:=λvs H Q _=>∃(bp:Addr) (n:Nat) (boxes:List Row),vs=[.int (n:Nat),.ref bp]/\RowsL H bp boxes/\Boxes n boxes/\n<=12/\∀(H':Hp) (t:Addr),Same H H'->ShapeAt H' t n (bTop n boxes) (bRows n boxes)->Q (.ref t) H'
theorem ok_bSh {f fN fM fH:Addr}{fd fdN fdM fdH:FuncData}(F:Fun K "_law_shape" "_law_shape" lShape f fd) (B:Blt mg) (hN:mg "_law_number" = some (.ref fN)) (FN:Fun K "_law_number" "_law_number" lNumber fN fdN) (bN:Binds K fdN nNum5 [])
  (hM:mg "_law_meets" = some (.ref fM)) (FM:Fun K "_law_meets" "_law_meets" lMeets fM fdM) (bM:Binds K fdM nBRCS [])
  (hH:mg "_law_has" = some (.ref fH)) (FH:Fun K "_law_has" "_law_has" lHas fH fdH) (bH:Binds K fdH nBRCS []):FnOk P w K mg base CX0 15 f fd ["_law_n", "_law_boxes_here"] spBSh:=by
 have GN:∀k,k<=12->FnOk P w K mg base CX0 (k+2) fN fdN nNum5 (spNum k):=ok_num FN B hN bN hM FM bM hH FH bH
 refine F.ok scBSh (λvs H Q E h=>?_) (λcdv A outer s H vs Q E hr h=>?_)
 ·obtain⟨bp,n,boxes,rfl,_⟩:=h
  rfl
 ·obtain⟨bp,n,boxes,rfl,hR,hBx,hn,q⟩:=h
  have hrN:Room (n+2) _:=hr.mono (by lia)
  refine seqE ⟨_,⟨ps_set (i:=2) scBSh.nd rfl (by first|exact Or.inl rfl|exact Or.inr rfl) pe_dnewT⟩,?_⟩
  refine seqE ⟨_,⟨ps_set (i:=3) scBSh.nd rfl (by first|exact Or.inl rfl|exact Or.inr rfl) (pe_call (GN n hn) hrN (by rfl) hN FN.kp bN .nil pass0 (Ars2.go (.cons ⟨pv 2⟩ (.cons ⟨pv 1⟩ (.cons pe_intb (.cons pe_intb (.cons ⟨pe_op op_shl pe_int (pv 0)⟩ .nil rfl) rfl) rfl) rfl) rfl)))⟩,?_⟩
  refine lastE ⟨_,⟨ps_ret (pe_tup (Ars2.go (.cons ⟨pv 0⟩ (.cons ⟨pv 3⟩ (.cons ⟨pe_callTy (call_tupleDT rfl) (by rfl) B.tuple PyProof.Rows.boot_tuple (pa_cons (pv 2) pa_nil)⟩ .nil rfl) rfl) rfl)))⟩,?_⟩
  intro e he
  have nbe:bp≠e:=by obtain⟨bs,hb,_⟩:=hR;exact ne_of_none hb he
  have h4:∀b∈boxes,b.length=4:=λb hb=>by
   obtain⟨r,c,h,w',rfl,_⟩:=hBx.1 b hb
   rfl
  have hbl:boxes.length<=900:=by
   rcases hBx.2 with ⟨_,h⟩|⟨h,_⟩<;>lia
  have hsz:sz n<=6000000:=Nat.le_trans (sz_le hn) (by decide)
  have veq:[V.ref e,V.ref bp,V.int 0,V.int 0,V.int (1*2^((n:Int)).toNat)]=[V.ref e,V.ref bp,V.int ((0:Nat):Int),V.int ((0:Nat):Int),V.int ((2^n:Nat):Int)]:=by rw[pow_int];rfl
  refine⟨_,rfl,_,rfl,_,rfl,_,_,rfl,rfl,⟨by lia,by lia,by decide⟩,e,bp,boxes,0,0,[],veq,hR.same (sameU he),h4,hbl,nbe,Tr.ord_nil,upd_same,by simpa using hsz,λH1 b1 he1=>?_⟩
  have S1:Same H H1:=λb o z=>b1 _ _ (keepU z he) (ne_of_none z he)
  refine⟨_,rfl,_,rfl,_,rfl,e,_,rfl,he1,λl bs hl hbl2 hbs=>⟨(by show 3<=sizeLine;decide),λt ht=>?_⟩⟩
  refine q _ t ((S1.trans (sameU hl)).trans (sameU ht)) ⟨⟨l,upd_same,bs,keepU upd_same ht,?_,?_⟩,b_canon hn,?_⟩
  ·rw[hbl2]
   unfold tK
   rw[tabl_len]
   rfl
  ·intro i b r e1 e2
   have hi:=(List.getElem?_eq_some_iff.mp e2).1
   have hlt:(tK (bRows n boxes)).length=(bRows n boxes).length:=by unfold tK;rw[tabl_len]
   have hkv:(tK (bRows n boxes))[i]?=some ((tK (bRows n boxes))[i]'(by lia)):=List.getElem?_eq_getElem (by lia)
   have hk1:((tK (bRows n boxes))[i]'(by lia)).1=keyN r:=by
    have h0:=hkv
    unfold tK tabl at h0
    rw[List.getElem?_map] at h0
    obtain⟨p,hp,ep⟩:=Option.map_eq_some_iff.mp h0
    rw[List.getElem?_zipIdx] at hp
    obtain⟨r',hr',rfl⟩:=Option.map_eq_some_iff.mp hp
    rw[e2] at hr'
    cases hr'
    exact (congrArg Prod.fst ep).symm
   have:=hbs i b _ e1 hkv
   rw[hk1,keyN_V] at this
   exact keepU (keepU this hl) ht
  ·exact Nat.le_trans (b_len hn hBx) (by decide)
end
end Pr
namespace L2
open PySem
section
variable {X:Cx}
variable {o e:Expr}{es:List Expr}{to:TE}{t:TA}{name:Str}{apos cpos:Pos}{id:String}{r:V->List V->Hp->VK->Prop}
end
end L2
namespace L2
open PySem PySem.Spec PyProof.Rows
structure TurnH (P:Program) (w:World) (K:PySem.W.Frag) (xe:Addr) (tg:Expr) (J:It) (fp:List Addr) (it:Addr) (tn:Nat->Heap->Prop):Prop where
 mem:it∈fp
 obj:∀i h,tn i h->∀b∈fp,∃o,h.get? b=some o/\∀v,o.data≠.cell v
 keep:∀i h h',tn i h->(∀b∈fp,∀o,h.get? b=some o->h'.get? b=some o)->tn i h'
 item:∀(X:Cx),X.prog=P->X.w=w->X.K=K->∀(i:Nat) (pins:List (Addr×Obj)) (s:Shared) (σ:St) (H:Hp) (E:Value->Shared->Prop),Inv X pins σ H s->(∀b∈fp,FpOk X pins H b)->tn i s.heap->J.go i H ->
  wpAny (model P w) X.A (pyNext (.ref it)) (λr s1=>∃u,r=some u /\
   wpAny (model P w) X.A (letOwnedTupleGo tg (.ref it) u) (λ_ s2=>∃x H',Inv X pins σ H' s2/\RelV x u/\J.yld i H x H'/\tn (i+1) s2.heap/\∀b∈fp,H' b=none) E s1) E s
 done:∀(X:Cx),X.prog=P->X.w=w->X.K=K->X.A.handled=some (.ref xe)->∀(i:Nat) (pins:List (Addr×Obj)) (s:Shared) (σ:St) (H:Hp) (E:Value->Shared->Prop) (C:Addr),Inv X pins σ H s->H xe=some (.ext (ExcAt xe C))->(∀b∈fp,FpOk X pins H b)->tn i s.heap->J.stop i H ->
  wpAny (model P w) X.A (pyNext (.ref it)) (λr s1=>r=none/\Inv X pins σ H s1) E s
 self:∀(A:Around) (i:Nat) (s:Shared) (Q:Value->Shared->Prop) (E:Value->Shared->Prop),tn i s.heap->Q (.ref it) s->wpAny (model P w) A (pyIter (.ref it)) Q E s
theorem turn_rangeH {P:Program}{w:World}{K:PySem.W.Frag}{xe:Addr}{tg:Expr}(it:Addr) (lo:Int) (n:Nat):TurnH P w K xe tg (Itr lo n) [it] it (λi h=>IsRangeIter h it (lo+(i:Nat)*1) ((n:Int)-(i:Nat)) 1) where
 mem:=by simp
 obj:=(turn_range (P:=P) (w:=w) (K:=K) (tg:=tg) it lo n).obj
 keep:=(turn_range (P:=P) (w:=w) (K:=K) (tg:=tg) it lo n).keep
 item:=by
  intro X hP hw hK i pins s σ H E I hf st hg
  subst hP hw hK
  obtain⟨f0,f1,f2,f3,f4,f5⟩:=hf it (by simp)
  have hi:i<n:=hg
  refine wpAny_pyNext_range_item st (by lia) λh' hit' hs'=>?_
  have e1:lo+((i+1:Nat):Int)*1=lo+(i:Int)*1+1:=by lia
  have e2:(n:Int)-((i+1:Nat):Int)=(n:Int)-(i:Int)-1:=by lia
  have st':IsRangeIter h' it (lo+((i+1:Nat):Int)*1) ((n:Int)-((i+1:Nat):Int)) 1:=by rw[e1,e2];exact hit'
  refine⟨_,rfl,go_of (n:= "range_iterator") st' rfl rfl (by decide) ⟨.int (lo+i),H,I.turned (λb o hb e=>hs'.extBut b o hb e) f0 f1 f3 f4 f5,⟨s.toks,by rw[Int.mul_one]⟩,⟨rfl,rfl⟩,st',λb hb=>(hf b hb).1⟩⟩
 done:=by
  intro X hP hw hK hh i pins s σ H E C I hx hf st hg
  subst hP hw hK
  obtain⟨f0,f1,f2,f3,f4,f5⟩:=hf it (by simp)
  have hne:it≠xe:=λz=>by rw[z,hx] at f0;cases f0
  exact next_range_ctx (C:=C) hh (I.hok xe _ hx).1 hne st (by have:n<=i:=hg;lia) λh' eb=>⟨rfl,I.turned (t':=s.toks) (λb o hb e=>eb b o hb e) f0 f1 f3 f4 f5⟩
 self:=λ_ _ _ _ _ st h=>wpAny_pyIter_rangeiter st h
def PIEH (X:Cx) (xe:Addr) (pins:List (Addr×Obj)) (σ:St) (tg:Expr) (R:It->Hp->Prop) (itv:Value) (s2:Shared):Prop:=
 ∃(it:Addr) (fp:List Addr) (tn:Nat->Heap->Prop) (J:It) (H':Hp),itv=.ref it/\Inv X pins σ H' s2/\TurnH X.prog X.w X.K xe tg J fp it tn/\tn 0 s2.heap/\(∀b∈fp,FpOk X pins H' b)/\R J H'
def PIH (X:Cx) (xe:Addr) (tg iter:Expr) (wi:TI):Prop:=
 ∀(pins:List (Addr×Obj)) (s:Shared) (σ:St) (H:Hp) (R:It->Hp->Prop),Inv X pins σ H s->wi σ H R ->
  wpAny (model X.prog X.w) X.A (eval iter X.env) (λv s1=>wpAny (model X.prog X.w) X.A (pyIter v) (PIEH X xe pins σ tg R) X.xe s1) X.xe s
def tCompGH (xe:Addr) (n:Nat) (wi:TI) (g:TG) (tt:TT) (te:TE):TE:=λσ H Q=>wi σ H λJ H1=>∀D,H1 D=none->∃W:Nat->Nat->List V->Hp->Prop,(∃m,W 0 m [] (upd H1 D (.lst []))) /\
 ∀i m xs H2,W i m xs H2->H2 D=some (.lst xs)/\xs.length<sizeLine/\((J.stop i H2/\(∃C,H2 xe=some (.ext (ExcAt xe C)))/\Q (.ref D) H2)\/(J.go i H2/\∀y H3,J.yld i H2 y H3->∀os:St,os.length=n ->
  g y (os++σ) H3 λσ4 H4=>tt σ4 H4 λb H5=>if b=true then te σ4 H5 λv H6=>H6 D=some (.lst xs)/\∃m',m'<m/\W (i+1) m' (xs++[v]) (upd H6 D (.lst (xs++[v]))) else ∃m',m'<m/\W (i+1) m' xs H5))
section
variable {X:Cx}
theorem range_itH {tg:Expr}{xe:Addr}{pins:List (Addr×Obj)}{σ:St}{H:Hp}{s:Shared}{R:It->Hp->Prop}{E:Value->Shared->Prop}{lo hi:Int}{t u v:Tok}{tk:Nat}(I:Inv X pins σ H s) (h1:-(2^62)<=lo) (h2:lo<2^62) (h3:-(2^62)<=hi) (h4:hi<2^62)
  (q:R (Itr lo (hi-lo).toNat) H):wpAny (model X.prog X.w) X.A (pyIter (.ref s.heap.objs.size)) (PIEH X xe pins σ tg R) E { s with heap:=s.heap.push { cls:=.type "range",data:=.fields #[.int lo t,.int hi u,.int 1 v] },toks:=tk }:=by
 refine wpAny_pyIter_range (IsRange.new ..) (small_one h1 h2 h3 h4) ?_
 have I1:Inv X pins σ H { s with heap:=s.heap.push { cls:=.type "range",data:=.fields #[.int lo t,.int hi u,.int 1 v] },toks:=tk }:=I.kept λb o e=>Heap.get?_push_of_some _ e
 refine⟨(s.heap.push { cls:=.type "range",data:=.fields #[.int lo t,.int hi u,.int 1 v] }).objs.size,[(s.heap.push { cls:=.type "range",data:=.fields #[.int lo t,.int hi u,.int 1 v] }).objs.size],_,_,H,rfl,
  I1.kept (t':=tk) λb o e=>Heap.get?_push_of_some _ e,turn_rangeH _ lo (hi-lo).toNat,?_,λb hb=>?_,q⟩
 ·have e1:lo+((0:Nat):Int)*1=lo:=by simp
  have e2:(((hi-lo).toNat:Nat):Int)-((0:Nat):Int)=Builtin.Range.rangeSize lo hi 1:=by rw[rangeSize_one];split<;>lia
  show IsRangeIter _ _ (lo+((0:Nat):Int)*1) ((((hi-lo).toNat:Nat):Int)-((0:Nat):Int)) 1
  rw[e1,e2]
  exact Heap.get?_push_size _ rfl
 ·have e:b=(s.heap.push { cls:=.type "range",data:=.fields #[.int lo t,.int hi u,.int 1 v] }).objs.size:=by simpa using hb
  subst e
  exact I1.fpOk (Nat.le_refl _) (I1.hok.fresh (Nat.le_refl _))
theorem pi_range1H {tg:Expr}{xe:Addr}{a:Expr}{ta:TA}{p pos:Pos}(hg:Gl X "range") (hm:X.mg "range" = none) (ha:PA X [a] ta) (hs:starEach [a] X.env=[(false,eval a X.env)]:=by rfl):PIH X xe tg (.Call (.Name "range" p) [a] [] pos) (iRng1 ta):=by
 intro pins s σ H R I h
 refine Call_ (ld_blt I hg hm boot_range (PyProof.Rows.callWith_type1 (thn (ha pos pins s σ H _ I h) λus s1 ⟨vs,H1,I1,r1,q1⟩=>?_) hs rfl))
 obtain⟨j,e,q1,q2,q⟩:=q1
 subst e
 cases r1 with
 |cons r rr=>
  cases rr
  obtain⟨t,rfl⟩:=r
  exact call_range_1 (range_itH I1 (by lia) (by lia) q1 q2 (by simpa using q))
theorem pe_compGH {xe:Addr}{nn:List Str}{tg:Expr}{ifs:List Expr}{pos:Pos}{elt iter:Expr}{scope:Scope}{wi:TI}{g:TG}{tt:TT}{te:TE}(T:Env->Sem Bool) (hh:X.A.handled=some (.ref xe)) (hi:PIH X xe tg iter wi)
  (hturn:∀it acc env,compTurn (.ListComp elt [⟨tg,iter,ifs,0⟩] scope pos) 0 it acc env=(standAt iter.pos >>= λ_=>pyNext it >>= λr=>match r with
   |none=>pure (.done .next)
   |some v=>letOwnedTupleGo tg it v >>= λ_=>assign tg env v >>= λ_=>T env >>= λok=>(if ok=true then (eval elt env >>= λx=>call (.builtin "list.append") [acc,x] >>= λ_=>pure ()) else pure ()) >>= λ_=>
     again (.compLoop (.ListComp elt [⟨tg,iter,ifs,0⟩] scope pos) 0 it acc env)))
  (hgt:∀cl C fp s₀ H₀,PG (compCxG X scope cl C nn fp s₀ H₀) tg g)
  (hloc2:∀y (os σ:St) H R,os.length=nn.length->g y (os++σ) H R->g y (os++σ) H λσ' H'=>(∃os':St,os'.length=nn.length/\σ'=os'++σ)/\R σ' H')
  (htt:∀cl C fp s₀ H₀ (pins:List (Addr×Obj)) (s:Shared) (σ:St) (H:Hp) (Q:Bool->Hp->Prop),Inv (compCxG X scope cl C nn fp s₀ H₀) pins σ H s->tt σ H Q->wpAny (model X.prog X.w) X.A (T (compEnvC scope cl C X.env)) (TP (compCxG X scope cl C nn fp s₀ H₀) pins σ Q) (λ_ _=>False) s)
  (he:∀cl C fp s₀ H₀,PE (compCxG X scope cl C nn fp s₀ H₀) elt te)
  (hkind:scope.kind=.function) (hcell:∀y∈scope.names,y.2≠.cell) (hnames:∀y∈scope.names,y.2=.local->scope.names.lookup y.1=some .local)
  (hloc:∀y∈X.N,scope.names.lookup y≠some .local) (hfr:∀p∈scope.names,p.2=.free->Vis X.env.scope p.1/\X.env.scope.names.lookup p.1≠some .local)
  (hs:∀x,foldedSetIterable iter X.env x=pure x):PE X (.ListComp elt [⟨tg,iter,ifs,0⟩] scope pos) (tCompGH xe nn.length wi g tt te):=by
 intro pins s σ H Q I h
 rw[eval_ListComp]
 obtain⟨cl,hclos,hcl1,hcl2⟩:=closureFor_some (scope:=scope) (env:=X.env) (λp hp hk=>by
  obtain⟨hv,hn⟩:=hfr p hp hk
  refine I.ok.has p.1 ?_
  rcases hv with z|z
  ·exact absurd z hn
  ·exact z)
 refine wpAny_comprehension_free (use:=none) rfl hs hclos hkind hnames (thn (hi pins s σ H _ I h) λv s1 h1=>thn h1 λitv s2 h2=>?_)
 obtain⟨it,fp,tn,J,H2,rfl,I2,T',st2,f2,q⟩:=h2
 have hD:H2 s2.heap.objs.size=none:=I2.hok.fresh (Nat.le_refl _)
 obtain⟨W,⟨m0,w0⟩,turn⟩:=q _ hD
 refine wpAny_newObj_type (wpAny_newFunctionEnv hcell (by intro y hy;simp at hy) (λh₁ hns₁ hsb₁=>?_) hkind)
 dsimp only at hns₁ hsb₁ ⊢
 have I3:Inv X pins σ (upd H2 s2.heap.objs.size (.lst [])) { s2 with heap:=s2.heap.push { cls:=.type "list",dict:=none,data:=.seq ([]:List Value).toArray } }:=
  I2.laid (t':=s2.toks) (λb u e=>Heap.get?_push_of_some _ e) (Nat.le_refl _) ⟨Nat.zero_le _,[],0,.nil,Heap.get?_push_size _ rfl⟩
 have fpn:∀b∈fp,b≠s2.heap.objs.size:=λb hb=>by
  obtain⟨o,e,_⟩:=T'.obj 0 s2.heap st2 b hb
  exact Nat.ne_of_lt (Heap.lt_size e)
 have fplt:∀b∈fp,b<(s2.heap.push { cls:=.type "list",dict:=none,data:=.seq ([]:List Value).toArray }).objs.size:=λb hb=>by
  obtain⟨o,e,_⟩:=T'.obj 0 s2.heap st2 b hb
  rw[Heap.size_push];exact Nat.lt_succ_of_lt (Heap.lt_size e)
 have f3:∀b∈fp,FpOk X pins (upd H2 s2.heap.objs.size (.lst [])) b:=λb hb=>⟨by rw[upd_ne (fpn b hb)];exact (f2 b hb).1,(f2 b hb).2⟩
 generalize hg2:s2.heap.push { cls:=.type "list",dict:=none,data:=.seq ([]:List Value).toArray }=g2 at hns₁ hsb₁ I3 fplt ⊢
 have keep:∀b o,g2.get? b=some o->h₁.get? b=some o:=λb o e=>(hsb₁.2 b (Nat.ne_of_lt (Heap.lt_size e))).trans (Heap.get?_push_of_some _ e)
 have J0:=compG_start (nn:=nn) (tk:=s2.toks+([]:List (Str×Value)).length) I3 (C:=g2.objs.size) rfl keep hns₁ f3 fplt hkind hcell hloc hcl1 hcl2 hfr
 generalize hY:compCxG X scope cl g2.objs.size nn fp { s2 with heap:=g2 } (upd H2 s2.heap.objs.size (.lst []))=Y at J0
 have eY:PE Y elt te:=by rw[<- hY];exact he _ _ _ _ _
 have eG:PG Y tg g:=by rw[<- hY];exact hgt _ _ _ _ _
 have eT:∀(pins:List (Addr×Obj)) (s:Shared) (σ:St) (H:Hp) (Q:Bool->Hp->Prop),Inv Y pins σ H s->tt σ H Q->wpAny (model Y.prog Y.w) Y.A (T Y.env) (TP Y pins σ Q) Y.xe s:=by rw[<- hY];exact htt _ _ _ _ _
 have eP:Y.prog=X.prog:=by rw[<- hY];rfl
 have eW:Y.w=X.w:=by rw[<- hY];rfl
 have eK:Y.K=X.K:=by rw[<- hY];rfl
 have eA:Y.A=X.A:=by rw[<- hY];rfl
 have eC:Y.A.handled=some (.ref xe):=by rw[<- hY];exact hh
 have eE:Y.env=compEnvC scope cl g2.objs.size X.env:=by rw[<- hY];rfl
 have eX:Y.xe=λ_ _=>False:=by rw[<- hY];rfl
 have eN:Y.N=nn++X.N:=by rw[<- hY];rfl
 have eEx:Y.ex=fp:=by rw[<- hY];rfl
 have eFs:Y.fs=frs X.stack:=by rw[<- hY];rfl
 have ePn:Y.pn=[]:=by rw[<- hY];rfl
 have fpY:∀{H':Hp},(∀b∈fp,H' b=none)->∀b∈fp,FpOk Y [] H' b:=λhn b hb=>by
  have g:=f3 b hb
  refine⟨hn b hb,?_,?_,.inl (by rw[eEx];exact hb),?_,λp hp=>absurd hp (by rw[ePn];simp)⟩
  ·rw[eE];exact Nat.ne_of_lt (fplt b hb)
  ·rw[eFs]
   intro z
   rcases List.mem_cons.mp (I3.stkSub b z) with z|z
   ·exact g.2.1 z
   ·exact g.2.2.1 z
  ·rw[eE]
   exact λy c e=>g.2.2.2.2.1 y c (hcl1 y c e)
 have loop:∀s₃:Shared,s₃={ s2 with heap:=h₁,toks:=s2.toks+([]:List (Str×Value)).length } ->
   codeAny (model X.prog X.w) X.A (.compLoop (.ListComp elt [⟨tg,iter,ifs,0⟩] scope pos) 0 (.ref it) (.ref s2.heap.objs.size) (compEnvC scope cl g2.objs.size X.env))
    (compPost (model X.prog X.w) X.A X.xe none (EP X pins σ Q) (.ref s2.heap.objs.size) g2.objs.size) s₃:=by
  rintro s₃ rfl
  refine compLoopG (T (compEnvC scope cl g2.objs.size X.env)) (hturn _ _ _) (λn s'=>∃i xs H' os,os.length=nn.length/\Inv Y [] (os++σ) H' s'/\tn i s'.heap/\(∀b∈fp,H' b=none)/\W i n xs H') ?_ m0
   ⟨0,[],_,nn.map λ_=>none,by simp,J0,T'.keep 0 _ _ st2 (λb hb o e=>keep b o (by rw[<- hg2];exact Heap.get?_push_of_some _ e)),λb hb=>(f3 b hb).1,w0⟩
  rintro n s3 ⟨i,xs,H3,os,hos,I4,st3,fr3,w3⟩
  obtain⟨hDx,hlx,alt⟩:=turn i n xs H3 w3
  rcases alt with ⟨stop,⟨CE,hxe⟩,qn⟩|⟨go,step⟩
  ·have D1:=T'.done Y eP eW eK eC i [] s3 _ H3 (λ_ _=>False) CE I4 hxe (fpY fr3) st3 stop
   rw[eA] at D1
   refine thn D1 λr s4 ⟨hr,I5⟩=>?_
   subst hr
   obtain⟨m4,hns4,_⟩:=id I5.loc
   rw[eE] at hns4
   refine⟨m4,hns4,λh' sb=>⟨.ref _,H3,?_,rfl,qn⟩⟩
   rw[<- hY] at I5
   exact compG_end I3 rfl f3 I5 sb
  ·have G1:=T'.item Y eP eW eK i [] s3 _ H3 (λ_ _=>False) I4 (fpY fr3) st3 go
   rw[eA] at G1
   refine thn G1 λr s4 ⟨u,hr,h4⟩=>?_
   subst hr
   refine thn h4 λ_ s5 ⟨y,H5,I5,r5,y5,st5,fr5⟩=>?_
   have I5':=I5.pinned (fpY fr5) (T'.obj _ _ st5)
   have S1:=eG _ s5 _ H5 y u _ I5' r5 (hloc2 y os σ H5 _ hos (step y _ y5 os hos))
   rw[eP,eW,eA,eE,eX] at S1
   refine thn S1 λ_ s6 ⟨σ6,H6,I6,⟨os6,hos6,e6⟩,q6⟩=>?_
   subst e6
   have S2:=eT _ s6 _ _ _ I6 q6
   rw[eP,eW,eA,eE,eX] at S2
   refine thn S2 λok s7 ⟨H7,I7,q7⟩=>?_
   have back:∀{s9:Shared}{H9:Hp}{m':Nat}{zs:List V},Inv Y ([]++pinsAt fp s5.heap) (os6++σ) H9 s9->m'<n->W (i+1) m' zs H9->∃m,m<n/\∃i xs H' os,os.length=nn.length/\Inv Y [] (os++σ) H' s9/\tn i s9.heap/\(∀b∈fp,H' b=none)/\W i m xs H':=λ{s9 H9 m' zs} I9 hm' w9=>by
    have pin:∀b∈fp,∀ob,s5.heap.get? b=some ob->s9.heap.get? b=some ob/\H9 b=none:=λb hb ob e=>by
     have z:=I9.pin (b,ob) (List.mem_append_right _ (List.mem_append_right _ (mem_pinsAt hb e)))
     exact⟨z.1,z.2.1⟩
    refine⟨m',hm',i+1,zs,H9,os6,hos6,I9.unpinned,T'.keep _ _ _ st5 (λb hb ob e=>(pin b hb ob e).1),λb hb=>?_,w9⟩
    obtain⟨ob,e,_⟩:=T'.obj _ _ st5 b hb
    exact (pin b hb ob e).2
   cases ok with
   |true=>
    rw[if_pos rfl] at q7
    rw[if_pos rfl]
    have S3:=eY _ s7 _ _ _ I7 q7
    rw[eP,eW,eA,eE,eX] at S3
    refine thn S3 λxv s8 ⟨v8,H8,I8,r8,hD8,m',hm',w8⟩=>?_
    have S4:=mt_append (X:=Y) _ s8 _ H8 (.ref s2.heap.objs.size) [v8] (.ref s2.heap.objs.size) [xv] (λ_ H9=>H9=upd H8 s2.heap.objs.size (.lst (xs++[v8]))) I8 rfl (.cons r8 .nil) ⟨_,xs,v8,rfl,rfl,hD8,hlx,rfl⟩
    rw[eP,eW,eA,eX] at S4
    refine thn S4 λ_ s9 ⟨v9,H9,I9,_,e9⟩=>?_
    subst e9
    exact back I9 hm' w8
   |false=>
    rw[if_neg Bool.false_ne_true] at q7
    rw[if_neg Bool.false_ne_true]
    obtain⟨m',hm',w8⟩:=q7
    exact back I7 hm' w8
 exact codeAny_compStart_list (loop _ rfl) (T'.self _ 0 _ _ _ (T'.keep 0 _ _ st2 (λb hb o e=>keep b o (by rw[<- hg2];exact Heap.get?_push_of_some _ e))) (loop _ rfl))
theorem pe_compIfH {xe:Addr}{x:Str}{px pos:Pos}{elt iter c:Expr}{scope:Scope}{wi:TI}{tt:TT}{te:TE}(N:List Str) (sc:Scope) (hNe:X.N=N) (hsc:X.env.scope=sc) (hh:X.A.handled=some (.ref xe)) (hN:X.N.Nodup) (hi:PIH X xe (.Name x px) iter wi)
  (ht:∀cl C fp s₀ H₀,PT (compCxG X scope cl C [x] fp s₀ H₀) c tt) (he:∀cl C fp s₀ H₀,PE (compCxG X scope cl C [x] fp s₀ H₀) elt te)
  (hkind:scope.kind=.function:=by rfl) (hcell:scope.names.all (λy=>y.2 != .cell)=true:=by decide +kernel) (hnames:scope.names.all (λy=>y.2 != .local||scope.names.lookup y.1==some .local)=true:=by decide +kernel)
  (hx:scope.names.lookup x=some .local:=by rfl) (hloc:N.all (λy=>scope.names.lookup y != some .local)=true:=by decide +kernel)
  (hfr:scope.names.all (λp=>p.2 != .free||(sc.names.lookup p.1==some .cell||sc.names.lookup p.1==some .free))=true:=by decide +kernel)
  (hs:∀x,foldedSetIterable iter X.env x=pure x:=by intro _;rfl):PE X (.ListComp elt [⟨.Name x px,iter,[c],0⟩] scope pos) (tCompGH xe 1 wi (gName 0) tt te):=by
 obtain⟨s1,s2,s3,s4⟩:=scopes_ok hNe hsc hcell hnames hloc hfr
 refine pe_compGH (nn:=[x]) (λenv=>isTrue c env (eval c env)) hh hi (λit acc env=>turn_one elt _ iter c scope pos it acc env) (λcl C fp s₀ H₀=>?_) (λy os σ H R ho h=>loc1 ho h) (λcl C fp s₀ H₀ pins s σ H Q I h=>ht cl C fp s₀ H₀ pins s σ H Q I h) he hkind s1 s2 s3 s4 hs
 have l:(compCxG X scope cl C [x] fp s₀ H₀).env.scope.names.lookup x=some .local:=lookup_relabel_local hx
 exact pg_name (i:=0) (List.nodup_cons.mpr ⟨λz=>s3 x z hx,hN⟩) rfl (.inl l) (.inr l)
end
end L2
namespace L2
open PySem PySem.Spec PyProof.Rows PySem.W
section
variable {X:Cx}{pins:List (Addr×Obj)}{σ:St}{H:Hp}{s:Shared}
theorem Inv.madeX {e C:Addr}{h':Heap}{us:List Value}(I:Inv X pins σ H s) (hm:Heap.MadeExcOf s.heap h' e (.ref C) us):H e=none/\Inv X pins σ (upd H e (.ext (ExcAt e C))) { s with heap:=h' }:=by
 obtain⟨t,he,_,_⟩:=hm.there
 have hne:∀{b:Addr},(∃o,s.heap.get? b=some o)->b≠e:=λ⟨o,q⟩ z=>by
  rw[z,hm.new] at q;cases q
 have hx:H e=none:=by
  cases q:H e with
  |none=>rfl
  |some u=>exact absurd rfl (hne (I.hok e u q).there)
 refine⟨hx,?_⟩
 have I':Inv X pins σ H { s with heap:=h' }:=I.kept (t':=s.toks) hm.keeps
 have nl:X.env.locals≠e:=by
  obtain⟨m,⟨o,es,ep,q,_⟩,_⟩:=I.loc
  exact hne ⟨_,q⟩
 refine⟨I'.ok,I'.os,I'.bare,⟨I'.base.keep,I'.base.slot,λb o q n hx'=>?_,I'.base.there,λb xs q=>?_,λb o u q=>?_,λb ps q=>?_⟩,I'.loc,I'.cell,?_,λy c q=>?_,λp hp=>?_,λb o q=>?_,I'.len⟩
 ·rw[upd_ne (hne (I.base.there b o q hx'))];exact I'.base.free b o q n hx'
 ·have z:=I'.base.tups b xs q
  rw[upd_ne (ne_of_none z hx)];exact z
 ·have z:=I'.base.frzs b o u q
  rw[upd_ne (ne_of_none z hx)];exact z
 ·obtain⟨m,z⟩:=I'.base.tbls b ps q
  exact⟨m,by rw[upd_ne (ne_of_none z hx)];exact z⟩
 ·rw[upd_ne nl];exact I'.free
 ·obtain⟨v,o,z,_⟩:=I.cell y c q
  rw[upd_ne (hne ⟨_,z⟩)]
  exact I'.freeC y c q
 ·obtain⟨z1,z2,z3⟩:=I'.pin p hp
  refine⟨z1,?_,z3⟩
  rw[upd_ne (hne ⟨_,(I.pin p hp).1⟩)]
  exact z2
 ·by_cases hb:b=e
  ·subst hb
   rw[upd_same] at q;cases q
   exact⟨⟨_,_,he,rfl,rfl,rfl⟩,⟨_,he⟩,λh1 h2 ⟨ox,vs',q1,q2⟩ k=>⟨ox,vs',k ox q1,q2⟩⟩
  ·rw[upd_ne hb] at q
   exact (I'.hok b o q).stay (λc u _ q=>q) (λc q=>by rw[upd_ne (ne_of_none q hx)];exact q) λc xs q=>by rw[upd_ne (ne_of_none q hx)];exact q
end
section
variable {X:Cx}{x:Str}{C:Addr}{e₀:Expr}{rest:List Expr}{t:TA}{np cpos:Pos}
def tExc (C:Addr) (t:TA):TE:=λσ H Q=>t σ H λvs H1=>vs.length<=sizeLine/\∀e,H1 e=none->Q (.ref e) (upd H1 e (.ext (ExcAt e C)))
theorem pe_exc (hg:Gl X x) (hm:X.mg x=some (.ref C)) (hx:excIn X.K C bmV "ValueError.__new__" = true) (ha:PA X (e₀::rest) t) (hd:(x==("__debug__" : Str))=false:=by decide)
  (he:starEach (e₀::rest) X.env=(false,eval e₀ X.env)::starEach rest X.env:=by rfl) (hplain:(backTo cpos (starEach rest X.env)).any (·.1)=false:=by rfl) :
  PE X (.Call (.Name x np) (e₀::rest) [] cpos) (tExc C t):=by
 intro pins s σ H Q I h
 obtain⟨bm,N,nm,qn,bs,hdd,sn,sub,ab,col,dd,k0,k1,k2,k3,k5,mN,hC,hN,hni,T⟩:=excObj I.ok.mod.kin hx
 have hpl:(backTo cpos (starEach (e₀::rest) X.env)).any (·.1)=false:=by rw[he];show (false||(backTo cpos (starEach rest X.env)).any (·.1))=false;rw[hplain];rfl
 refine wpAny_Call_ofName (ld_glob I hg hm ?_ hd)
 have A1:=ha cpos pins s σ H _ I h
 unfold callWith
 refine wpAny_bind (wpAny_holding (wpAny_mono (Q:=λa s₂=>a.kw=[]/\∃vs H1,Inv X pins σ H1 s₂/\Vals vs a.pos/\vs.length<=sizeLine/\∀e,H1 e=none->Q (.ref e) (upd H1 e (.ext (ExcAt e C)))) ?_ (λa s₂ h₂=>wpAny_bind (wpAny_standAt ?_)) λ_ _ x=>x))
 ·rw[he] at A1 ⊢
  exact Calls.evalArgs_plain (wpAny_mono A1 (λus s2 ⟨vs,H1,I1,r,hz,hE⟩=>⟨rfl,vs,H1,I1,r,hz,hE⟩) λ_ _ y=>y)
 obtain⟨apos,akw⟩:=a
 obtain⟨hkw,vs,H1,I1,r,hz,hQ⟩:=h₂
 obtain rfl:akw=[]:=hkw
 have hC1:=I1.bk _ _ hC
 have hN1:=hN.keeps I1.bk
 have T1:=T.keeps I1.bk
 have fin:∀h' e,Heap.MadeExcOf s₂.heap h' e (.ref C) apos->EP X pins σ Q (.ref e) { s₂ with heap:=h' }:=λh' e hmk=>by
  obtain⟨z1,z2⟩:=I1.madeX hmk
  exact⟨.ref e,_,z2,rfl,hQ e z1⟩
 obtain⟨hp,g,d,tk,os⟩:=s₂
 simp only[hpl]
 refine wpAny_bind (wpAny_keeperOf_exc hC1 ?_)
 refine wpAny_bind (wpAny_call_exc_subU (hrest:=by have h3:vs.length=apos.length:=r.length;show apos.length<=sizeLine;lia) F.excBase_ValueError (by decide) F.excBase_ValueError T1 hC1 hN1 hni λh' e hmk=>wpAny_bind (wpAny_holding (wpAny_point (wpAny_pure ?_))))
 exact fin h' e hmk
end
end L2
namespace SetT
open PySem
def Rise (xs:Array Nat):Prop:=∀i j (hi:i<xs.size) (hj:j<xs.size),i<j->xs[i]<xs[j]
theorem below_go {xs:Array Nat}(hr:Rise xs) (j:Nat):∀(f lo hi:Nat),hi-lo<=f->lo<=hi->hi<=xs.size->(∀k (h:k<xs.size),k<lo->xs[k]<j)->(∀k (h:k<xs.size),hi<=k->j<=xs[k]) ->
  SetTable.below.go xs j f lo hi<=xs.size/\(∀k (h:k<xs.size),k<SetTable.below.go xs j f lo hi->xs[k]<j)/\(∀k (h:k<xs.size),SetTable.below.go xs j f lo hi<=k->j<=xs[k])
 |0,lo,hi,hf,hl,hs,h1,h2=>by
  have e:lo=hi:=by lia
  subst e
  exact⟨hs,h1,h2⟩
 |f+1,lo,hi,hf,hl,hs,h1,h2=>by
  unfold SetTable.below.go
  by_cases hc:lo<hi
  ·rw[if_pos hc]
   have hm:(lo+hi)/2<xs.size:=by lia
   have em:xs.getD ((lo+hi)/2) j=xs[(lo+hi)/2]:=by simp[Array.getD,hm]
   simp only
   rw[em]
   by_cases hx:xs[(lo+hi)/2]<j
   ·rw[if_pos hx]
    refine below_go hr j f _ hi (by lia) (by lia) hs (λk h hk=>?_) h2
    by_cases ek:k=(lo+hi)/2
    ·subst ek;exact hx
    ·exact Nat.lt_trans (hr k _ h hm (by lia)) hx
   ·rw[if_neg hx]
    refine below_go hr j f lo _ (by lia) (by lia) (by lia) h1 (λk h hk=>?_)
    by_cases ek:k=(lo+hi)/2
    ·subst ek;lia
    ·have:=hr _ k hm h (by lia);lia
  ·rw[if_neg hc]
   have e:lo=hi:=by lia
   subst e
   exact⟨hs,h1,h2⟩
theorem below_is {xs:Array Nat}(hr:Rise xs) (j:Nat):SetTable.below xs j<=xs.size/\(∀k (h:k<xs.size),k<SetTable.below xs j->xs[k]<j)/\(∀k (h:k<xs.size),SetTable.below xs j<=k->j<=xs[k]):=
 below_go hr j xs.size 0 xs.size (by lia) (Nat.zero_le _) (Nat.le_refl _) (λk h hk=>absurd hk (Nat.not_lt_zero _)) (λk h hk=>absurd h (by lia))
theorem below_at {xs:Array Nat}(hr:Rise xs){i j:Nat}(h:xs[i]?=some j):SetTable.below xs j=i:=by
 obtain⟨hi,e⟩:=Array.getElem?_eq_some_iff.mp h
 obtain⟨h0,h1,h2⟩:=below_is hr j
 rcases Nat.lt_trichotomy (SetTable.below xs j) i with z|z|z
 ·have a:=h2 (SetTable.below xs j) (by lia) (Nat.le_refl _)
  have b:=hr _ i (by lia) hi z
  lia
 ·exact z
 ·have:=h1 i hi z;lia
theorem slot_at {t:SetTable}(hr:Rise t.place){i j:Nat}(h:t.place[i]?=some j):t.slot j=.live i:=by
 unfold SetTable.slot
 simp only
 rw[below_at hr h,if_pos (by rw[h];simp)]
theorem at_insertAt {α:Type}(xs:Array α) (p:Nat) (hp:p<=xs.size) (x:α) (k:Nat):(SetTable.insertAt xs p x)[k]?=if k<p then xs[k]? else if k=p then some x else xs[k-1]?:=by
 unfold SetTable.insertAt
 have e1:(xs.extract 0 p).size=p:=by simp;lia
 have e2:((xs.extract 0 p).push x).size=p+1:=by rw[Array.size_push,e1]
 rw[Array.getElem?_append,e2]
 by_cases h1:k<p
 ·rw[if_pos (by lia),if_pos h1,Array.getElem?_push,e1,if_neg (by lia),Array.getElem?_extract]
  simp only[Nat.zero_add]
  rw[if_pos (by lia)]
 ·rw[if_neg h1]
  by_cases h2:k=p
  ·rw[if_pos h2,if_pos (by lia),Array.getElem?_push,e1,if_pos h2]
  ·rw[if_neg h2,if_neg (by lia),Array.getElem?_extract]
   have:p+(k-(p+1))=k-1:=by lia
   rw[this]
   by_cases h3:k-1<xs.size
   ·rw[if_pos (by lia)]
   ·rw[if_neg (by lia),Array.getElem?_eq_none (by lia)]
theorem rise_of {xs:Array Nat}(h:∀i j x y:Nat,i<j->xs[i]?=some x->xs[j]?=some y->x<y):Rise xs:=λi j hi hj hij=>h i j _ _ hij (Array.getElem?_eq_getElem hi) (Array.getElem?_eq_getElem hj)
theorem Rise.at {xs:Array Nat}(h:Rise xs){i j x y:Nat}(hij:i<j) (e1:xs[i]?=some x) (e2:xs[j]?=some y):x<y:=by
 obtain⟨h1,rfl⟩:=Array.getElem?_eq_some_iff.mp e1
 obtain⟨h2,rfl⟩:=Array.getElem?_eq_some_iff.mp e2
 exact h i j h1 h2 hij
theorem rise_put {xs:Array Nat}(hr:Rise xs){j:Nat}(hj:∀i:Nat,xs[i]?≠some j):Rise (SetTable.insertAt xs (SetTable.below xs j) j):=by
 obtain⟨h0,h1,h2⟩:=below_is hr j
 have lo:∀k x:Nat,k<SetTable.below xs j->xs[k]?=some x->x<j:=λk x hk e=>by
  obtain⟨h,rfl⟩:=Array.getElem?_eq_some_iff.mp e
  exact h1 k h hk
 have hi:∀k x:Nat,SetTable.below xs j<=k->xs[k]?=some x->j<x:=λk x hk e=>by
  obtain⟨h,e'⟩:=Array.getElem?_eq_some_iff.mp e
  have:=h2 k h hk
  rw[e'] at this
  have hne:x≠j:=λz=>hj k (by rw[e,z])
  lia
 generalize SetTable.below xs j=p at *
 refine rise_of λa b x y hab ea eb=>?_
 rw[at_insertAt _ _ h0] at ea eb
 by_cases a1:a<p
 ·rw[if_pos a1] at ea
  by_cases b1:b<p
  ·rw[if_pos b1] at eb
   exact hr.at hab ea eb
  ·rw[if_neg b1] at eb
   by_cases b2:b=p
   ·rw[if_pos b2] at eb
    cases eb
    exact lo a x a1 ea
   ·rw[if_neg b2] at eb
    exact hr.at (by lia) ea eb
 ·rw[if_neg a1] at ea
  rw[if_neg (by lia),if_neg (by lia)] at eb
  by_cases a2:a=p
  ·rw[if_pos a2] at ea
   cases ea
   exact hi _ y (by lia) eb
  ·rw[if_neg a2] at ea
   exact hr.at (by lia) ea eb
theorem adv_mask {t t':SetTable}(h:t.mask=t'.mask):∀(m:Nat) (p:SetTable.Probe),adv t m p=adv t' m p
 |0,p=>rfl
 |m+1,p=>by
  have e:t.advance p=t'.advance p:=by unfold SetTable.advance;rw[h]
  show adv t m (t.advance p)=adv t' m (t'.advance p)
  rw[e]
  exact adv_mask h m _
theorem start_mask {t t':SetTable}(h:t.mask=t'.mask) (x:Int):t.probeStart x=t'.probeStart x:=by unfold SetTable.probeStart;rw[h]
def Way (t:SetTable) (x:Int) (j:Nat):Prop:=∃m,m<10*SetTable.turns t.mask/\(adv t m (t.probeStart x)).j=j/\∀m',m'<m->∃i:Nat,t.place[i]?=some (adv t m' (t.probeStart x)).j
theorem Way.more {t t':SetTable}{x:Int}{j:Nat}(w:Way t x j) (hm:t.mask=t'.mask) (hp:∀k:Nat,(∃i:Nat,t.place[i]?=some k)->∃i:Nat,t'.place[i]?=some k):Way t' x j:=by
 obtain⟨m,h1,h2,h3⟩:=w
 refine⟨m,by rw[<- hm];exact h1,?_,λm' hm'=>?_⟩
 ·rw[<- start_mask hm,<- adv_mask hm];exact h2
 ·rw[<- start_mask hm,<- adv_mask hm];exact hp _ (h3 m' hm')
structure Good (t:SetTable) (hs:Array Int):Prop where
 gr:Grown t hs.size
 ri:Rise t.place
 wy:∀(i j:Nat) (x:Int),t.place[i]?=some j->hs[i]?=some x->Way t x j
theorem Good.put {t:SetTable}{hs:Array Int}(g:Good t hs) (hf:t.tooFull=false){j:Nat}{x:Int}(hj:∀i:Nat,t.place[i]?≠some j) (w:Way t x j):Good (t.put j).1 (SetTable.insertAt hs (t.put j).2 x):=by
 have e:(t.put j).1={ t with place:=SetTable.insertAt t.place (SetTable.below t.place j) j }:=by
  unfold SetTable.put
  simp only
  rw[g.gr.du,has_none]
  simp[g.gr.du]
 have e2:(t.put j).2=SetTable.below t.place j:=rfl
 have hp0:=(below_is g.ri j).1
 have hsz:t.place.size=hs.size:=g.gr.pl
 have hmem:∀k:Nat,(∃i:Nat,t.place[i]?=some k)->∃i:Nat,(t.put j).1.place[i]?=some k:=λk ⟨i,hi⟩=>by
  rw[e]
  by_cases h:i<SetTable.below t.place j
  ·exact⟨i,by rw[at_insertAt _ _ hp0,if_pos h];exact hi⟩
  ·exact⟨i+1,by rw[at_insertAt _ _ hp0,if_neg (by lia),if_neg (by lia)];exact hi⟩
 have hmk:t.mask=(t.put j).1.mask:=by rw[e]
 refine⟨by rw[size_insertAt];exact g.gr.put hf j,by rw[e];exact rise_put g.ri hj,λi k y hi hy=>?_⟩
 rw[e2,at_insertAt _ _ (by lia)] at hy
 rw[e] at hi
 have hi':(SetTable.insertAt t.place (SetTable.below t.place j) j)[i]?=some k:=hi
 rw[at_insertAt _ _ hp0] at hi'
 by_cases h1:i<SetTable.below t.place j
 ·rw[if_pos h1] at hi' hy
  exact (g.wy i k y hi' hy).more hmk hmem
 ·rw[if_neg h1] at hi' hy
  by_cases h2:i=SetTable.below t.place j
  ·rw[if_pos h2] at hi' hy
   cases hi'
   cases hy
   exact w.more hmk hmem
  ·rw[if_neg h2] at hi' hy
   exact (g.wy (i-1) k y hi' hy).more hmk hmem
end SetT
namespace SetT
open PySem
def tm (mask:Nat):SetTable:={ mask:=mask,place:=#[],dummies:=#[],finger:=0,led:=false,moves:=0,plain:=true }
theorem run_le {mask i k:Nat}(hi:i<=mask) (hk:k<=SetTable.runEnd mask i-i):i+k<=mask:=by
 unfold SetTable.runEnd at hk
 split at hk<;>lia
theorem free_way {mask:Nat}{owner:Array (Option Nat)}:∀(f i p:Nat) (p0:SetTable.Probe) (j:Nat),i<=mask->Head (tm mask) i p none p0->SetTable.layClean.free mask owner f i p=some j ->
  ∃m,m<10*f/\(adv (tm mask) m p0).j=j/\j<=mask/\(owner.getD j (some 0)).isNone=true/\∀m',m'<m->(adv (tm mask) m' p0).j<=mask/\(owner.getD (adv (tm mask) m' p0).j (some 0)).isNone=false
 |0,i,p,p0,j,_,_,h=>by cases h
 |f+1,i,p,p0,j,hi,hd,h=>by
  unfold SetTable.layClean.free at h
  have hrl:=runEnd_le mask i
  have hat:∀k,k<=SetTable.runEnd mask i-i->(adv (tm mask) k p0).j=i+k:=λk hk=>by
   rw[adv_run (tm mask) k p0 (by rw[hd.e];exact hk),hd.e]
  have hge:i<=SetTable.runEnd mask i:=by unfold SetTable.runEnd;split<;>lia
  cases e:(List.range (SetTable.runEnd mask i+1-i)).find? λk=>(owner.getD (i+k) (some 0)).isNone with
  |some k=>
   rw[e] at h
   have hj:i+k=j:=Option.some.inj h
   obtain⟨h1,h2,h3⟩:=List.find?_range_eq_some.mp e
   have hk:k<=SetTable.runEnd mask i-i:=by have:=List.mem_range.mp h2;lia
   refine⟨k,by lia,by rw[hat k hk];exact hj,by rw[<- hj];exact run_le hi hk,by rw[<- hj];exact h1,λm' hm'=>?_⟩
   rw[hat m' (by lia)]
   refine⟨run_le hi (by lia),?_⟩
   have:=h3 m' hm'
   simpa using this
  |none=>
   rw[e] at h
   simp only at h
   have hall:∀k,k<=SetTable.runEnd mask i-i->(owner.getD (i+k) (some 0)).isNone=false:=λk hk=>by
    have h0:∀x∈List.range (SetTable.runEnd mask i+1-i),¬(owner.getD (i+x) (some 0)).isNone=true:=by simpa using e
    have:=h0 k (List.mem_range.mpr (by lia))
    exact Bool.eq_false_iff.mpr this
   have hnext:Head (tm mask) (SetTable.leap mask i p).1 (SetTable.leap mask i p).2 none (adv (tm mask) ((SetTable.runEnd mask i-i)+1) p0):=by
    refine⟨?_⟩
    rw[adv_add,adv_run (tm mask) _ p0 (by rw[hd.e];exact Nat.le_refl _)]
    show (tm mask).advance _=_
    rw[hd.e]
    unfold SetTable.advance
    rw[if_neg (by show ¬(SetTable.runEnd mask i-i)-(SetTable.runEnd mask i-i)>0;lia)]
    rfl
   have hl:(SetTable.leap mask i p).1<=mask:=by
    have:=Nat.mod_lt (i*5+1+p/32) (Nat.succ_pos mask)
    exact Nat.le_of_lt_succ this
   obtain⟨m,h1,h2,h3,h4,h5⟩:=free_way f _ _ _ j hl hnext h
   refine⟨(SetTable.runEnd mask i-i)+1+m,by lia,by rw[adv_add];exact h2,h3,h4,λm' hm'=>?_⟩
   by_cases hc:m'<=SetTable.runEnd mask i-i
   ·rw[hat m' hc]
    exact⟨run_le hi hc,hall m' hc⟩
   ·obtain⟨d,rfl⟩:∃d,m'=(SetTable.runEnd mask i-i)+1+d:=⟨m'-((SetTable.runEnd mask i-i)+1),by lia⟩
    rw[adv_add]
    exact h5 d (by lia)
def WayO (mask:Nat) (owner:Array (Option Nat)) (x:Int) (j:Nat):Prop:=∃m,m<10*SetTable.turns mask/\(adv (tm mask) m ((tm mask).probeStart x)).j=j/\∀m',m'<m->∃v:Nat,owner[(adv (tm mask) m' ((tm mask).probeStart x)).j]?=some (some v)
structure LaidW (mask:Nat) (owner:Array (Option Nat)) (hs:List Int) (K:Nat):Prop where
 sz:owner.size=mask+1
 wy:∀j k:Nat,owner[j]?=some (some k)->k<K/\∀x,hs[k]?=some x->WayO mask owner x j
theorem laidW_step {mask K:Nat}{owner:Array (Option Nat)}{hs:List Int}(g:LaidW mask owner hs K){x:Int}(hx:hs[K]?=some x){j:Nat}
  (h:SetTable.layClean.free mask owner (SetTable.turns mask) (SetTable.bits x%(mask+1)) (SetTable.bits x)=some j):LaidW mask (owner.setIfInBounds j (some K)) hs (K+1):=by
 obtain⟨m,h1,h2,h3,h4,h5⟩:=free_way (mask:=mask) (owner:=owner) (SetTable.turns mask) _ _ ((tm mask).probeStart x) j (Nat.le_of_lt_succ (Nat.mod_lt _ (Nat.succ_pos _))) ⟨rfl⟩ h
 have hjs:j<owner.size:=by rw[g.sz];lia
 have some':∀k:Nat,k<=mask->(owner.getD k (some 0)).isNone=false->∃v:Nat,owner[k]?=some (some v):=λk hk hn=>by
  have hks:k<owner.size:=by rw[g.sz];lia
  have e:owner.getD k (some 0)=owner[k]:=by simp[Array.getD,hks]
  rw[e] at hn
  cases ho:owner[k] with
  |none=>rw[ho] at hn;cases hn
  |some v=>exact⟨v,by rw[Array.getElem?_eq_getElem hks,ho]⟩
 have keep:∀k v:Nat,owner[k]?=some (some v)->∃v':Nat,(owner.setIfInBounds j (some K))[k]?=some (some v'):=λk v hk=>by
  rw[Array.getElem?_setIfInBounds]
  by_cases e:j=k
  ·rw[if_pos e,if_pos hjs]
   exact⟨K,rfl⟩
  ·rw[if_neg e]
   exact⟨v,hk⟩
 have up:∀y k,WayO mask owner y k->WayO mask (owner.setIfInBounds j (some K)) y k:=λy k ⟨a,b,c,d⟩=>⟨a,b,c,λm' hm'=>by
  obtain⟨v,hv⟩:=d m' hm'
  exact keep _ v hv⟩
 refine⟨by rw[Array.size_setIfInBounds];exact g.sz,λk v hk=>?_⟩
 rw[Array.getElem?_setIfInBounds] at hk
 by_cases e:j=k
 ·rw[if_pos e,if_pos hjs] at hk
  have ev:v=K:=by
   have:=Option.some.inj (Option.some.inj hk)
   exact this.symm
  subst ev
  refine⟨Nat.lt_succ_self _,λy hy=>?_⟩
  rw[hx] at hy
  cases hy
  rw[<- e]
  refine up x j ⟨m,h1,h2,λm' hm'=>?_⟩
  obtain⟨a,b⟩:=h5 m' hm'
  exact some' _ a b
 ·rw[if_neg e] at hk
  obtain⟨a,b⟩:=g.wy k v hk
  exact⟨by lia,λy hy=>up y k (b y hy)⟩
theorem layW_fold {mask:Nat}(all:List Int):∀(hs:List Int) (owner owner':Array (Option Nat)) (K K':Nat),LaidW mask owner all K->(∀i x,hs[i]?=some x->all[K+i]?=some x) ->
  (hs.foldl (λ(acc:Option (Array (Option Nat)×Nat)) (h:Int)=>do
   let (owner,k) <- acc
   let j <- SetTable.layClean.free mask owner (SetTable.turns mask) (SetTable.bits h%(mask+1)) (SetTable.bits h)
   pure (owner.setIfInBounds j (some k),k+1)) (some (owner,K)))=some (owner',K')->LaidW mask owner' all K'
 |[],owner,owner',K,K',g,_,e=>by
  have:=Option.some.inj e
  cases this
  exact g
 |h::hs,owner,owner',K,K',g,ha,e=>by
  rw[List.foldl_cons] at e
  have hx:=ha 0 h rfl
  rw[Nat.add_zero] at hx
  cases hf:SetTable.layClean.free mask owner (SetTable.turns mask) (SetTable.bits h%(mask+1)) (SetTable.bits h) with
  |none=>
   exfalso
   have e2:(hs.foldl (λ(acc:Option (Array (Option Nat)×Nat)) (h:Int)=>do
    let (owner,k) <- acc
    let j <- SetTable.layClean.free mask owner (SetTable.turns mask) (SetTable.bits h%(mask+1)) (SetTable.bits h)
    pure (owner.setIfInBounds j (some k),k+1)) none)=some (owner',K'):=by
    rw[<- e]
    congr 1
    show none=(SetTable.layClean.free mask owner (SetTable.turns mask) (SetTable.bits h%(mask+1)) (SetTable.bits h)).bind _
    rw[hf]
    rfl
   have no:∀l:List Int,(l.foldl (λ(acc:Option (Array (Option Nat)×Nat)) (h:Int)=>do
    let (owner,k) <- acc
    let j <- SetTable.layClean.free mask owner (SetTable.turns mask) (SetTable.bits h%(mask+1)) (SetTable.bits h)
    pure (owner.setIfInBounds j (some k),k+1)) none)=none:=λl=>by
    induction l with
    |nil=>rfl
    |cons a l ih=>rw[List.foldl_cons];exact ih
   rw[no] at e2
   cases e2
  |some j=>
   refine layW_fold all hs (owner.setIfInBounds j (some K)) owner' (K+1) K' (laidW_step g hx hf) (λi x hi=>?_) ?_
   ·have:=ha (i+1) x (by simpa using hi)
    rw[show K+1+i=K+(i+1) by lia]
    exact this
   ·rw[<- e]
    congr 1
    show some _=(SetTable.layClean.free mask owner (SetTable.turns mask) (SetTable.bits h%(mask+1)) (SetTable.bits h)).bind _
    rw[hf]
    rfl
theorem layW_all {mask:Nat}{hs:Array Int}{owner:Array (Option Nat)}(h:SetTable.layClean mask hs=some owner):LaidW mask owner hs.toList hs.size:=by
 unfold SetTable.layClean at h
 rw[<- Array.foldl_toList] at h
 obtain⟨⟨o,K'⟩,e,rfl⟩:=Option.map_eq_some_iff.mp h
 have g0:LaidW mask (Array.replicate (mask+1) none) hs.toList 0:=⟨by simp,λj k hk=>by
  rw[Array.getElem?_replicate] at hk
  split at hk<;>cases hk⟩
 have g:=layW_fold hs.toList hs.toList _ o 0 K' g0 (λi x hi=>by rw[Nat.zero_add];exact hi) e
 refine⟨g.sz,λj k hk=>?_⟩
 obtain⟨a,b⟩:=g.wy j k hk
 have cnt:∀(l:List Int) (o o':Array (Option Nat)) (K K':Nat),(l.foldl (λ(acc:Option (Array (Option Nat)×Nat)) (h:Int)=>do
   let (owner,k) <- acc
   let j <- SetTable.layClean.free mask owner (SetTable.turns mask) (SetTable.bits h%(mask+1)) (SetTable.bits h)
   pure (owner.setIfInBounds j (some k),k+1)) (some (o,K)))=some (o',K')->K'=K+l.length:=λl=>by
  induction l with
  |nil=>intro o o' K K' e;have:=Option.some.inj e;cases this;rfl
  |cons x l ih=>
   intro o o' K K' e
   rw[List.foldl_cons] at e
   cases hf:SetTable.layClean.free mask o (SetTable.turns mask) (SetTable.bits x%(mask+1)) (SetTable.bits x) with
   |none=>
    exfalso
    have no:∀l:List Int,(l.foldl (λ(acc:Option (Array (Option Nat)×Nat)) (h:Int)=>do
     let (owner,k) <- acc
     let j <- SetTable.layClean.free mask owner (SetTable.turns mask) (SetTable.bits h%(mask+1)) (SetTable.bits h)
     pure (owner.setIfInBounds j (some k),k+1)) none)=none:=λl=>by
     induction l with
     |nil=>rfl
     |cons a l ih=>rw[List.foldl_cons];exact ih
    have e2:(SetTable.layClean.free mask o (SetTable.turns mask) (SetTable.bits x%(mask+1)) (SetTable.bits x)).bind (λj=>some (o.setIfInBounds j (some K),K+1))=none:=by rw[hf];rfl
    have e3:(l.foldl (λ(acc:Option (Array (Option Nat)×Nat)) (h:Int)=>do
     let (owner,k) <- acc
     let j <- SetTable.layClean.free mask owner (SetTable.turns mask) (SetTable.bits h%(mask+1)) (SetTable.bits h)
     pure (owner.setIfInBounds j (some k),k+1)) ((SetTable.layClean.free mask o (SetTable.turns mask) (SetTable.bits x%(mask+1)) (SetTable.bits x)).bind (λj=>some (o.setIfInBounds j (some K),K+1))))=some (o',K'):=e
    rw[e2,no] at e3
    cases e3
   |some j=>
    have e3:(l.foldl (λ(acc:Option (Array (Option Nat)×Nat)) (h:Int)=>do
     let (owner,k) <- acc
     let j <- SetTable.layClean.free mask owner (SetTable.turns mask) (SetTable.bits h%(mask+1)) (SetTable.bits h)
     pure (owner.setIfInBounds j (some k),k+1)) ((SetTable.layClean.free mask o (SetTable.turns mask) (SetTable.bits x%(mask+1)) (SetTable.bits x)).bind (λj=>some (o.setIfInBounds j (some K),K+1))))=some (o',K'):=e
    rw[hf] at e3
    have:=ih _ _ _ _ e3
    rw[this,List.length_cons]
    lia
 have hK:=cnt _ _ _ _ _ e
 rw[Nat.zero_add,Array.length_toList] at hK
 exact⟨by lia,b⟩
theorem live_at (owner:Array (Option Nat)):∀(n:Nat),(∀i j k:Nat,((List.range n).filterMap λj=>(owner.getD j none).map (λv=>(j,v)))[i]?=some (j,k)->j<n/\owner[j]?=some (some k)) /\
  (∀(i i':Nat) (p p':Nat×Nat),i<i'->((List.range n).filterMap λj=>(owner.getD j none).map (λv=>(j,v)))[i]?=some p->((List.range n).filterMap λj=>(owner.getD j none).map (λv=>(j,v)))[i']?=some p'->p.1<p'.1) /\
  (∀j k:Nat,j<n->owner[j]?=some (some k)->∃i:Nat,((List.range n).filterMap λj=>(owner.getD j none).map (λv=>(j,v)))[i]?=some (j,k))
 |0=>⟨λi j k h=>by simp at h,λi i' p p' _ h=>by simp at h,λj k h=>absurd h (Nat.not_lt_zero _)⟩
 |n+1=>by
  obtain⟨h1,h2,h3⟩:=live_at owner n
  rw[List.range_succ,List.filterMap_append]
  generalize hL:((List.range n).filterMap λj=>(owner.getD j none).map (λv=>(j,v)))=L at h1 h2 h3
  have hget:∀v,owner.getD n none=some v->owner[n]?=some (some v):=λv hv=>by
   by_cases hn:n<owner.size
   ·have e:owner.getD n none=owner[n]:=by simp[Array.getD,hn]
    rw[Array.getElem?_eq_getElem hn,<- e,hv]
   ·have e:owner.getD n none=none:=by simp[Array.getD,hn]
    rw[e] at hv;cases hv
  cases ho:owner.getD n none with
  |none=>
   have e:[n].filterMap (λj=>(owner.getD j none).map (λv=>(j,v)))=[]:=by
    rw[List.filterMap_cons,ho];rfl
   rw[e,List.append_nil]
   refine⟨λi j k h=>⟨Nat.lt_succ_of_lt (h1 i j k h).1,(h1 i j k h).2⟩,h2,λj k hj hk=>?_⟩
   by_cases ej:j=n
   ·subst ej
    have hn:=(Array.getElem?_eq_some_iff.mp hk).1
    have e:owner.getD j none=owner[j]:=by simp[Array.getD,hn]
    rw[Array.getElem?_eq_getElem hn] at hk
    rw[e,Option.some.inj hk] at ho
    cases ho
   ·exact h3 j k (by lia) hk
  |some v=>
   have e:[n].filterMap (λj=>(owner.getD j none).map (λv=>(j,v)))=[(n,v)]:=by
    rw[List.filterMap_cons,ho];rfl
   rw[e]
   have inL:∀(i:Nat) p,L[i]?=some p->p.1<n:=λi p h=>(h1 i p.1 p.2 h).1
   refine⟨λi j k h=>?_,λi i' p p' hii h h'=>?_,λj k hj hk=>?_⟩
   ·by_cases hi:i<L.length
    ·rw[List.getElem?_append_left hi] at h
     exact⟨Nat.lt_succ_of_lt (h1 i j k h).1,(h1 i j k h).2⟩
    ·rw[List.getElem?_append_right (by lia)] at h
     have:i-L.length=0:=by
      have:=(List.getElem?_eq_some_iff.mp h).1
      simp at this
      lia
     rw[this] at h
     have h:=Option.some.inj h
     cases h
     exact⟨Nat.lt_succ_self _,hget v ho⟩
   ·have hi':=(List.getElem?_eq_some_iff.mp h').1
    rw[List.length_append] at hi'
    have hi':i'<L.length+1:=hi'
    rw[List.getElem?_append_left (by lia)] at h
    by_cases hc:i'<L.length
    ·rw[List.getElem?_append_left hc] at h'
     exact h2 i i' p p' hii h h'
    ·rw[List.getElem?_append_right (by lia)] at h'
     have e0:i'-L.length=0:=by lia
     rw[e0] at h'
     have h':=Option.some.inj h'
     rw[<- h']
     exact inL i p h
   ·by_cases ej:j=n
    ·subst ej
     have:=hget v ho
     rw[this] at hk
     cases hk
     exact⟨L.length,by rw[List.getElem?_append_right (Nat.le_refl _),Nat.sub_self];rfl⟩
    ·obtain⟨i,hi⟩:=h3 j k (by lia) hk
     exact⟨i,by rw[List.getElem?_append_left (List.getElem?_eq_some_iff.mp hi).1];exact hi⟩
theorem pick_at {α:Type}{es:Array α}{order:Array Nat}(h:∀v∈order,v<es.size){i k:Nat}(e:order[i]?=some k):(order.filterMap (es[·]?))[i]?=es[k]?:=by
 have key:∀(l:List Nat),(∀v∈l,v<es.size)->∀i k:Nat,l[i]?=some k->(l.filterMap (es[·]?))[i]?=es[k]?:=λl=>by
  induction l with
  |nil=>intro _ i k e;simp at e
  |cons a l ih=>
   intro hh i k e
   have ha:=hh a List.mem_cons_self
   rw[List.filterMap_cons,show es[a]?=some es[a] by simp[ha]]
   simp only
   cases i with
   |zero=>
    have:a=k:=by simpa using e
    subst this
    simp[ha]
   |succ i=>
    rw[List.getElem?_cons_succ] at e ⊢
    exact ih (λv hv=>hh v (List.mem_cons_of_mem _ hv)) i k e
 have:=key order.toList (λv hv=>h v (by simpa using hv)) i k (by rw[Array.getElem?_toList];exact e)
 rw[<- Array.getElem?_toList,Array.toList_filterMap]
 exact this
theorem laid_good {mask finger moves:Nat}{led plain:Bool}{hs:Array Int}{t:SetTable}{order:Array Nat}(e:SetTable.laid mask finger moves led plain hs=some (t,order)) (gr:Grown t hs.size) (ho:∀v∈order,v<hs.size) (hz:order.size=hs.size) :
  Good t (order.filterMap (hs[·]?)):=by
 unfold SetTable.laid at e
 cases hl:SetTable.layClean mask hs with
 |none=>rw[hl] at e;cases e
 |some owner=>
  rw[hl] at e
  have e:=Option.some.inj e
  have g:=layW_all hl
  obtain⟨h1,h2,h3⟩:=live_at owner (mask+1)
  have et:t={ mask:=mask,place:=((((List.range (mask+1)).filterMap λj=>(owner.getD j none).map (λv=>(j,v))).map (·.1)).toArray),dummies:=#[],finger:=finger,led:=led,moves:=moves,plain:=plain }:=(Prod.mk.inj e).1.symm
  have eo:order=((((List.range (mask+1)).filterMap λj=>(owner.getD j none).map (λv=>(j,v))).map (·.2)).toArray):=(Prod.mk.inj e).2.symm
  generalize ((List.range (mask+1)).filterMap λj=>(owner.getD j none).map (λv=>(j,v)))=L at h1 h2 h3 et eo
  have hpl:∀i j:Nat,t.place[i]?=some j<->∃k,L[i]?=some (j,k):=λi j=>by
   rw[et]
   show ((L.map (·.1)).toArray)[i]?=some j<->_
   rw[List.getElem?_toArray,List.getElem?_map]
   constructor
   ·intro h
    obtain⟨p,hp,rfl⟩:=Option.map_eq_some_iff.mp h
    exact⟨p.2,hp⟩
   ·rintro⟨k,h⟩
    rw[h];rfl
  have hmk:t.mask=mask:=by rw[et]
  refine⟨?_,rise_of λa b x y hab ea eb=>?_,λi j x hi hx=>?_⟩
  ·rw[size_pick ho,hz]
   exact gr
  ·obtain⟨k,hk⟩:=(hpl a x).mp ea
   obtain⟨k',hk'⟩:=(hpl b y).mp eb
   exact h2 a b _ _ hab hk hk'
  ·obtain⟨k,hk⟩:=(hpl i j).mp hi
   have hok:order[i]?=some k:=by
    rw[eo,List.getElem?_toArray,List.getElem?_map,hk];rfl
   rw[pick_at ho hok] at hx
   obtain⟨_,b⟩:=g.wy j k (h1 i j k hk).2
   obtain⟨m,w1,w2,w3⟩:=b x (by rw[Array.getElem?_toList];exact hx)
   have hmk':(tm mask).mask=t.mask:=hmk.symm
   refine⟨m,by rw[hmk];exact w1,?_,λm' hm'=>?_⟩
   ·rw[<- start_mask hmk',<- adv_mask hmk'];exact w2
   ·obtain⟨v,hv⟩:=w3 m' hm'
    rw[<- start_mask hmk',<- adv_mask hmk']
    have hlt:(adv (tm mask) m' ((tm mask).probeStart x)).j<mask+1:=by
     have:=(Array.getElem?_eq_some_iff.mp hv).1
     rw[g.sz] at this
     exact this
    obtain⟨i',hi'⟩:=h3 _ v hlt hv
    exact⟨i',(hpl i' _).mpr ⟨v,hi'⟩⟩
end SetT
namespace SetT
open PySem PySem.Spec PyProof.Rows
theorem go_way {t:SetTable}(hd:t.dummies=#[]) (f:Nat->Int) (h:Int) (st:SetTable.Probe):∀(fuel m0 M:Nat),M-m0<fuel->m0<=M->st.dummy=none->t.slot (adv t M st).j=.empty ->
  (∃m1 j,m0<=m1/\m1<=M/\SetTable.probe.go t f h fuel (adv t m0 st)=some (.empty j none)/\(adv t m1 st).j=j/\t.slot j=.empty/\∀m',m0<=m'->m'<m1->∃i:Nat,t.place[i]?=some (adv t m' st).j/\f i≠h) \/
  (∃m1 j i,m0<=m1/\m1<M/\SetTable.probe.go t f h fuel (adv t m0 st)=some (.candidate j i (adv t (m1+1) st))/\(adv t m1 st).j=j/\t.slot j=.live i/\t.place[i]?=some j/\f i=h/\∀m',m0<=m'->m'<m1->∃i:Nat,t.place[i]?=some (adv t m' st).j/\f i≠h)
 |0,m0,M,h1,_,_,_=>absurd h1 (Nat.not_lt_zero _)
 |fuel+1,m0,M,h1,h2,hp,he=>by
  unfold SetTable.probe.go
  have hdm:(adv t m0 st).dummy=none:=by rw[adv_dummy];exact hp
  have hnx:t.advance (adv t m0 st)=adv t (m0+1) st:=by rw[adv_add];rfl
  rcases slot_of hd (adv t m0 st).j with e|⟨i,e,e2⟩
  ·rw[e]
   exact .inl ⟨m0,_,Nat.le_refl _,h2,by rw[hdm],rfl,e,λm' a b=>absurd a (by lia)⟩
  ·rw[e]
   have hlt:m0<M:=by
    rcases Nat.lt_or_ge m0 M with z|z
    ·exact z
    ·have:m0=M:=by lia
     subst this
     rw[e] at he;cases he
   by_cases hc:f i==h
   ·refine .inr ⟨m0,_,i,Nat.le_refl _,hlt,?_,rfl,e,e2,by simpa using hc,λm' a b=>absurd a (by lia)⟩
    simp only
    rw[if_pos hc,hnx]
   ·simp only
    rw[if_neg hc,hnx]
    have ext:∀m1,(∀m',m0+1<=m'->m'<m1->∃i:Nat,t.place[i]?=some (adv t m' st).j/\f i≠h)->∀m',m0<=m'->m'<m1->∃i:Nat,t.place[i]?=some (adv t m' st).j/\f i≠h:=λm1 hh m' a b=>by
     by_cases z:m'=m0
     ·subst z
      exact⟨i,e2,by simpa using hc⟩
     ·exact hh m' (by lia) b
    rcases go_way hd f h st fuel (m0+1) M (by lia) hlt hp he with ⟨m1,j,a,b,c,d,e',g⟩|⟨m1,j,i',a,b,c,d,e',g,k,l⟩
    ·exact .inl ⟨m1,j,by lia,b,c,d,e',ext m1 g⟩
    ·exact .inr ⟨m1,j,i',by lia,b,c,d,e',g,k,ext m1 l⟩
theorem probe_way {t:SetTable}{f:Nat->Int}{h:Int}{st:SetTable.Probe}{pr:Option SetTable.Met}{m0 M:Nat}(hp:t.probe f h (adv t m0 st)=pr) (hd:t.dummies=#[]) (hM:M<10*SetTable.turns t.mask) (h2:m0<=M) (hdm:st.dummy=none) (he:t.slot (adv t M st).j=.empty)
  {es:Array (Int×Value)}(hf:∀(i:Nat) e,es[i]?=some e->f i=e.1) (hpl:t.place.size=es.size) :
  (∃m1 j,m0<=m1/\m1<=M/\pr=some (.empty j none)/\(adv t m1 st).j=j/\t.slot j=.empty/\∀m',m0<=m'->m'<m1->∃i:Nat,t.place[i]?=some (adv t m' st).j/\∀e,es[i]?=some e->e.1≠h) \/
  (∃m1 j i,m0<=m1/\m1<M/\pr=some (.candidate j i (adv t (m1+1) st))/\(adv t m1 st).j=j/\t.slot j=.live i/\t.place[i]?=some j/\(∀e,es[i]?=some e->e.1=h)/\∀m',m0<=m'->m'<m1->∃i:Nat,t.place[i]?=some (adv t m' st).j/\∀e,es[i]?=some e->e.1≠h):=by
 subst hp
 rcases go_way hd f h st (10*SetTable.turns t.mask) m0 M (by lia) h2 hdm he with ⟨m1,j,a,b,c,d,e',g⟩|⟨m1,j,i',a,b,c,d,e',g,k,l⟩
 ·exact .inl ⟨m1,j,a,b,c,d,e',λm' x y=>let ⟨i,p,q⟩:=g m' x y;⟨i,p,λe z w=>q (by rw[hf i e z];exact w)⟩⟩
 ·exact .inr ⟨m1,j,i',a,b,c,d,e',g,λe z=>by rw[<- hf i' e z];exact k,λm' x y=>let ⟨i,p,q⟩:=l m' x y;⟨i,p,λe z w=>q (by rw[hf i e z];exact w)⟩⟩
section
variable {prog:Program}{w:World}{K:Type}[DecidableEq K]{knd:KeyKind prog w K}{A:Around}{E:Value->Shared->Prop}{s:Shared}
theorem absent {t:SetTable}{es:Array (Int×Value)}{ks:List K}{h:Heap}(G:Good t (es.map (·.1))) (hel:∀(i:Nat) e,es[i]?=some e->∃b' k',e.2=.ref b'/\IsTupleKey knd h k' b'/\e.1=tupleKeyHash knd k'){m1 j:Nat}(a4:(adv t m1 (t.probeStart (tupleKeyHash knd ks))).j=j) (a5:t.slot j=.empty)
  (a6:∀m',m'<m1->∃i:Nat,t.place[i]?=some (adv t m' (t.probeStart (tupleKeyHash knd ks))).j/\∀e b',es[i]?=some e->e.2=.ref b'->¬IsTupleKey knd h ks b') :
  ∀(i:Nat) e b',es[i]?=some e->e.2=.ref b'->¬IsTupleKey knd h ks b':=by
 intro i e b' x1 x2 x3
 have g:Grown t es.size:=by have:=G.gr;rw[Array.size_map] at this;exact this
 obtain⟨b0,k0,y1,y2,y3⟩:=hel i e x1
 rw[x2] at y1
 cases y1
 have ek:k0=ks:=y2.inj x3
 subst ek
 have hi:i<t.place.size:=by rw[g.pl];exact (Array.getElem?_eq_some_iff.mp x1).1
 have hpi:t.place[i]?=some t.place[i]:=Array.getElem?_eq_getElem hi
 obtain⟨m,w1,w2,w3⟩:=G.wy i _ e.1 hpi (by rw[Array.getElem?_map,x1];rfl)
 rw[y3] at w2 w3
 rcases Nat.lt_trichotomy m m1 with z|z|z
 ·obtain⟨i',p1,p2⟩:=a6 m z
  rw[w2] at p1
  have e1:=slot_at G.ri p1
  have e2:=slot_at G.ri hpi
  rw[e1] at e2
  cases e2
  exact p2 e b' x1 x2 x3
 ·subst z
  rw[w2] at a4
  rw[<- a4,slot_at G.ri hpi] at a5
  cases a5
 ·obtain⟨i',p1⟩:=w3 m1 z
  rw[a4] at p1
  rw[slot_at G.ri p1] at a5
  cases a5
theorem search2 {a b:Addr}{o:Obj}{es:Array (Int×Value)}{ep:Nat}{t:SetTable}{ks:List K}{Q:SetFound->Shared->Prop}(hu:A.units<cLine)
  (ho:s.heap.get? a=some o) (hd:o.data=.set es ep t) (G:Good t (es.map (·.1))) (hk:IsTupleKey knd s.heap ks b)
  (hel:∀(i:Nat) e,es[i]?=some e->∃b' k',e.2=.ref b'/\IsTupleKey knd s.heap k' b'/\e.1=tupleKeyHash knd k')
  (there:(∃(i:Nat) (e:Int×Value) (b':Addr),es[i]?=some e/\e.2=.ref b'/\IsTupleKey knd s.heap ks b')->Q (.there none) s)
  (free:∀j,(∀(i:Nat) e b',es[i]?=some e->e.2=.ref b'->¬IsTupleKey knd s.heap ks b')->Way t (tupleKeyHash knd ks) j->(∀i:Nat,t.place[i]?≠some j)->Q (.free j false) s)
  {M:Nat}(hM:M<10*SetTable.turns t.mask) (hMe:t.slot (adv t M (t.probeStart (tupleKeyHash knd ks))).j=.empty) :
  ∀(d m0 fuel:Nat) (stand:Option SetTable.Probe),M-m0<=d->m0<=M->d<fuel->stand.getD (t.probeStart (tupleKeyHash knd ks))=adv t m0 (t.probeStart (tupleKeyHash knd ks)) ->
   (∀m',m'<m0->∃i:Nat,t.place[i]?=some (adv t m' (t.probeStart (tupleKeyHash knd ks))).j/\∀e b',es[i]?=some e->e.2=.ref b'->¬IsTupleKey knd s.heap ks b') ->
   wpAny (model prog w) A (setSearchFrom a (.ref b) (tupleKeyHash knd ks) true fuel stand) Q E s:=by
 have g:Grown t es.size:=by have:=G.gr;rw[Array.size_map] at this;exact this
 intro d
 induction d with
 |zero=>
  intro m0 fuel stand h1 h2 h3 hst hps
  have em:m0=M:=by lia
  subst em
  cases fuel with
  |zero=>exact absurd h3 (Nat.not_lt_zero _)
  |succ fuel=>
   unfold setSearchFrom
   refine wpAny_bind (wpAny_setState_of ho hd g.fits ?_)
   dsimp only
   rw[g.way]
   simp only[Bool.false_eq_true,if_false]
   rw[hst]
   split
   ·rename_i met hp
    rcases probe_way hp g.du hM (Nat.le_refl _) rfl hMe (es:=es) (λi e he=>by show (es[i]?.map (·.1)).getD 0=e.1;rw[he];rfl) g.pl with ⟨m1,j,a1,a2,a3,a4,a5,a6⟩|⟨m1,j,i,a1,a2,_⟩
    ·cases a3
     dsimp only
     refine wpAny_pure ?_
     have e1:m1=m0:=by lia
     subst e1
     have nj:∀i:Nat,t.place[i]?≠some j:=λi z=>by rw[slot_at G.ri z] at a5;cases a5
     exact free j (absent G hel a4 a5 hps) ⟨m1,hM,a4,λm' hm'=>let ⟨i,hi,_⟩:=hps m' hm';⟨i,hi⟩⟩ nj
    ·lia
   ·rename_i hp
    exact Or.elim (probe_way rfl g.du hM (Nat.le_refl _) rfl hMe (es:=es) (λi e he=>by show (es[i]?.map (·.1)).getD 0=e.1;rw[he];rfl) g.pl) (λ⟨_,_,_,_,e,_⟩=>(hp _ e).elim) (λ⟨_,_,_,_,_,e,_⟩=>(hp _ e).elim)
 |succ d ih=>
  intro m0 fuel stand h1 h2 h3 hst hps
  cases fuel with
  |zero=>exact absurd h3 (Nat.not_lt_zero _)
  |succ fuel=>
   unfold setSearchFrom
   refine wpAny_bind (wpAny_setState_of ho hd g.fits ?_)
   dsimp only
   rw[g.way]
   simp only[Bool.false_eq_true,if_false]
   rw[hst]
   split
   rotate_left
   ·rename_i hp
    exact Or.elim (probe_way rfl g.du hM h2 rfl hMe (es:=es) (λi e he=>by show (es[i]?.map (·.1)).getD 0=e.1;rw[he];rfl) g.pl) (λ⟨_,_,_,_,e,_⟩=>(hp _ e).elim) (λ⟨_,_,_,_,_,e,_⟩=>(hp _ e).elim)
   rename_i met hp
   rcases probe_way hp g.du hM h2 rfl hMe (es:=es) (λi e he=>by show (es[i]?.map (·.1)).getD 0=e.1;rw[he];rfl) g.pl with ⟨m1,j,a1,a2,a3,a4,a5,a6⟩|⟨m1,j,i,a1,a2,a3,a4,a5,a6,a7,a8⟩
   ·cases a3
    dsimp only
    refine wpAny_pure ?_
    have nj:∀i:Nat,t.place[i]?≠some j:=λi z=>by rw[slot_at G.ri z] at a5;cases a5
    have all:∀m',m'<m1->∃i:Nat,t.place[i]?=some (adv t m' (t.probeStart (tupleKeyHash knd ks))).j/\∀e b',es[i]?=some e->e.2=.ref b'->¬IsTupleKey knd s.heap ks b':=λm' hm'=>by
     by_cases z:m'<m0
     ·exact hps m' z
     ·obtain⟨i',hi',hf⟩:=a6 m' (by lia) hm'
      refine⟨i',hi',λe c x1 x2 x3=>hf e x1 ?_⟩
      obtain⟨c',kc,y1,y2,y3⟩:=hel i' e x1
      rw[x2] at y1
      cases y1
      rw[y3,y2.inj x3]
    exact free j (absent G hel a4 a5 all) ⟨m1,by lia,a4,λm' hm'=>let ⟨i,hi,_⟩:=all m' hm';⟨i,hi⟩⟩ nj
   ·cases a3
    dsimp only
    have hi:i<es.size:=by
     have:=(Array.getElem?_eq_some_iff.mp a6).1
     rw[g.pl] at this
     exact this
    obtain⟨b',k',e2,hk',e3⟩:=hel i es[i] (Array.getElem?_eq_getElem hi)
    have hei:es[i]?=some (es[i].1,.ref b'):=by
     rw[<- e2]
     simp[hi]
    have sm:t.sameMemory t.moves t.mask=some true:=by
     unfold SetTable.sameMemory
     rw[if_pos (by simp)]
    have seen:∀y∈(es.filter (·.1==tupleKeyHash knd ks)).toList.map (·.2),∃b ks',y=.ref b/\IsTupleKey knd s.heap ks' b:=λy hy=>by
     obtain⟨e,he',rfl⟩:=List.mem_map.mp hy
     have:e∈es:=(Array.mem_filter.mp (show e∈es.filter (·.1==tupleKeyHash knd ks) by simpa using he')).1
     obtain⟨n,hn,en⟩:=Array.mem_iff_getElem.mp this
     obtain⟨b'',ks'',x1,x2,_⟩:=hel n e (by rw[Array.getElem?_eq_getElem hn,en])
     exact⟨b'',ks'',x1,x2⟩
    have nx:k'≠ks->wpAny (model prog w) A (setSearchFrom a (.ref b) (tupleKeyHash knd ks) true fuel (some (adv t (m1+1) (t.probeStart (tupleKeyHash knd ks))))) Q E s:=λhne=>by
     refine ih (m1+1) fuel _ (by lia) (by lia) (by lia) rfl λm' hm'=>?_
     by_cases z:m'<m0
     ·exact hps m' z
     ·by_cases z2:m'=m1
      ·subst z2
       refine⟨i,by rw[a4];exact a6,λe c x1 x2 x3=>hne ?_⟩
       rw[hei] at x1
       cases x1
       cases x2
       exact hk'.inj x3
      ·obtain⟨i',hi',hf⟩:=a8 m' (by lia) (by lia)
       refine⟨i',hi',λe c x1 x2 x3=>hf e x1 ?_⟩
       obtain⟨c',kc,y1,y2,y3⟩:=hel i' e x1
       rw[x2] at y1
       cases y1
       rw[y3,y2.inj x3]
    have yes:k'=ks->Q (.there none) s:=λhe=>there ⟨i,_,b',hei,rfl,by rw[<- he];exact hk'⟩
    cases hl:t.led with
    |false=>
     simp only[Bool.not_false,if_true]
     refine wpAny_bind (unseen hk ?_ seen)
     simp only[Bool.false_eq_true,if_false]
     rw[hei]
     dsimp only
     refine wpAny_bind (wpAny_holding (wpAny_eqBool_tuple hu hk' hk ?_))
     by_cases hne:k'=ks
     ·rw[decide_eq_true hne]
      refine wpAny_bind (wpAny_setState_of ho hd g.fits ?_)
      dsimp only
      simp only[Bool.and_self,if_true]
      exact wpAny_pure (yes hne)
     ·rw[decide_eq_false hne]
      refine wpAny_bind (wpAny_setState_of ho hd g.fits ?_)
      dsimp only
      simp only[Bool.and_false,Bool.false_eq_true,if_false]
      rw[sm]
      dsimp only
      simp only[if_true]
      rw[a5]
      dsimp only
      rw[hei]
      dsimp only
      refine wpAny_bind (wpAny_isSame_ref_self ?_)
      refine wpAny_bind (wpAny_pure ?_)
      simp only[if_true]
      exact nx hne
    |true=>
     simp only[Bool.not_true,Bool.false_eq_true,if_false]
     rw[hei]
     dsimp only
     refine wpAny_bind (wpAny_holding (wpAny_eqBool_tuple hu hk' hk ?_))
     by_cases hne:k'=ks
     ·rw[decide_eq_true hne]
      refine wpAny_bind (wpAny_setState_of ho hd g.fits ?_)
      dsimp only
      simp only[Bool.and_self,if_true]
      exact wpAny_pure (yes hne)
     ·rw[decide_eq_false hne]
      refine wpAny_bind (wpAny_setState_of ho hd g.fits ?_)
      dsimp only
      simp only[Bool.and_false,Bool.false_eq_true,if_false]
      rw[sm]
      dsimp only
      simp only[if_true]
      rw[a5]
      dsimp only
      rw[hei]
      dsimp only
      refine wpAny_bind (wpAny_isSame_ref_self ?_)
      refine wpAny_bind (wpAny_pure ?_)
      simp only[if_true]
      exact nx hne
end
end SetT
namespace SetT
open PySem
theorem fold_inv {mask:Nat}(P:Array (Option Nat)->Nat->Prop) (step:∀o K x j,P o K->SetTable.layClean.free mask o (SetTable.turns mask) (SetTable.bits x%(mask+1)) (SetTable.bits x)=some j->P (o.setIfInBounds j (some K)) (K+1)) :
  ∀(hs:List Int) (o o':Array (Option Nat)) (K K':Nat),P o K ->
  (hs.foldl (λ(acc:Option (Array (Option Nat)×Nat)) (h:Int)=>do
   let (owner,k) <- acc
   let j <- SetTable.layClean.free mask owner (SetTable.turns mask) (SetTable.bits h%(mask+1)) (SetTable.bits h)
   pure (owner.setIfInBounds j (some k),k+1)) (some (o,K)))=some (o',K')->P o' K'/\K'=K+hs.length
 |[],o,o',K,K',p,e=>by
  have:=Option.some.inj e
  cases this
  exact⟨p,rfl⟩
 |x::hs,o,o',K,K',p,e=>by
  rw[List.foldl_cons] at e
  have e3:(hs.foldl (λ(acc:Option (Array (Option Nat)×Nat)) (h:Int)=>do
     let (owner,k) <- acc
     let j <- SetTable.layClean.free mask owner (SetTable.turns mask) (SetTable.bits h%(mask+1)) (SetTable.bits h)
     pure (owner.setIfInBounds j (some k),k+1)) ((SetTable.layClean.free mask o (SetTable.turns mask) (SetTable.bits x%(mask+1)) (SetTable.bits x)).bind (λj=>some (o.setIfInBounds j (some K),K+1))))=some (o',K'):=e
  cases hf:SetTable.layClean.free mask o (SetTable.turns mask) (SetTable.bits x%(mask+1)) (SetTable.bits x) with
  |none=>
   exfalso
   have no:∀l:List Int,(l.foldl (λ(acc:Option (Array (Option Nat)×Nat)) (h:Int)=>do
     let (owner,k) <- acc
     let j <- SetTable.layClean.free mask owner (SetTable.turns mask) (SetTable.bits h%(mask+1)) (SetTable.bits h)
     pure (owner.setIfInBounds j (some k),k+1)) none)=none:=λl=>by
    induction l with
    |nil=>rfl
    |cons a l ih=>rw[List.foldl_cons];exact ih
   rw[hf] at e3
   have e4:=no hs
   rw[show (none:Option Nat).bind (λj=>some (o.setIfInBounds j (some K),K+1))=none from rfl,e4] at e3
   cases e3
  |some j=>
   rw[hf] at e3
   obtain⟨a,b⟩:=fold_inv P step hs (o.setIfInBounds j (some K)) o' (K+1) K' (step o K x j p hf) e3
   exact⟨a,by rw[b,List.length_cons];lia⟩
theorem lay_cover {mask:Nat}{hs:Array Int}{owner:Array (Option Nat)}(h:SetTable.layClean mask hs=some owner):owner.size=mask+1/\∀k,k<hs.size->∃j:Nat,owner[j]?=some (some k):=by
 unfold SetTable.layClean at h
 rw[<- Array.foldl_toList] at h
 obtain⟨⟨o,K'⟩,e,rfl⟩:=Option.map_eq_some_iff.mp h
 obtain⟨⟨a,b⟩,c⟩:=fold_inv (λo K=>o.size=mask+1/\∀k,k<K->∃j:Nat,o[j]?=some (some k)) (λo K x j p hf=>by
  obtain⟨p1,p2⟩:=p
  obtain⟨m,h1,h2,h3,h4,h5⟩:=free_way (mask:=mask) (owner:=o) (SetTable.turns mask) _ _ ((tm mask).probeStart x) j (Nat.le_of_lt_succ (Nat.mod_lt _ (Nat.succ_pos _))) ⟨rfl⟩ hf
  have hjs:j<o.size:=by lia
  have ej:o.getD j (some 0)=o[j]:=by simp[Array.getD,hjs]
  rw[ej] at h4
  refine⟨by rw[Array.size_setIfInBounds];exact p1,λk hk=>?_⟩
  by_cases z:k=K
  ·exact⟨j,by rw[Array.getElem?_setIfInBounds,if_pos rfl,if_pos hjs,z]⟩
  ·obtain⟨j',hj'⟩:=p2 k (by lia)
   refine⟨j',?_⟩
   rw[Array.getElem?_setIfInBounds]
   by_cases y:j=j'
   ·subst y
    rw[Array.getElem?_eq_getElem hjs] at hj'
    rw[Option.some.inj hj'] at h4
    cases h4
   ·rw[if_neg y];exact hj') hs.toList _ o 0 K' ⟨by simp,λk hk=>absurd hk (Nat.not_lt_zero _)⟩ e
 refine⟨a,λk hk=>b k ?_⟩
 rw[c,Nat.zero_add,Array.length_toList];exact hk
theorem laid_cover {mask finger moves:Nat}{led plain:Bool}{hs:Array Int}{t:SetTable}{order:Array Nat}(e:SetTable.laid mask finger moves led plain hs=some (t,order)):∀k,k<hs.size->∃i:Nat,order[i]?=some k:=by
 unfold SetTable.laid at e
 cases hl:SetTable.layClean mask hs with
 |none=>rw[hl] at e;cases e
 |some owner=>
  rw[hl] at e
  have e:=Option.some.inj e
  obtain⟨sz,cv⟩:=lay_cover hl
  obtain⟨h1,h2,h3⟩:=live_at owner (mask+1)
  have eo:order=((((List.range (mask+1)).filterMap λj=>(owner.getD j none).map (λv=>(j,v))).map (·.2)).toArray):=(Prod.mk.inj e).2.symm
  intro k hk
  obtain⟨j,hj⟩:=cv k hk
  have hlt:=(Array.getElem?_eq_some_iff.mp hj).1
  obtain⟨i,hi⟩:=h3 j k (by lia) hj
  exact⟨i,by rw[eo,List.getElem?_toArray,List.getElem?_map,hi];rfl⟩
end SetT
namespace SetT
open PySem PySem.Spec PyProof.Rows
section
variable {prog:Program}{w:World}{K:Type}[DecidableEq K]{knd:KeyKind prog w K}{A:Around}{E:Value->Shared->Prop}{s:Shared}
structure SetD (knd:KeyKind prog w K) (h:Heap) (a:Addr) (Ks:List (List K)):Prop where
 ex:∃o es ep t,h.get? a=some o/\o.ExactSet/\o.data=.set es ep t/\Good t (es.map (·.1))/\t.tooFull=false/\t.mask<=8*Ks.length+8/\es.size=Ks.length/\Ks.Nodup /\
  (∀(i:Nat) e,es[i]?=some e->∃b ks,e.2=.ref b/\ks∈Ks/\IsTupleKey knd h ks b/\e.1=tupleKeyHash knd ks)/\∀ks∈Ks,∃(i:Nat) (e:Int×Value) (b:Addr),es[i]?=some e/\e.2=.ref b/\IsTupleKey knd h ks b
theorem at_insertAt_mem {α:Type}{xs:Array α}{p:Nat}(hp:p<=xs.size){x e:α}{i:Nat}(h:(SetTable.insertAt xs p x)[i]?=some e):e=x\/∃i':Nat,xs[i']?=some e:=by
 rw[at_insertAt _ _ hp] at h
 split at h
 ·exact .inr ⟨_,h⟩
 ·split at h
  ·exact .inl (Option.some.inj h).symm
  ·exact .inr ⟨_,h⟩
theorem mem_at_insertAt {α:Type}{xs:Array α}{p:Nat}(hp:p<=xs.size){x e:α}{i:Nat}(h:xs[i]?=some e):∃i':Nat,(SetTable.insertAt xs p x)[i']?=some e:=by
 by_cases z:i<p
 ·exact⟨i,by rw[at_insertAt _ _ hp,if_pos z];exact h⟩
 ·exact⟨i+1,by rw[at_insertAt _ _ hp,if_neg (by lia),if_neg (by lia)];exact h⟩
theorem map_insertAt {α β:Type}(f:α->β) (xs:Array α) (p:Nat) (hp:p<=xs.size) (x:α):(SetTable.insertAt xs p x).map f=SetTable.insertAt (xs.map f) p (f x):=by
 apply Array.ext_getElem?
 intro i
 rw[Array.getElem?_map,at_insertAt _ _ hp,at_insertAt _ _ (by rw[Array.size_map];exact hp)]
 split
 ·rw[Array.getElem?_map]
 ·split
  ·rfl
  ·rw[Array.getElem?_map]
theorem Good.plain {t:SetTable}{hs:Array Int}(g:Good t hs) (b:Bool):Good { t with plain:=b } hs:=⟨⟨g.gr.pl,g.gr.du,g.gr.ma,g.gr.le⟩,g.ri,λi j x h1 h2=>by
 obtain⟨m,w1,w2,w3⟩:=g.wy i j x h1 h2
 have e:t.mask=({ t with plain:=b }:SetTable).mask:=rfl
 exact Way.more (t:=t) ⟨m,w1,w2,w3⟩ e λk hk=>hk⟩
theorem add_one2 {a b:Addr}{ks:List K}{Ks:List (List K)}{Q:Bool->Shared->Prop}(hu:A.units<cLine) (S:SetD knd s.heap a Ks) (hk:IsTupleKey knd s.heap ks b) (hHb:∀o items m,s.heap.get? b=some o->o.data=.seq items m->∀v∈items.toList,Hb v)
  (hsz:Ks.length<1200) (old:ks∈Ks->Q false s) (q:ks∉Ks->∀h',Heap.SameBut a s.heap h'->SetD knd h' a (ks::Ks)->Q true { s with heap:=h' }) :
  wpAny (model prog w) A (setAddHashed a (.ref b) (tupleKeyHash knd ks)) Q E s:=by
 obtain⟨o,es,ep,t,ho,hex,hd,G,hf,hmk,hsize,hnd,hel,hcv⟩:=S.ex
 have g:Grown t es.size:=by have:=G.gr;rw[Array.size_map] at this;exact this
 unfold setAddHashed setAddHashedIn
 refine wpAny_holding (wpAny_bind (wpAny_setState_of ho hd g.fits ?_))
 dsimp only
 have hby:byScan (.ref b) es=false:=rfl
 rw[hby]
 simp only[Bool.false_eq_true,if_false]
 obtain⟨m,hm,hslot⟩:=g.meets (tupleKeyHash knd ks)
 have hfu:m<100000:=by
  unfold SetTable.turns at hm
  lia
 refine wpAny_bind (search2 hu ho hd G hk (λi e he=>?_) (λhin=>?_) (λj hno hway hnj=>?_) hm hslot m 0 100000 none (by lia) (Nat.zero_le _) hfu rfl λm' hm'=>absurd hm' (Nat.not_lt_zero _))
 ·obtain⟨b',ks',e1,e2,e3,e4⟩:=hel i e he
  exact⟨b',ks',e1,e3,e4⟩
 ·dsimp only
  refine wpAny_pure (old ?_)
  obtain⟨i,e,b',x1,x2,x3⟩:=hin
  obtain⟨b'',ks',e1,e2,e3,e4⟩:=hel i e x1
  rw[x2] at e1
  cases e1
  rw[x3.inj e3]
  exact e2
 have hnew:ks∉Ks:=λz=>by
  obtain⟨i,e,b',x1,x2,x3⟩:=hcv ks z
  exact hno i e b' x1 x2 x3
 replace q:=q hnew
 dsimp only
 refine wpAny_bind (wpAny_setState_of ho hd g.fits ?_)
 dsimp only
 have G1:=G.put hf hnj hway
 have hp0:(t.put j).2<=es.size:=by
  have:=(below_is G.ri j).1
  rw[g.pl] at this
  exact this
 have ep1:(SetTable.insertAt es (t.put j).2 (tupleKeyHash knd ks,Value.ref b)).map (·.1)=SetTable.insertAt (es.map (·.1)) (t.put j).2 (tupleKeyHash knd ks):=map_insertAt _ _ _ hp0 _
 rw[<- ep1] at G1
 have hmk0:(t.put j).1.mask=t.mask:=rfl
 generalize hp:t.put j=tp at G1 hp0 hmk0
 obtain⟨t1,p⟩:=tp
 dsimp only at G1 hp0 hmk0 ⊢
 have hmk1:t1.mask=t.mask:=hmk0
 have hba:b≠a:=key_other hk ho hd
 have mem1:∀{h1:Heap},Heap.SameBut a s.heap h1->∀(i:Nat) e,(SetTable.insertAt es p (tupleKeyHash knd ks,Value.ref b))[i]?=some e->∃b' ks',e.2=.ref b'/\ks'∈ks::Ks/\IsTupleKey knd h1 ks' b'/\e.1=tupleKeyHash knd ks':=λ{h1} hs i e he=>by
  rcases at_insertAt_mem hp0 he with rfl|⟨i',he⟩
  ·exact⟨b,ks,rfl,List.mem_cons_self,key_keeps hk hba hs,rfl⟩
  ·obtain⟨b',ks',e1,e2,e3,e4⟩:=hel i' e he
   exact⟨b',ks',e1,List.mem_cons_of_mem _ e2,key_keeps e3 (key_other e3 ho hd) hs,e4⟩
 have cov1:∀{h1:Heap},Heap.SameBut a s.heap h1->∀ks'∈ks::Ks,∃(i:Nat) (e:Int×Value) (b':Addr),(SetTable.insertAt es p (tupleKeyHash knd ks,Value.ref b))[i]?=some e/\e.2=.ref b'/\IsTupleKey knd h1 ks' b':=λ{h1} hs ks' hks'=>by
  rcases List.mem_cons.mp hks' with rfl|hks'
  ·exact⟨p,_,b,by rw[at_insertAt _ _ hp0,if_neg (Nat.lt_irrefl _),if_pos rfl],rfl,key_keeps hk hba hs⟩
  ·obtain⟨i,e,b',x1,x2,x3⟩:=hcv ks' hks'
   obtain⟨i',hi'⟩:=mem_at_insertAt hp0 (x:=(tupleKeyHash knd ks,Value.ref b)) x1
   exact⟨i',e,b',hi',x2,key_keeps x3 (key_other x3 ho hd) hs⟩
 have nd1:(ks::Ks).Nodup:=List.nodup_cons.mpr ⟨hnew,hnd⟩
 have sz1:(SetTable.insertAt es p (tupleKeyHash knd ks,Value.ref b)).size=es.size+1:=size_insertAt _ _ _
 have szK:es.size+1=(ks::Ks).length:=by rw[List.length_cons,hsize]
 have room:es.size+1<=sizeLine:=by rw[sizeLine_eq];lia
 have tail:∀t2:SetTable,Good t2 ((SetTable.insertAt es p (tupleKeyHash knd ks,Value.ref b)).map (·.1))->t2.mask=t.mask->wpAny (model prog w) A (do
   storeSet a (SetTable.insertAt es p (tupleKeyHash knd ks,Value.ref b)) t2
   if (!false&&t2.tooFull)=true then do
     setRelay a (SetTable.grown (es.size+1))
     pure true
    else pure true) Q E s:=λt2 G2 hm2=>by
  have g2:Grown t2 (es.size+1):=by have:=G2.gr;rw[Array.size_map,sz1] at this;exact this
  refine wpAny_bind (wpAny_storeSet_of ho hd ?_ (by rw[sz1];exact room))
  have ho1:=put_set (es':=SetTable.insertAt es p (tupleKeyHash knd ks,Value.ref b)) (t':=t2) ho hd
  have hs1:=Heap.SameBut.update s.heap a (Obj.putSet (SetTable.insertAt es p (tupleKeyHash knd ks,Value.ref b)) t2)
  cases ht:t2.tooFull with
  |false=>
   simp only[Bool.and_false,Bool.false_eq_true,if_false]
   refine wpAny_pure (q _ hs1 ⟨_,_,_,t2,ho1,hex,rfl,G2,ht,by rw[List.length_cons];lia,by rw[sz1];exact szK,nd1,mem1 hs1,cov1 hs1⟩)
  |true=>
   simp only[Bool.not_false,Bool.and_self,if_true]
   refine wpAny_bind ?_
   unfold setRelay
   refine wpAny_bind (wpAny_setState_of ho1 rfl (by rw[sz1];exact g2.fits) ?_)
   dsimp only
   have gw:SetTable.grown (es.size+1)=(es.size+1)*4:=by
    unfold SetTable.grown
    rw[if_neg (by lia)]
   obtain⟨k,ek,_,_,hk3⟩:=sizeAbove_is (n:=SetTable.grown (es.size+1)) (by rw[gw];lia)
   rw[if_neg (by rw[ek,sizeLine_eq];rw[gw] at hk3;lia)]
   obtain⟨t3,order,er,g3,hw1,hw2,_,eo,ev⟩:=relaid_some (t:=t2) (hs:=(SetTable.insertAt es p (tupleKeyHash knd ks,Value.ref b)).map (·.1)) (wanted:=SetTable.grown (es.size+1)) (by rw[gw];lia) (by rw[Array.size_map,sz1,gw];lia)
   have G3:=laid_good er g3 ev eo
   have cv3:=laid_cover er
   rw[Array.size_map] at g3 eo ev cv3
   rw[er]
   have es2:(order.filterMap ((SetTable.insertAt es p (tupleKeyHash knd ks,Value.ref b))[·]?)).size=es.size+1:=by rw[size_pick ev,eo,sz1]
   refine wpAny_bind ?_
   show wpAny _ _ (if ((order.filterMap ((SetTable.insertAt es p (tupleKeyHash knd ks,Value.ref b))[·]?)).size != (SetTable.insertAt es p (tupleKeyHash knd ks,Value.ref b)).size)=true then _ else _) _ _ _
   rw[if_neg (by rw[es2,sz1];simp)]
   refine wpAny_pure ?_
   dsimp only
   refine wpAny_storeSet_of ho1 rfl ?_ (by rw[es2];exact room)
   have ho2:=put_set (es':=order.filterMap ((SetTable.insertAt es p (tupleKeyHash knd ks,Value.ref b))[·]?)) (t':=t3) ho1 rfl
   have hs2:=hs1.trans (Heap.SameBut.update _ a (Obj.putSet (order.filterMap ((SetTable.insertAt es p (tupleKeyHash knd ks,Value.ref b))[·]?)) t3))
   have emap:(order.filterMap ((SetTable.insertAt es p (tupleKeyHash knd ks,Value.ref b))[·]?)).map (·.1)=order.filterMap (((SetTable.insertAt es p (tupleKeyHash knd ks,Value.ref b)).map (·.1))[·]?):=by
    apply Array.ext_getElem?
    intro i
    rw[Array.getElem?_map]
    by_cases hi:i<order.size
    ·have ei:order[i]?=some order[i]:=Array.getElem?_eq_getElem hi
     rw[pick_at ev ei,pick_at (by rw[Array.size_map];exact ev) ei,Array.getElem?_map]
    ·rw[Array.getElem?_eq_none (by rw[size_pick ev];lia),Array.getElem?_eq_none (by rw[size_pick (by rw[Array.size_map];exact ev)];lia)]
     rfl
   refine wpAny_pure (q _ hs2 ⟨_,_,_,t3,ho2,hex,rfl,by rw[emap];exact G3,?_,?_,by rw[es2];exact szK,nd1,λi e he=>?_,λks' hks'=>?_⟩)
   ·unfold SetTable.tooFull
    rw[g3.fill,sz1]
    rw[gw] at hw1
    exact decide_eq_false (by lia)
   ·rw[gw] at hw2
    rw[<- szK]
    lia
   ·have hi:i<order.size:=by
     have:=(Array.getElem?_eq_some_iff.mp he).1
     rw[size_pick ev] at this
     exact this
    rw[pick_at ev (Array.getElem?_eq_getElem hi)] at he
    exact mem1 hs2 _ e he
   ·obtain⟨i,e,b',x1,x2,x3⟩:=cov1 hs2 ks' hks'
    obtain⟨i',hi'⟩:=cv3 i (Array.getElem?_eq_some_iff.mp x1).1
    exact⟨i',e,b',by rw[pick_at ev hi'];exact x1,x2,x3⟩
 cases hpl:t1.plain with
 |false=>
  simp only[Bool.false_eq_true,if_false]
  refine wpAny_bind (wpAny_pure ?_)
  simp only[if_true]
  exact tail t1 G1 hmk1
 |true=>
  simp only[if_true]
  obtain⟨ob,items,nn,hb1,hb2,hb3,_⟩:=id hk
  refine wpAny_bind (hashBy_tuple hb1 hb2 hb3 (hHb _ _ _ hb1 hb3) λc=>?_)
  cases c with
  |true=>
   simp only[if_true]
   exact tail t1 G1 hmk1
  |false=>
   simp only[Bool.false_eq_true,if_false]
   exact tail { t1 with plain:=false } (G1.plain false) hmk1
theorem SetD.at {h h':Heap}{a:Addr}{Ks:List (List K)}(S:SetD knd h a Ks) (k:∀b o,h.get? b=some o->h'.get? b=some o\/b≠a/\¬∃ks,IsTupleKey knd h ks b):SetD knd h' a Ks:=by
 obtain⟨o,es,ep,t,ho,hex,hd,G,hf,hmk,hn,hnd,hel,hcv⟩:=S.ex
 have kp:∀ks b,IsTupleKey knd h ks b->IsTupleKey knd h' ks b:=λks b e3=>by
  obtain⟨o',items,n',ho',r⟩:=id e3
  rcases k b o' ho' with z|z
  ·exact⟨o',items,n',z,r⟩
  ·exact absurd ⟨ks,e3⟩ z.2
 refine⟨o,es,ep,t,?_,hex,hd,G,hf,hmk,hn,hnd,λi e he=>?_,λks hks=>?_⟩
 ·rcases k a o ho with z|z
  ·exact z
  ·exact absurd rfl z.1
 ·obtain⟨b,ks,e1,e2,e3,e4⟩:=hel i e he
  exact⟨b,ks,e1,e2,kp _ _ e3,e4⟩
 ·obtain⟨i,e,b,x1,x2,x3⟩:=hcv ks hks
  exact⟨i,e,b,x1,x2,kp _ _ x3⟩
end
end SetT
namespace SetT
open PySem PySem.Spec PyProof.Rows
section
variable {prog:Program}{w:World}{K:Type}[DecidableEq K]{knd:KeyKind prog w K}
variable {A:Around}{R:Result->Shared->Prop}{I:Addr}{fp wr:List Addr}{G:Array GenState->Array GenState->Prop}{n:Nat}{P:Nat->Value->Prop}{St:Nat->Shared->Prop}
def seen (val:Nat->List K):Nat->List (List K)
 |0=>[]
 |i+1=>if val i∈seen val i then seen val i else val i::seen val i
theorem seen_length (val:Nat->List K):∀i,(seen val i).length<=i
 |0=>Nat.le_refl _
 |i+1=>by
  have:=seen_length val i
  unfold seen
  split
  ·lia
  ·rw[List.length_cons];lia
theorem seen_of (val:Nat->List K):∀i j,j<i->val j∈seen val i
 |0,j,h=>absurd h (Nat.not_lt_zero _)
 |i+1,j,h=>by
  unfold seen
  by_cases e:j=i
  ·subst e
   split
   ·assumption
   ·exact List.mem_cons_self
  ·have:=seen_of val i j (by lia)
   split
   ·exact this
   ·exact List.mem_cons_of_mem _ this
theorem mem_seen (val:Nat->List K):∀i ks,ks∈seen val i->∃j,j<i/\ks=val j
 |0,ks,h=>by cases h
 |i+1,ks,h=>by
  unfold seen at h
  have up:ks∈seen val i->∃j,j<i+1/\ks=val j:=λz=>let ⟨j,a,b⟩:=mem_seen val i ks z;⟨j,by lia,b⟩
  split at h
  ·exact up h
  ·rcases List.mem_cons.mp h with rfl|h
   ·exact⟨i,Nat.lt_succ_self _,rfl⟩
   ·exact up h
theorem seen_full (val:Nat->List K):∀i,(seen val i).length=i<->∀a b,a<b->b<i->val a≠val b
 |0=>⟨λ_ a b _ h=>absurd h (Nat.not_lt_zero _),λ_=>rfl⟩
 |i+1=>by
  have ih:=seen_full val i
  have hl:=seen_length val i
  unfold seen
  by_cases h:val i∈seen val i
  ·rw[if_pos h]
   refine⟨λe=>by lia,λe=>?_⟩
   obtain⟨j,hj,ej⟩:=mem_seen val i _ h
   exact absurd ej.symm (e j i hj (Nat.lt_succ_self _))
  ·rw[if_neg h,List.length_cons]
   refine⟨λe a b hab hb=>?_,λe=>?_⟩
   ·by_cases eb:b=i
    ·subst eb
     intro z
     exact h (by rw[<- z];exact seen_of val b a hab)
    ·exact ih.mp (by lia) a b hab (by lia)
   ·have:=ih.mpr λa b hab hb=>e a b hab (by lia)
    lia
theorem fill_loop2 (W:WalksS prog w A.in1 I fp wr G n P St) (S:Addr) (hSf:S∉fp) (val:Nat->List K) (hn:n<=1200) (hu:A.in1.units<cLine)
  (nt:∀i s,St i s->NoTup knd wr s.heap) :
  ∀(k i:Nat) (s:Shared),n-i=k->i<=n->St i s->Items knd S wr P val s.heap->SetD knd s.heap S (seen val i) ->
   (∀s',Moved (S::wr) G s s'->SetD knd s'.heap S (seen val n)->R (.ok (.ret .none)) s') ->
   codeAny (model prog w) A (.builtin "set.update.loop" ⟨[.ref S,.ref I],[]⟩) R s:=by
 have hSw:S∉wr:=λz=>hSf (W.sub _ z)
 have up:∀b∈wr,b∈S::wr:=λb hb=>List.mem_cons_of_mem _ hb
 have stays:∀{i:Nat}{s s':Shared}{Ks:List (List K)},St i s->Moved wr G s s'->SetD knd s.heap S Ks->SetD knd s'.heap S Ks:=λ{i s s' Ks} st mv S0=>S0.at λb o e=>by
  by_cases hb:b∈wr
  ·exact .inr ⟨λz=>hSw (by rw[<- z];exact hb),nt i s st b hb⟩
  ·exact .inl (mv.heap b o hb e)
 intro k
 induction k with
 |zero=>
  intro i s hk hi st its hS hR
  have hin:i=n:=by lia
  subst hin
  refine codeAny_builtin PyProof.Rows.F.entry_set_update_loop ?_
  rw[Around.under_plainId PyProof.Rows.F.plain_set_update_loop _]
  show wpAny _ A.in1 (pyNext (.ref I) >>= _) _ _ s
  refine wpAny_bind (W.done s _ _ st λs' mv=>?_)
  show wpAny _ A.in1 (ret Value.none) _ _ s'
  exact wpAny_pure (hR s' (mv.mono up) (stays st mv hS))
 |succ k ih=>
  intro i s hk hi st its hS hR
  have hlt:i<n:=by lia
  refine codeAny_builtin PyProof.Rows.F.entry_set_update_loop ?_
  rw[Around.under_plainId PyProof.Rows.F.plain_set_update_loop _]
  show wpAny _ A.in1 (pyNext (.ref I) >>= _) _ _ s
  refine wpAny_bind (W.item i s _ _ hlt st λv s' hP st' mv=>?_)
  obtain⟨b,rfl,hbS,hbw,hb⟩:=its i v hP
  have hb':TupK knd s'.heap (val i) b:=hb.at λo e=>mv.heap b o hbw e
  have S1:SetD knd s'.heap S (seen val i):=stays st mv hS
  have ln:=seen_length val i
  show wpAny _ A.in1 (holding [Value.ref b] (setAdd S (.ref b)) >>= _) _ _ s'
  refine wpAny_bind (wpAny_holding ?_)
  unfold setAdd
  refine wpAny_holding ?_
  refine wpAny_bind (wpAny_pyHash_tuple hu hb'.key ?_)
  refine add_one2 (s:={ s' with toks:=s'.toks+((val i).length+1) }) hu S1 hb'.key hb'.hb (by lia) (λhin=>?_) λhnew h' hsb S2=>?_
  ·have its':Items knd S wr P val s'.heap:=λj u hPj=>by
    obtain⟨c,rfl,h1,h2,h3⟩:=its j u hPj
    exact⟨c,rfl,h1,h2,h3.at λo e=>mv.heap c o h2 e⟩
   refine wpAny_pure ⟨plainId_quiet PyProof.Rows.F.plain_set_update_loop _,ih (i+1) _ (by lia) hlt (W.frame _ s' _ _ st' (Nat.le_add_right _ _) λc hc o e=>e) its' ?_ λs'' mv'' fin=>?_⟩
   ·show SetD knd s'.heap S (if val i∈seen val i then seen val i else val i::seen val i)
    rw[if_pos hin]
    exact S1
   ·exact hR s'' (Moved.trans W.gtrans ((mv.mono up).then_heap (Nat.le_add_right _ _) λc o hc e=>e) mv'') fin
  ·have its':Items knd S wr P val h':=λj u hPj=>by
    obtain⟨c,rfl,h1,h2,h3⟩:=its j u hPj
    exact⟨c,rfl,h1,h2,(h3.at λo e=>mv.heap c o h2 e).at λo e=>(hsb.2 c h1).trans e⟩
   refine wpAny_pure ⟨plainId_quiet PyProof.Rows.F.plain_set_update_loop _,ih (i+1) _ (by lia) hlt (W.frame _ s' _ _ st' (Nat.le_add_right _ _) λc hc o e=>?_) its' ?_ λs'' mv'' fin=>?_⟩
   ·rw[hsb.2 c (λz:c=S=>hSf (by rw[<- z];exact hc))];exact e
   ·show SetD knd h' S (if val i∈seen val i then seen val i else val i::seen val i)
    rw[if_neg hnew]
    exact S2
   ·refine hR s'' (Moved.trans W.gtrans ((mv.mono up).then_heap (Nat.le_add_right _ _) λc o hc e=>?_) mv'') fin
    rw[hsb.2 c (λz:c=S=>hc (by rw[z];exact List.mem_cons_self))];exact e
end
section
variable {prog:Program}{w:World}{K:Type}[DecidableEq K]{knd:KeyKind prog w K}{A:Around}{E:Value->Shared->Prop}{s:Shared}
theorem fresh_setD {h:Heap}{a:Addr}{led:Bool}(e:h.get? a=some (newS led)):SetD knd h a []:=
 ⟨_,#[],0,.fresh 0 0 led,e,⟨rfl,rfl,rfl⟩,rfl,⟨⟨(by rw[Array.size_map];rfl),rfl,⟨3,rfl,by decide⟩,(by rw[Array.size_map];exact Nat.zero_le _)⟩,λi j hi=>absurd hi (Nat.not_lt_zero _),λi j x h=>by have:(#[]:Array Nat)[i]?=some j:=h;simp at this⟩,by rfl,(by show 7<=8*0+8;decide),rfl,List.nodup_nil,λi e he=>by simp at he,λks h=>nomatch h⟩
theorem call_set_tuple2 {l:Addr}{items:Array Value}{val:Nat->List K}{Q:Value->Shared->Prop}(hh:A.handled=none) (hu:A.units+8<cLine) (hl:s.heap.IsTuple l items)
  (hi:∀(i:Nat) (v:Value),items[i]?=some v->∃b,v=.ref b/\TupK knd s.heap (val i) b) (hb:items.size<=1200)
  (h:∀(h':Heap) (tk:Nat),SetD knd h' s.heap.objs.size (seen val items.size)->(∀b o,b<s.heap.objs.size->s.heap.get? b=some o->h'.get? b=some o)->Q (.ref s.heap.objs.size) { s with heap:=h',toks:=tk }) :
  wpAny (model prog w) A (call (.type "set") [.ref l]) Q E s:=by
 obtain⟨c,tl,hmro⟩:=F.called_set.mro
 have made0:=F.called_set.made
 have sub0:=F.called_set.sub
 refine wpAny_call (codeAny_of_tree ?_)
 show wpAny _ _ (callAny (.type "set") _) _ _ _
 refine wpAny_pure ⟨Code.quiet_builtin _ (by decide +kernel),codeAny_builtin F.entry_type_call ?_⟩
 rw[Around.under_plain (weight_type_call_type "set" [.ref l] []) rfl]
 have f1:=F.called_set.notType
 have f2:=F.called_set.canCreate
 have f3:=F.typeCall_set_1 (.ref l)
 repeat (any_goals first|assumption|wp_step)
 refine codeAny_mono (code_set_new_1 (.ref l) (E:=E) (Q₁:=λobj s₁=>∃led:Bool,obj=.ref s.heap.objs.size/\s₁={ s with heap:=s.heap.push (newS led) }) λled=>⟨led,rfl,rfl⟩) λr s₁ hr=>?_
 cases r with
 |error e=>exact hr
 |ok fl=>
  cases fl with
  |ret obj=>
   obtain⟨led,rfl,rfl⟩:=hr
   have hS:(s.heap.push (newS led)).get? s.heap.objs.size=some (newS led):=Heap.get?_push_size _ rfl
   have hT:Shared.TypeIs { s with heap:=s.heap.push (newS led) } (.ref s.heap.objs.size) "set":=⟨_,hS,rfl⟩
   have i1:=F.called_set.init.lookup
   have i2:=F.called_set.init.bind (.ref s.heap.objs.size)
   repeat (any_goals first|assumption|wp_step)
   refine codeAny_mono (codeAny_call_builtin (R:=wants (λr s₂=>r=.none/\∃h' tk,s₂={ s with heap:=h',toks:=tk }/\SetD knd h' s.heap.objs.size (seen val items.size) /\
     (∀b o,b<s.heap.objs.size->s.heap.get? b=some o->h'.get? b=some o)) E) F.called_set.init.plain F.entry_set_init (check_set_init_1 hT ?_)) λr₂ s₂ hr₂=>?_
   ·obtain⟨ol,hol,hcl,nl,hdl⟩:=id hl
    obtain⟨ocls,odict,odata,oslots⟩:=ol
    simp only at hcl hdl
    subst hcl;subst hdl
    have hol':(s.heap.push (newS led)).get? l=some { cls:=.type "tuple",dict:=odict,data:=.seq items nl,slots:=oslots }:=Heap.get?_push_of_some _ hol
    have st1:=F.sub_tuple_set
    have st2:=F.sub_tuple_frozenset
    have ned:(Value.type "tuple" == Value.type "dict")=false:=by decide
    have hl1:(s.heap.push (newS led)).IsTuple l items:=⟨_,hol',rfl,nl,rfl⟩
    unfold Builtin.«set.__init__» noKeywords Builtin.Frozenset.updateFrom
    generalize hPI:pyIter=PI
    wp_walk
    subst hPI
    refine wpAny_pyIter_tuple hl1 ?_
    refine wpAny_bind (wpAny_runValue ?_)
    have hlS:l<s.heap.objs.size:=Heap.lt_size hol
    have hsz:(s.heap.push (newS led)).objs.size=s.heap.objs.size+1:=Heap.size_push _ _
    have hneI:l≠(s.heap.push (newS led)).objs.size:=by rw[hsz];exact Nat.ne_of_lt (Nat.lt_succ_of_lt hlS)
    have hSf:s.heap.objs.size∉[(s.heap.push (newS led)).objs.size,l]:=by
     rw[hsz];simp only[List.mem_cons,List.not_mem_nil,or_false,not_or]
     exact⟨Nat.ne_of_lt (Nat.lt_succ_self _),Nat.ne_of_gt hlS⟩
    refine fill_loop2 (knd:=knd) ((Walks.tuple (by simp[hh]) _ l hneI items).toS) s.heap.objs.size hSf val hb (by show A.units+1+1+1<cLine;lia) (λi s' st b hbw=>?_) (items.size-0) 0 _ (by lia) (Nat.zero_le _)
     ⟨⟨_,Heap.get?_push_size _ rfl,rfl,rfl⟩,hl1.push _⟩ (λi v hv=>?_) (fresh_setD (Heap.get?_push_of_some _ hS)) λs' mv fin=>?_
    ·rintro⟨ks,o',its',n',e1,e2,e3,_⟩
     have:b=(s.heap.push (newS led)).objs.size:=by simpa using hbw
     subst this
     obtain⟨oi,x1,x2,x3⟩:=st.1
     rw[x1] at e1;cases e1
     rw[x2] at e2
     injection e2 with e2
     exact absurd e2 (by decide)
    ·obtain⟨b,rfl,hb'⟩:=hi i v hv
     have hlt:b<s.heap.objs.size:=by obtain⟨o',_,_,e1,_⟩:=hb';exact Heap.lt_size e1
     refine⟨b,rfl,Nat.ne_of_lt hlt,(by rw[hsz];simp only[List.mem_cons,List.not_mem_nil,or_false];exact Nat.ne_of_lt (Nat.lt_succ_of_lt hlt)),hb'.at λo e=>Heap.get?_push_of_some _ (Heap.get?_push_of_some _ e)⟩
    ·obtain⟨h',g',d',tk',os'⟩:=s'
     have eg:g'=s.gens:=mv.gens
     have ed:d'=s.drawn:=mv.drawn
     have eo:os'=s.os:=mv.os
     subst eg;subst ed;subst eo
     show wpAny _ _ _ _ _ _
     refine wpAny_pure ?_
     show wpAny _ _ (ret Value.none) _ _ _
     refine wpAny_pure ⟨rfl,h',tk',rfl,fin,λb o hlt e=>?_⟩
     exact mv.heap b o (by rw[hsz];simp only[List.mem_cons,List.not_mem_nil,or_false,not_or];exact⟨Nat.ne_of_lt hlt,Nat.ne_of_lt (Nat.lt_succ_of_lt hlt)⟩) (Heap.get?_push_of_some _ (Heap.get?_push_of_some _ e))
   ·cases r₂ with
    |error e=>exact hr₂
    |ok fl₂=>
     cases fl₂ with
     |ret r=>
      obtain⟨rfl,h',tk,rfl,fin,kp⟩:=hr₂
      repeat (any_goals first|assumption|wp_step)
      exact h _ _ fin kp
     |_=>exact hr₂.elim
  |_=>exact hr.elim
end
end SetT
namespace L2
open PySem PySem.Spec PyProof.Rows
section
variable {X:Cx}
theorem call_setT2 (hc:X.calm=true){k:Nat}(hr:Room k X.A):CallR X (.type "set") (λxs H Q=>∃(p:Addr) (bs:List Addr) (rows:List (List Key)),xs=[.ref p]/\H p=some (.tup (bs.map V.ref))/\bs.length=rows.length /\
  (∀(i:Nat) b ks,bs[i]?=some b->rows[i]?=some ks->H b=some (.tup (ks.map kV)))/\rows.length<=1200/\∀r n,H r=none->n<=rows.length->(n=rows.length<->rows.Nodup)->Q (.ref r) (upd H r (.ext (SetN r n)))):=by
 intro pins s σ H xs us Q I rv h
 obtain⟨p,bs,rows,rfl,hp,hlen,hrow,hsz,q⟩:=h
 obtain⟨u,rfl,ru⟩:=vals1 rv
 cases ru
 obtain⟨_,its,r2,isT⟩:=I.hok p _ hp
 have hl2:its.length=bs.length:=by have:=r2.length;simpa using this.symm
 have un:=hr.units
 have item:∀(i:Nat) (v:Value),its[i]?=some v->∃b,bs[i]?=some b/\v=.ref b:=λi v hv=>by
  have hi:i<bs.length:=by rw[<- hl2];exact (List.getElem?_eq_some_iff.mp hv).1
  obtain⟨w',e1,e2⟩:=r2.get (i:=i) (x:=V.ref bs[i]) (by simp[hi])
  rw[hv] at e1;cases e1
  exact⟨bs[i],by simp[hi],e2⟩
 refine SetT.call_set_tuple2 (knd:=mixKind X.prog X.w) (items:=its.toArray) (val:=λi=>rows.getD i []) (I.ok.hd hc) (by lia) (show s.heap.IsTuple p its.toArray from isT) (λi v hv=>?_) (by rw[List.size_toArray,hl2,hlen];exact hsz) λh' tk fin kp=>?_
 ·obtain⟨b,hb,rfl⟩:=item i v (by simpa using hv)
  have hi:i<rows.length:=by rw[<- hlen];exact (List.getElem?_eq_some_iff.mp hb).1
  have e:rows.getD i []=rows[i]:=by simp[List.getD,hi]
  show ∃b',Value.ref b=.ref b'/\SetT.TupK _ s.heap (rows.getD i []) b'
  rw[e]
  exact⟨b,rfl,tupK_of I.hok (hrow i b rows[i] hb (by simp[hi]))⟩
 ·obtain⟨o,es,ep,t,ho,hex,hd,G,hf,_,hn,_⟩:=fin.ex
  have g:SetT.Grown t es.size:=by have:=G.gr;rw[Array.size_map] at this;exact this
  have hz:its.toArray.size=rows.length:=by rw[List.size_toArray,hl2,hlen]
  rw[hz] at hn
  refine⟨.ref s.heap.objs.size,_,I.laid (a:=s.heap.objs.size) (o:=.ext (SetN s.heap.objs.size (SetT.seen (λi=>rows.getD i []) rows.length).length)) (t':=tk) (λb o e=>kp b o (Heap.lt_size e) e) (Nat.le_refl _) ⟨⟨o,es,ep,t,ho,hex,hd,g.fits,hn⟩,⟨o,ho⟩,λh1 h2 φ k=>?_⟩,rfl,q _ _ (I.hok.fresh (Nat.le_refl _)) (SetT.seen_length _ _) ((SetT.seen_full _ _).trans ?_)⟩
  ·obtain⟨o',es',ep',t',ho',r⟩:=φ
   exact⟨o',es',ep',t',k o' ho',r⟩
  ·constructor
   ·intro h
    rw[List.nodup_iff_pairwise_ne,List.pairwise_iff_getElem]
    intro i j hi hj hij z
    refine h i j hij hj ?_
    show rows.getD i []=rows.getD j []
    simp[List.getD,hi,hj,z]
   ·intro h i j hij hj z
    have hi:i<rows.length:=by lia
    have z':rows.getD i []=rows.getD j []:=z
    have e1:rows.getD i []=rows[i]:=by simp[List.getD,hi]
    have e2:rows.getD j []=rows[j]:=by simp[List.getD,hj]
    rw[e1,e2] at z'
    have:=(List.getElem_inj h).mp z'
    lia
end
end L2
namespace Pr
open PySem L2 Qf
theorem keys_nodup_iff {rows:List Row}:(rows.map keyN).Nodup<->rows.Nodup:=by
 refine⟨λh=>?_,keys_nodup⟩
 rw[nd_iff] at h ⊢
 intro i j hij hj z
 refine h i j hij (by rw[List.length_map];exact hj) ?_
 rw[List.getElem?_map,List.getElem?_map,z]
section
variable {P:Program}{w:World}{K:PySem.W.Frag}{mg:Str->Option Value}{base:Heap}
def spTelling2:Sp:=λvs H Q _=>∃(t:Addr) (n tp:Nat) (rows:List Row),vs=[.ref t]/\TellAt H t n tp rows/\n<=12/\RowsOk rows/\rows.length<=900/\tp<rows.length+2/\∀H',Same H H'->Q (.bl (decide (dp rows tp<=n))) H'
theorem ok_telling2 {f fS fR fN fD:Addr}{fd fdS fdR fdN fdD:FuncData}(F:Fun K "is_telling" "is_telling" sTelling f fd) (B:Blt mg)
  (hS:mg "is_size" = some (.ref fS)) (FS:Fun K "is_size" "is_size" sSize fS fdS) (bS:Binds K fdS ["thing"] []) (GS:FnOk P w K mg base CX0 2 fS fdS ["thing"] spSize)
  (hR:mg "are_rows" = some (.ref fR)) (FR:Fun K "are_rows" "are_rows" sRows fR fdR) (bR:Binds K fdR ["thing"] []) (GR:FnOk P w K mg base CX0 4 fR fdR ["thing"] spRows)
  (hN:mg "is_number" = some (.ref fN)) (FN:Fun K "is_number" "is_number" sNumber fN fdN) (bN:Binds K fdN ["thing", "many"] []) (GN:FnOk P w K mg base CX0 2 fN fdN ["thing", "many"] spNumber)
  (hD:mg "depths_of" = some (.ref fD)) (FD:Fun K "depths_of" "depths_of" sDeps fD fdD) (bD:Binds K fdD ["rows"] []):FnOk P w K mg base CX0 5 f fd ["thing"] spTelling2:=by
 have GD:FnOk P w K mg base CX0 1 fD fdD ["rows"] spDeps:=ok_deps FD B
 refine F.ok scTelling (λvs H Q E h=>?_) (λcdv A outer s H vs Q E hr h=>?_)
 ·obtain⟨t,n,tp,rows,rfl,_⟩:=h
  rfl
 ·obtain⟨t,n,tp,rows,rfl,⟨p,ht,hRows⟩,hn,ok,hl,htp,q⟩:=h
  have hr1:Room 1 _:=hr.mono (by decide)
  have hr2:Room 2 _:=hr.mono (by decide)
  refine⟨_,pss_cons (ps_if (pw_or (pt_not (pt_val (pe_callB call_isi (by rfl) B.isi PyProof.Rows.boot_isinstance (pa_cons (pv 0) (pa_cons (pe_bltn (v:=.ty "tuple") (by rfl) B.tuple PyProof.Rows.boot_tuple rfl) pa_nil)))))
    (pw_or1 (pt_cmpR op_ne (pe_callB call_len_seq (by rfl) B.len PySem.boot_len (pa_cons (pv 0) pa_nil)) pe_int (nomark _)))).pt (pss_one (ps_ret pe_bl)) pss_nil)
   (pss_cons (ps_asg (pv 0) (pg_tup rfl (pgs_cons (pg_name (i:=1) scTelling.nd rfl (Or.inl rfl)) (pgs_cons (pg_name (i:=2) scTelling.nd rfl (Or.inl rfl)) (pgs_cons (pg_name (i:=3) scTelling.nd rfl (Or.inl rfl)) pgs_nil)))))
   (pss_cons (ps_if (pw_or (pt_not (pt_val (pe_call GS hr2 (by rfl) hS FS.kp bS .nil pass0 (pa_cons (pv 1) pa_nil))))
    (pw_or (pt_not (pt_val (pe_call GR hr (by rfl) hR FR.kp bR .nil pass0 (pa_cons (pv 3) pa_nil))))
    (pw_or1 (pt_not (pt_val (pe_call GN hr2 (by rfl) hN FN.kp bN .nil pass0 (pa_cons (pv 2) (pa_cons (pe_callB call_len_seq (by rfl) B.len PySem.boot_len (pa_cons (pv 3) pa_nil)) pa_nil)))))))).pt (pss_one (ps_ret pe_bl)) pss_nil)
   (pss_one (ps_ret (pe_cmpR op_le (pe_ix ix_list (pe_call GD hr1 (by rfl) hD FD.kp bD .nil pass0 (pa_cons (pv 3) pa_nil)) (pv 2) (λ_ _=>rfl)) (pv 1) (nomark _)))))),?_⟩
  refine⟨_,rfl,_,_,_,_,true,rfl,rfl,.inl (.tup ht),rfl,_,rfl,iteF ⟨_,rfl,t,_,rfl,.inr (SqT.of ht),rfl,_,rfl,iteF ?_⟩⟩
  refine⟨_,rfl,t,_,rfl,SqT.of ht,rfl,_,_,rfl,_,_,rfl,_,_,rfl,rfl,?_⟩
  refine⟨_,rfl,n,rfl,hn,_,rfl,iteF ⟨_,rfl,p,rows,rfl,hRows,ok,hl,λH2 s2=>⟨_,rfl,iteF ?_⟩⟩⟩
  obtain⟨bs,hp,hlen,hrow⟩:=id hRows
  refine⟨_,rfl,_,rfl,p,_,rfl,.inr (SqT.of (s2 _ _ hp)),tp,rows.length,by rw[List.length_map,hlen];rfl,htp,_,rfl,iteF ?_⟩
  refine⟨_,rfl,p,rows,rfl,hRows.same s2,ok,hl,λH3 D s3 hd3=>?_⟩
  refine⟨_,rfl,D,_,(tp:Int),.int (dp rows tp:Nat),rfl,rfl,SqL.of hd3,vN_atI (dp_get htp),_,rfl,_,_,rfl,rfl,?_⟩
  show Q (V.bl (decide ((dp rows tp:Int)<=(n:Int)))) H3
  have e:decide ((dp rows tp:Int)<=(n:Int))=decide (dp rows tp<=n):=by
   by_cases z:dp rows tp<=n
   ·rw[decide_eq_true z,decide_eq_true (by lia)]
   ·rw[decide_eq_false z,decide_eq_false (by lia)]
  rw[e]
  exact q H3 (s2.trans s3)
def spShape2:Sp:=λvs H Q _=>∃(t:Addr) (n tp:Nat) (rows:List Row),vs=[.ref t]/\TellAt H t n tp rows/\n<=12/\RowsOk rows/\rows.length<=900/\tp<rows.length+2/\∀(b:Bool) H',(b=true<->Canon n tp rows)->Same H H'->Q (.bl b) H'
theorem ok_shape2 {f fT fP fA:Addr}{fd fdT fdP fdA:FuncData}(F:Fun K "is_shape" "is_shape" sShape f fd) (B:Blt mg) (T:Cst mg)
  (hT:mg "is_telling" = some (.ref fT)) (FT:Fun K "is_telling" "is_telling" sTelling fT fdT) (bT:Binds K fdT ["thing"] []) (GT:FnOk P w K mg base CX0 5 fT fdT ["thing"] spTelling2)
  (hP:mg "is_plain" = some (.ref fP)) (FP:Fun K "is_plain" "is_plain" sPlain fP fdP) (bP:Binds K fdP ["row"] [])
  (hA:mg "places_as_ended" = some (.ref fA)) (FA:Fun K "places_as_ended" "places_as_ended" sPlaces fA fdA) (bA:Binds K fdA ["rows", "top"] []) (GA:∀d,FnOk P w K mg base CX0 (d+2) fA fdA ["rows", "top"] (spPlaces d)):FnOk P w K mg base CX0 15 f fd ["thing"] spShape2:=by
 have GP:FnOk P w K mg base CX0 2 fP fdP ["row"] spPlain:=ok_plain FP T
 refine F.ok scShape (λvs H Q E h=>?_) (λcdv A outer s H vs Q E hr h=>?_)
 ·obtain⟨t,n,tp,rows,rfl,_⟩:=h
  rfl
 ·obtain⟨t,n,tp,rows,rfl,hTell,hn,ok,hl,htp,q⟩:=h
  obtain⟨p,ht,hRows⟩:=id hTell
  obtain⟨bs,hp,hlen,hrow⟩:=id hRows
  have hr2:Room 2 _:=hr.mono (by decide)
  have hr5:Room 5 _:=hr.mono (by decide)
  have hrA:Room (n+2) _:=hr.mono (by lia)
  refine⟨_,pss_cons (ps_if (pt_not (pt_val (pe_call GT hr5 (by rfl) hT FT.kp bT .nil pass0 (pa_cons (pv 0) pa_nil)))) (pss_one (ps_ret pe_bl)) pss_nil)
   (pss_cons (ps_asg (pe_slice sl_tup (pv 0) (po_some pe_int) po_none) (pg_tup rfl (pgs_cons (pg_name (i:=1) scShape.nd rfl (Or.inl rfl)) (pgs_cons (pg_name (i:=2) scShape.nd rfl (Or.inl rfl)) pgs_nil))))
   (pss_cons (ps_if (PW.pt (pw_or (pt_val (pe_callB (call_anyL rfl) (by rfl) B.any PyProof.Rows.boot_any (pa_cons (pe_compB ["thing", "top", "rows"] (defScope sShape) rfl rfl rfl scShape.nd (piT K rfl (pv 2)) (λcl C fp s₀ H₀=>pe_call GP hr2 (by rfl) hP FP.kp bP .nil pass0 (pa_cons (pv 0) pa_nil))) pa_nil)))
    (pw_or1 (pt_cmpR op_lt (pe_callB call_lenSet (by rfl) B.len PySem.boot_len (pa_cons (pe_callTy (call_setT2 rfl hr) (by rfl) B.set PyProof.Rows.boot_set (pa_cons (pv 2) pa_nil)) pa_nil)) (pe_callB call_len_seq (by rfl) B.len PySem.boot_len (pa_cons (pv 2) pa_nil)) (nomark _))))) (pss_one (ps_ret pe_bl)) pss_nil)
   (pss_one (ps_ret (pe_cmpR (op_eqD hr) (pe_call (GA n) hrA (by rfl) hA FA.kp bA .nil pass0 (pa_cons (pv 2) (pa_cons (pv 1) pa_nil)))
    (pe_callTy (call_listR rfl) (by rfl) B.list PyProof.Rows.boot_list (pa_cons (pe_callTy call_range1V (by rfl) B.range PyProof.Rows.boot_range (pa_cons (pe_callB call_len_seq (by rfl) B.len PySem.boot_len (pa_cons (pv 2) pa_nil)) pa_nil)) pa_nil)) (nomark _)))))),?_⟩
  refine⟨_,rfl,t,n,tp,rows,rfl,hTell,hn,ok,hl,htp,λH1 s1=>?_⟩
  have no:∀{H'},¬Canon n tp rows->Same H H'->Q (.bl false) H':=λ{H'} nc s'=>q false H' ⟨λz=>(by cases z),λz=>(nc z).elim⟩ s'
  by_cases hd:dp rows tp<=n
  rotate_left
  ·rw[decide_eq_false hd]
   exact⟨_,rfl,iteT (no (λc=>hd c.deep) s1)⟩
  rw[decide_eq_true hd]
  refine⟨_,rfl,iteF ?_⟩
  have ht1:=s1 _ _ ht
  refine⟨_,rfl,_,rfl,t,_,rfl,SqT.of ht1,(λz=>absurd (show HT.sIx 3 0 (some 1)=0 from z.1) (by decide)),λu hu=>?_⟩
  refine⟨u,_,rfl,SqT.of upd_same,rfl,_,_,rfl,_,_,rfl,rfl,?_⟩
  have sA:Same H (upd H1 u (.tup [.int (tp:Nat),.ref p])):=s1.trans (sameU hu)
  refine (λ(go:∀H2,Same H H2->_)=>go _ sA) ?_
  intro H2 s2
  have hp2:=s2 _ _ hp
  have hlb:(bs.map V.ref).length=rows.length:=by rw[List.length_map];exact hlen
  refine⟨_,rfl,p,rfl,⟨_,SqT.of hp2⟩,λD hD=>comp_walk hD (λj z _=>∀r,rows[j]?=some r->z=.bl (decide (Plain r))) (goes_tup (K:=K) hp2) (by rw[hlb];exact small1000 (by lia)) (λ_ _ _ _ _ _ h=>h) ?_ ?_⟩
  ·intro j x H3 hj hx s3 Q' hq
   have hj2:j<rows.length:=by rw[<- hlb];exact hj
   rw[List.getElem?_map] at hx
   obtain⟨b,hb,rfl⟩:=Option.map_eq_some_iff.mp hx
   have hr1:rows[j]?=some rows[j]:=by simp[hj2]
   refine⟨_,rfl,b,rows[j],rfl,s3 _ _ (s2 _ _ (hrow j b _ hb hr1)),(ok j _ hr1).1,λH4 s4=>hq _ _ s4 λr hr'=>?_⟩
   rw[hr1] at hr'
   cases hr'
   rfl
  ·intro ys H3 s3 hd3 hly hys
   have e:ys=(rows.map λr=>decide (Plain r)).map V.bl:=by
    refine list_ext (by rw[hly,hlb];simp) λi x hx=>?_
    have hi:=(List.getElem?_eq_some_iff.mp hx).1
    rw[hly,hlb] at hi
    have hr1:rows[i]?=some rows[i]:=by simp[hi]
    rw[hys i x hx _ hr1]
    simp[hi]
   have s23:Same H H3:=s2.trans s3
   refine⟨D,rows.map λr=>decide (Plain r),rfl,by rw[<- e];exact hd3,_,rfl,?_⟩
   by_cases hpl:∃r∈rows,Plain r
   ·have na:(rows.map λr=>decide (Plain r)).any id=true:=by
     obtain⟨r,h1,h2⟩:=hpl
     rw[List.any_eq_true]
     exact⟨_,List.mem_map.mpr ⟨r,h1,rfl⟩,decide_eq_true h2⟩
    rw[na]
    obtain⟨r,h1,h2⟩:=hpl
    exact iteT (no (λc=>c.unplain r h1 h2) s23)
   have hpl':∀r∈rows,¬Plain r:=λr h1 h2=>hpl ⟨r,h1,h2⟩
   have na:(rows.map λr=>decide (Plain r)).any id=false:=by
    rw[List.any_eq_false]
    intro x hx
    obtain⟨r,h1,rfl⟩:=List.mem_map.mp hx
    rw[decide_eq_false (hpl' r h1)]
    decide
   rw[na]
   refine iteF ?_
   have hp3:=s23 _ _ hp
   refine⟨_,rfl,p,bs,rows.map keyN,rfl,hp3,by rw[List.length_map];exact hlen,λi b ks e1 e2=>?_,by rw[List.length_map];lia,λr m hr' hm1 hm2=>?_⟩
   ·rw[List.getElem?_map] at e2
    obtain⟨r0,hr0,rfl⟩:=Option.map_eq_some_iff.mp e2
    rw[keyN_V]
    exact s23 _ _ (hrow i b r0 e1 hr0)
   ·rw[List.length_map] at hm1 hm2
    have s4:Same H (upd H3 r (.ext (SetN r m))):=s23.trans (sameU hr')
    have hp4:=s4 _ _ hp
    refine⟨r,_,rfl,upd_same,by lia,_,rfl,p,_,rfl,.inr (SqT.of hp4),_,_,rfl,rfl,_,rfl,?_⟩
    by_cases hnd:rows.Nodup
    rotate_left
    ·have nl:decide ((m:Int)<((bs.map V.ref).length:Int))=true:=decide_eq_true (by
      have:m≠rows.length:=λz=>hnd (keys_nodup_iff.mp (hm2.mp z))
      rw[hlb];lia)
     rw[nl]
     exact iteT (no (λc=>hnd c.unlike) s4)
    have nl:decide ((m:Int)<((bs.map V.ref).length:Int))=false:=decide_eq_false (by
     have:=hm2.mpr (keys_nodup hnd)
     rw[hlb];lia)
    rw[nl]
    refine iteF ?_
    refine (λ(go:∀H5,Same H H5->_)=>go _ s4) ?_
    intro H5 s5
    refine⟨_,rfl,_,rfl,p,tp,rows,rfl,(hRows.same s5).s,ok,hl,htp,hd,λH6 D6 s6 hd6=>?_⟩
    have hp6:=s6 _ _ (s5 _ _ hp)
    refine⟨_,rfl,p,_,rfl,.inr (SqT.of hp6),_,rfl,λg hg=>⟨g,rows.length,rfl,by rw[upd_same,hlb],by lia,λl hl'=>?_⟩⟩
    have hd7:=keepU (u:=.lst ((List.range rows.length).map λ(i:Nat)=>V.int (i:Int))) (keepU (u:=.rng 0 ((bs.map V.ref).length:Int)) hd6 hg) hl'
    rw[vN_int] at hd7
    have e9:((List.range rows.length).map λ(i:Nat)=>V.int (i:Int))=((List.range rows.length).map λn:Nat=>(n:Int)).map V.int:=vN_int _
    refine⟨dL ((dfs rows n [] tp).map λn:Nat=>(n:Int)),dL ((List.range rows.length).map λn:Nat=>(n:Int)),.lst hd7 (DatasAt.ints _),.lst upd_same (e9▸DatasAt.ints _),dL_lay _,dL_lay _,?_,?_⟩
    ·exact Nat.le_trans (dL_depth _) (by decide)
    ·rw[dL_eqv]
     refine q _ _ ⟨λz=>⟨hn,ok,htp,hd,hpl',hnd,int_inj (of_decide_eq_true z)⟩,λc=>decide_eq_true (by rw[c.ends])⟩ (s5.trans (s6.trans ((sameU hg).trans (sameU hl'))))
end
end Pr
namespace L2
open PySem PySem.Spec PyProof.Rows
mutual
inductive DatX (H:Hp):V->PyData->Prop
 |non:DatX H .non .none
 |bl (b:Bool):DatX H (.bl b) (.bool b)
 |int (i:Int):DatX H (.int i) (.int i)
 |str (x:Str):DatX H (.str x) (.str x)
 |lst {a:Addr}{xs:List V}{ds:List PyData}(h:H a=some (.lst xs)) (r:DatsX H xs ds):DatX H (.ref a) (.list ds)
 |tup {a:Addr}{xs:List V}{ds:List PyData}(h:H a=some (.tup xs)) (r:DatsX H xs ds):DatX H (.ref a) (.tuple ds)
 |dic {a:Addr}(h:H a=some (.dK [])):DatX H (.ref a) (.dict [])
inductive DatsX (H:Hp):List V->List PyData->Prop
 |nil:DatsX H [] []
 |cons {x:V}{xs:List V}{d:PyData}{ds:List PyData}(h:DatX H x d) (r:DatsX H xs ds):DatsX H (x::xs) (d::ds)
end
section
variable {H:Hp}
mutual
theorem DatX.same {H':Hp}(s:∀b o,H b=some o->H' b=some o):∀{x:V}{d:PyData},DatX H x d->DatX H' x d
 |_,_,.non=>.non
 |_,_,.bl b=>.bl b
 |_,_,.int i=>.int i
 |_,_,.str x=>.str x
 |_,_,.lst e r=>.lst (s _ _ e) (DatsX.same s r)
 |_,_,.tup e r=>.tup (s _ _ e) (DatsX.same s r)
 |_,_,.dic e=>.dic (s _ _ e)
theorem DatsX.same {H':Hp}(s:∀b o,H b=some o->H' b=some o):∀{xs:List V}{ds:List PyData},DatsX H xs ds->DatsX H' xs ds
 |_,_,.nil=>.nil
 |_,_,.cons h r=>.cons (DatX.same s h) (DatsX.same s r)
end
mutual
theorem DatX.of:∀{x:V}{d:PyData},DataAt H x d->DatX H x d
 |_,_,.non=>.non
 |_,_,.bl b=>.bl b
 |_,_,.int i=>.int i
 |_,_,.str x=>.str x
 |_,_,.lst e r=>.lst e (DatsX.of r)
 |_,_,.tup e r=>.tup e (DatsX.of r)
theorem DatsX.of:∀{xs:List V}{ds:List PyData},DatasAt H xs ds->DatsX H xs ds
 |_,_,.nil=>.nil
 |_,_,.cons h r=>.cons (DatX.of h) (DatsX.of r)
end
theorem DatsX.get:∀{xs:List V}{ds:List PyData}{i:Nat}{x:V},DatsX H xs ds->xs[i]?=some x->∃d,ds[i]?=some d/\DatX H x d
 |_,_,_,_,.nil,e=>by simp at e
 |_,_,0,_,.cons h r,e=>by simp at e;subst e;exact⟨_,rfl,h⟩
 |_,_,i+1,x,.cons h r,e=>by
  obtain⟨d,e1,e2⟩:=DatsX.get (i:=i) (x:=x) r (by simpa using e)
  exact⟨d,by simpa using e1,e2⟩
theorem DatsX.length:∀{xs:List V}{ds:List PyData},DatsX H xs ds->xs.length=ds.length
 |_,_,.nil=>rfl
 |_,_,.cons h r=>by rw[List.length_cons,List.length_cons,DatsX.length r]
def tyD:PyData->Value
 |.none=>.type "NoneType"
 |.bool _=>.type "bool"
 |.int _=>.type "int"
 |.str _=>.type "str"
 |.list _=>.type "list"
 |.tuple _=>.type "tuple"
 |.dict _=>.type "dict"
theorem DatX.ty {K:PySem.W.Frag}:∀{x:V}{d:PyData},DatX H x d->TyOf K H x (tyD d)
 |_,_,.non=>.non
 |_,_,.bl b=>.bl b
 |_,_,.int i=>.int i
 |_,_,.str x=>.str x
 |_,_,.lst e _=>.lst e
 |_,_,.tup e _=>.tup e
 |_,_,.dic e=>.dK e
def isI:PyData->Bool
 |.int _=>true
 |_=>false
def isIB:PyData->Bool
 |.int _=>true
 |.bool _=>true
 |_=>false
def isB:PyData->Bool
 |.bool _=>true
 |_=>false
def isT:PyData->Bool
 |.tuple _=>true
 |_=>false
theorem kit_int {K:PySem.W.Frag}(d:PyData):PySem.W.kitOne K (tyD d) (.type "int")=some (isIB d):=by cases d<;>rfl
theorem kit_bool {K:PySem.W.Frag}(d:PyData):PySem.W.kitOne K (tyD d) (.type "bool")=some (isB d):=by cases d<;>rfl
theorem kit_tuple {K:PySem.W.Frag}(d:PyData):PySem.W.kitOne K (tyD d) (.type "tuple")=some (isT d):=by cases d<;>rfl
def wholeD (most:Nat):PyData->Bool
 |.int i=>decide (0<=i/\i<=(most:Int))
 |_=>false
def rowD (before:Nat):PyData->Bool
 |.tuple xs=>xs.length==4&&xs.all (wholeD (before+1))
 |_=>false
def rowsD:PyData->Bool
 |.tuple rs=>rs.zipIdx.all λp=>rowD p.2 p.1
 |_=>false
end
end L2
namespace Pr
open PySem L2 Qf
section
variable {P:Program}{w:World}{K:PySem.W.Frag}{mg:Str->Option Value}{base:Heap}
def spWhole3:Sp:=λvs H Q _=>∃(v:V) (d:PyData),vs=[v]/\DatX H v d/\Q (.bl (isI d)) H
theorem ok_whole3 {f:Addr}{fd:FuncData}(F:Fun K "is_whole" "is_whole" sWhole f fd) (B:Blt mg):FnOk P w K mg base CX0 1 f fd ["thing"] spWhole3:=by
 refine F.ok scWhole (λvs H Q E h=>?_) (λcdv A outer s H vs Q E hr h=>?_)
 ·obtain⟨v,d,rfl,_⟩:=h
  rfl
 ·obtain⟨v,d,rfl,hd,q⟩:=h
  refine⟨_,pss_one (ps_ret (pe_and (pe_callB call_isi (by rfl) B.isi PyProof.Rows.boot_isinstance (pa_cons (pv 0) (pa_cons (pe_bltn (v:=.ty "int") (by rfl) B.int PyProof.Rows.boot_int rfl) pa_nil)))
   (pe_one (pe_not (pe_callB call_isi (by rfl) B.isi PyProof.Rows.boot_isinstance (pa_cons (pv 0) (pa_cons (pe_bltn (v:=.ty "bool") (by rfl) B.bool PyProof.Rows.boot_bool rfl) pa_nil))))))),?_⟩
  refine⟨_,rfl,_,_,_,_,_,rfl,rfl,.inl hd.ty,kit_int d,_,rfl,?_⟩
  by_cases hI:isIB d=true
  ·rw[hI]
   refine iteT ⟨_,rfl,_,_,_,_,_,rfl,rfl,.inl hd.ty,kit_bool d,_,rfl,?_⟩
   have e:isI d=!isB d:=by cases d<;>first|rfl|cases hI
   rw[e] at q
   exact q
  ·have e1:isIB d=false:=by simpa using hI
   have e2:isI d=false:=by cases d<;>first|rfl|cases e1
   rw[e1]
   rw[e2] at q
   exact iteF q
def spSize3:Sp:=λvs H Q _=>∃(v:V) (d:PyData),vs=[v]/\DatX H v d/\Q (.bl (wholeD 12 d)) H
theorem ok_size3 {f fW:Addr}{fd fdW:FuncData}(F:Fun K "is_size" "is_size" sSize f fd) (B:Blt mg) (T:Cst mg) (hW:mg "is_whole" = some (.ref fW)) (FW:Fun K "is_whole" "is_whole" sWhole fW fdW) (bW:Binds K fdW ["thing"] []):FnOk P w K mg base CX0 2 f fd ["thing"] spSize3:=by
 have GW:FnOk P w K mg base CX0 1 fW fdW ["thing"] spWhole3:=ok_whole3 FW B
 obtain⟨tg,hgr⟩:=T.great
 refine F.ok scSize (λvs H Q E h=>?_) (λcdv A outer s H vs Q E hr h=>?_)
 ·obtain⟨v,d,rfl,_⟩:=h
  rfl
 ·obtain⟨v,d,rfl,hd,q⟩:=h
  refine⟨_,pss_one (ps_ret (pe_and (pe_call GW hr (by rfl) hW FW.kp bW .nil pass0 (pa_cons (pv 0) pa_nil)) (pe_one (pe_chain op_le op_le pe_int (pv 0) (pe_glob (v:=.int 12) (by rfl) hgr ⟨_,rfl⟩))))),?_⟩
  refine⟨_,rfl,v,d,rfl,hd,_,rfl,?_⟩
  cases hd with
  |int n=>
   refine iteT ⟨_,rfl,_,_,rfl,rfl,_,rfl,?_⟩
   refine ite2 (λh1=>⟨_,_,rfl,rfl,?_⟩) (λh1=>?_)
   ·have h0:=of_decide_eq_true h1
    have e:decide ((n:Int)<=12)=wholeD 12 (.int n):=by
     show _=decide (0<=n/\n<=((12:Nat):Int))
     by_cases z:n<=12
     ·rw[decide_eq_true z,decide_eq_true ⟨h0,z⟩]
     ·rw[decide_eq_false z,decide_eq_false λy=>z y.2]
    show Q (V.bl (decide ((n:Int)<=12))) H
    rw[e];exact q
   ·have h0:¬(0:Int)<=n:=λz=>h1 (decide_eq_true z)
    have e:wholeD 12 (.int n)=false:=decide_eq_false λy=>h0 y.1
    rw[e] at q
    exact q
  |_=>exact iteF q
def spNumber3:Sp:=λvs H Q _=>∃(v:V) (d:PyData) (m:Nat),vs=[v,.int (m:Nat)]/\DatX H v d/\Q (.bl (wholeD (m+1) d)) H
theorem ok_number3 {f fW:Addr}{fd fdW:FuncData}(F:Fun K "is_number" "is_number" sNumber f fd) (B:Blt mg) (T:Cst mg) (hW:mg "is_whole" = some (.ref fW)) (FW:Fun K "is_whole" "is_whole" sWhole fW fdW) (bW:Binds K fdW ["thing"] []):FnOk P w K mg base CX0 2 f fd ["thing", "many"] spNumber3:=by
 have GW:FnOk P w K mg base CX0 1 fW fdW ["thing"] spWhole3:=ok_whole3 FW B
 obtain⟨tf,hf⟩:=T.first
 refine F.ok scNumber (λvs H Q E h=>?_) (λcdv A outer s H vs Q E hr h=>?_)
 ·obtain⟨v,d,m,rfl,_⟩:=h
  rfl
 ·obtain⟨v,d,m,rfl,hd,q⟩:=h
  refine⟨_,pss_one (ps_ret (pe_and (pe_call GW hr (by rfl) hW FW.kp bW .nil pass0 (pa_cons (pv 0) pa_nil)) (pe_one (pe_chain op_le op_lt pe_int (pv 0) (pe_op op_add (pv 1) (pe_glob (v:=.int 2) (by rfl) hf ⟨_,rfl⟩)))))),?_⟩
  refine⟨_,rfl,v,d,rfl,hd,_,rfl,?_⟩
  cases hd with
  |int n=>
   refine iteT ⟨_,rfl,_,_,rfl,rfl,_,rfl,?_⟩
   refine ite2 (λh1=>⟨_,rfl,_,_,rfl,rfl,_,_,rfl,rfl,?_⟩) (λh1=>?_)
   ·have h0:=of_decide_eq_true h1
    have e:decide ((n:Int)<(m:Int)+2)=wholeD (m+1) (.int n):=by
     show _=decide (0<=n/\n<=((m+1:Nat):Int))
     by_cases z:n<(m:Int)+2
     ·rw[decide_eq_true z,decide_eq_true ⟨h0,by lia⟩]
     ·rw[decide_eq_false z,decide_eq_false λy=>z (by have:=y.2;lia)]
    show Q (V.bl (decide ((n:Int)<(m:Int)+2))) H
    rw[e];exact q
   ·have h0:¬(0:Int)<=n:=λz=>h1 (decide_eq_true z)
    have e:wholeD (m+1) (.int n)=false:=decide_eq_false λy=>h0 y.1
    rw[e] at q
    exact q
  |_=>exact iteF q
end
end Pr
namespace Pr
open PySem L2 Qf
theorem whole_of {m:Nat}{d:PyData}(h:wholeD m d=true):∃x:Nat,d=.int (x:Nat)/\x<=m:=by
 cases d with
 |int i=>
  have h:decide (0<=i/\i<=(m:Int))=true:=h
  obtain⟨h1,h2⟩:=of_decide_eq_true h
  exact⟨i.toNat,by rw[Int.toNat_of_nonneg h1],by lia⟩
 |_=>cases h
theorem wholes_of {m:Nat}:∀{ds:List PyData},ds.all (wholeD m)=true->∃r:Row,ds=(r.map λx:Nat=>(x:Int)).map PyData.int/\∀x∈r,x<=m
 |[],_=>⟨[],rfl,λx hx=>nomatch hx⟩
 |d::ds,h=>by
  rw[List.all_cons,Bool.and_eq_true] at h
  obtain⟨x,rfl,hx⟩:=whole_of h.1
  obtain⟨r,rfl,hr⟩:=wholes_of h.2
  exact⟨x::r,rfl,λy hy=>by
   rcases List.mem_cons.mp hy with rfl|hy
   ·exact hx
   ·exact hr y hy⟩
def dR (r:Row):PyData:=dT (r.map λx:Nat=>(x:Int))
theorem row_of {i:Nat}{d:PyData}(h:rowD i d=true):∃r:Row,d=dR r/\RowOk i r:=by
 cases d with
 |tuple xs=>
  have h:(xs.length==4&&xs.all (wholeD (i+1)))=true:=h
  rw[Bool.and_eq_true] at h
  obtain⟨r,rfl,hr⟩:=wholes_of h.2
  have hl:r.length=4:=by simpa using h.1
  exact⟨r,rfl,hl,λx hx=>by have:=hr x hx;lia⟩
 |_=>cases h
theorem rows_of_aux:∀{rs:List PyData}{k:Nat},(rs.zipIdx k).all (λp=>rowD p.2 p.1)=true->∃rows:List Row,rs=rows.map dR/\∀i r,rows[i]?=some r->RowOk (k+i) r
 |[],k,_=>⟨[],rfl,λi r h=>by simp at h⟩
 |d::rs,k,h=>by
  rw[List.zipIdx_cons,List.all_cons,Bool.and_eq_true] at h
  obtain⟨r,rfl,hr⟩:=row_of h.1
  obtain⟨rows,rfl,hrs⟩:=rows_of_aux h.2
  refine⟨r::rows,rfl,λi q hq=>?_⟩
  cases i with
  |zero=>
   cases hq
   exact hr
  |succ i=>
   have:=hrs i q hq
   rw[show k+(i+1)=k+1+i by lia]
   exact this
theorem rows_of {d:PyData}(h:rowsD d=true):∃rows:List Row,d=.tuple (rows.map dR)/\RowsOk rows:=by
 cases d with
 |tuple rs=>
  obtain⟨rows,rfl,hr⟩:=rows_of_aux (k:=0) h
  exact⟨rows,rfl,λi r hi=>by have:=hr i r hi;rwa [Nat.zero_add] at this⟩
 |_=>cases h
theorem dats_ints {H:Hp}:∀{xs:List V}{r:Row},DatsX H xs ((r.map λx:Nat=>(x:Int)).map PyData.int)->xs=vN r
 |_,[],.nil=>rfl
 |_,x::r,.cons h t=>by
  cases h
  rw[dats_ints t]
  rfl
theorem dat_row {H:Hp}{v:V}{r:Row}(h:DatX H v (dR r)):∃b,v=.ref b/\H b=some (.tup (vN r)):=by
 cases h with
 |tup e t=>exact⟨_,rfl,by rw[e,dats_ints t]⟩
theorem dats_rows {H:Hp}:∀{xs:List V}{rows:List Row},DatsX H xs (rows.map dR)->∃bs:List Addr,xs=bs.map V.ref/\bs.length=rows.length/\∀(i:Nat) b r,bs[i]?=some b->rows[i]?=some r->H b=some (.tup (vN r))
 |_,[],.nil=>⟨[],rfl,rfl,λi b r e=>by simp at e⟩
 |_,r::rows,.cons h t=>by
  obtain⟨b,rfl,hb⟩:=dat_row h
  obtain⟨bs,rfl,hl,hr⟩:=dats_rows t
  refine⟨b::bs,rfl,by rw[List.length_cons,List.length_cons,hl],λi c q e1 e2=>?_⟩
  cases i with
  |zero=>
   cases e1
   cases e2
   exact hb
  |succ i=>exact hr i c q e1 e2
theorem dat_rows {H:Hp}{v:V}{rows:List Row}(h:DatX H v (.tuple (rows.map dR))):∃p,v=.ref p/\RowsAt H p rows:=by
 cases h with
 |tup e t=>
  obtain⟨bs,rfl,h1,h2⟩:=dats_rows t
  exact⟨_,rfl,bs,e,h1,h2⟩
section
variable {P:Program}{w:World}{K:PySem.W.Frag}{mg:Str->Option Value}{base:Heap}
def spRow3:Sp:=λvs H Q _=>∃(v:V) (d:PyData) (i:Nat),vs=[v,.int (i:Nat)]/\DatX H v d/\∀H',Same H H'->Q (.bl (rowD i d)) H'
theorem ok_row3 {f fN:Addr}{fd fdN:FuncData}(F:Fun K "is_row" "is_row" sRow f fd) (B:Blt mg) (hN:mg "is_number" = some (.ref fN)) (FN:Fun K "is_number" "is_number" sNumber fN fdN) (bN:Binds K fdN ["thing", "many"] []) (GN:FnOk P w K mg base CX0 2 fN fdN ["thing", "many"] spNumber3):FnOk P w K mg base CX0 3 f fd ["thing", "before"] spRow3:=by
 refine F.ok scRow (λvs H Q E h=>?_) (λcdv A outer s H vs Q E hr h=>?_)
 ·obtain⟨v,d,i,rfl,_⟩:=h
  rfl
 ·obtain⟨v,d,i,rfl,hd,q⟩:=h
  refine⟨_,pss_cons (ps_if (pw_or (pt_not (pt_val (pe_callB call_isi (by rfl) B.isi PyProof.Rows.boot_isinstance (pa_cons (pv 0) (pa_cons (pe_bltn (v:=.ty "tuple") (by rfl) B.tuple PyProof.Rows.boot_tuple rfl) pa_nil)))))
    (pw_or1 (pt_cmpR op_ne (pe_callB call_len_seq (by rfl) B.len PySem.boot_len (pa_cons (pv 0) pa_nil)) pe_int (nomark _)))).pt (pss_one (ps_ret pe_bl)) pss_nil)
   (pss_one (ps_ret (pe_callB (call_allL rfl) (by rfl) B.all PyProof.Rows.boot_all (pa_cons (pe_compB ["thing", "before"] (defScope sRow) rfl rfl rfl scRow.nd (piT K rfl (pv 0)) (λcl C fp s₀ H₀=>pe_call GN hr (by rfl) hN FN.kp bN .nil pass0 (pa_cons (pv 0) (pa_cons (pv 2) pa_nil)))) pa_nil)))),?_⟩
  refine⟨_,rfl,_,_,_,_,_,rfl,rfl,.inl hd.ty,kit_tuple d,_,rfl,?_⟩
  cases hd with
  |@tup b xs ds hb r=>
   refine iteF ⟨_,rfl,b,_,rfl,.inr (SqT.of hb),rfl,_,rfl,?_⟩
   have hl:=r.length
   by_cases h4:xs.length=4
   ·refine iteNS (by rw[h4];rfl) ?_
    refine⟨_,rfl,b,rfl,⟨_,SqT.of hb⟩,λD hD=>comp_walk hD (λj z _=>∃d,ds[j]?=some d/\z=.bl (wholeD (i+1) d)) (goes_tup (K:=K) hb) (by rw[h4];decide) (λ_ _ _ _ _ _ h=>h) ?_ ?_⟩
    ·intro j x H3 hj hx s3 Q' hq
     obtain⟨d,e1,e2⟩:=r.get hx
     exact⟨_,rfl,_,rfl,x,d,i,rfl,e2.same s3,hq _ _ (Same.refl _) ⟨d,e1,rfl⟩⟩
    ·intro ys H3 s3 hd3 hly hys
     have e:ys=(ds.map (wholeD (i+1))).map V.bl:=by
      refine list_ext (by rw[hly,hl];simp) λj x hx=>?_
      obtain⟨d,e1,rfl⟩:=hys j x hx
      rw[List.getElem?_map,List.getElem?_map,e1];rfl
     refine⟨D,ds.map (wholeD (i+1)),rfl,by rw[<- e];exact hd3,?_⟩
     have ea:(ds.map (wholeD (i+1))).all id=rowD i (.tuple ds):=by
      show _=(ds.length==4&&ds.all (wholeD (i+1)))
      rw[<- hl,h4,List.all_map]
      rfl
     rw[ea]
     exact q H3 s3
   ·have e1:(decide (V.int ((xs.length:Nat):Int)=V.int 4))=false:=decide_eq_false λz=>h4 (by have:=V.int.inj z;lia)
    rw[e1]
    refine iteT ?_
    have e2:rowD i (.tuple ds)=false:=by
     show (ds.length==4&&ds.all (wholeD (i+1)))=false
     rw[<- hl,show (xs.length==4)=false by rw[beq_eq_false_iff_ne];exact h4]
     rfl
    have:=q H (Same.refl _)
    rw[e2] at this
    exact this
  |_=>exact iteT (q H (Same.refl _))
def spRows3:Sp:=λvs H Q _=>∃(v:V) (d:PyData),vs=[v]/\DatX H v d/\(∀ds,d=.tuple ds->ds.length<=900)/\∀H',Same H H'->Q (.bl (rowsD d)) H'
theorem ok_rows3 {f fR:Addr}{fd fdR:FuncData}(F:Fun K "are_rows" "are_rows" sRows f fd) (B:Blt mg) (hR:mg "is_row" = some (.ref fR)) (FR:Fun K "is_row" "is_row" sRow fR fdR) (bR:Binds K fdR ["thing", "before"] []) (GR:FnOk P w K mg base CX0 3 fR fdR ["thing", "before"] spRow3):FnOk P w K mg base CX0 4 f fd ["thing"] spRows3:=by
 refine F.ok scRows (λvs H Q E h=>?_) (λcdv A outer s H vs Q E hr h=>?_)
 ·obtain⟨v,d,rfl,_⟩:=h
  rfl
 ·obtain⟨v,d,rfl,hd,hb9,q⟩:=h
  refine⟨_,pss_one (ps_ret (pe_and (pe_callB call_isi (by rfl) B.isi PyProof.Rows.boot_isinstance (pa_cons (pv 0) (pa_cons (pe_bltn (v:=.ty "tuple") (by rfl) B.tuple PyProof.Rows.boot_tuple rfl) pa_nil)))
   (pe_one (pe_callB (call_allL rfl) (by rfl) B.all PyProof.Rows.boot_all (pa_cons (pe_comp2 ["thing"] (defScope sRows) rfl rfl rfl scRows.nd (pi_enumT (by rfl) B.enum (pa_cons (pv 0) pa_nil)) (λcl C fp s₀ H₀=>pe_call GR hr (by rfl) hR FR.kp bR .nil pass0 (pa_cons (pv 1) (pa_cons (pv 0) pa_nil)))) pa_nil))))),?_⟩
  refine⟨_,rfl,_,_,_,_,_,rfl,rfl,.inl hd.ty,kit_tuple d,_,rfl,?_⟩
  cases hd with
  |@tup p xs ds hp r=>
   refine iteT ?_
   have hl:=r.length
   have h9:=hb9 ds rfl
   refine⟨_,rfl,p,rfl,⟨_,SqT.of hp⟩,λD hD=>compG_walk hD (λ_=>true) (λj=>.bl (rowD j (ds.getD j .none))) (goes_enum (K:=K) hp) (by rw[hl];exact small1000 (by lia)) ?_ ?_⟩
   ·rintro i x H2 hi ⟨t,y,rfl,hy,ht⟩ s2 os ho Q1 Q2 q1 q2
    match os,ho with
    |[o1,o2],_=>
     obtain⟨d,e1,e2⟩:=r.get hy
     refine⟨t,_,rfl,SqT.of ht,rfl,_,_,rfl,_,_,rfl,rfl,?_⟩
     refine iteT (B:=Q1 H2) ?_
     refine⟨_,rfl,_,rfl,y,d,i,rfl,e2.same s2,λH3 s3=>?_⟩
     have:=q2 rfl H3 s3
     have e3:ds.getD i .none=d:=by rw[List.getD_eq_getElem?_getD,e1];rfl
     rw[e3] at this
     exact this
   ·intro H2 s2 hd2
    refine⟨D,(List.range ds.length).map λj=>rowD j (ds.getD j .none),rfl,?_,?_⟩
    ·rw[hd2,hl,List.filter_eq_self.mpr (λ_ _=>rfl),List.map_map]
     rfl
    ·have ea:((List.range ds.length).map λj=>rowD j (ds.getD j .none)).all id=rowsD (.tuple ds):=by
      show _=ds.zipIdx.all λp=>rowD p.2 p.1
      have ez:ds.zipIdx=(List.range ds.length).map λj=>(ds.getD j .none,j):=by
       apply List.ext_getElem?
       intro j
       rw[List.getElem?_zipIdx,List.getElem?_map]
       by_cases hj:j<ds.length
       ·rw[List.getElem?_range hj,List.getElem?_eq_getElem hj]
        simp[List.getD,hj]
       ·rw[List.getElem?_eq_none (by lia),List.getElem?_eq_none (by rw[List.length_range];lia)]
        rfl
      rw[ez,List.all_map,List.all_map]
      rfl
     rw[ea]
     exact q H2 s2
  |_=>exact iteF (q H (Same.refl _))
end
end Pr
namespace Pr
open PySem L2 Qf
theorem fn_or {P:Program}{w:World}{K:PySem.W.Frag}{mg:Str->Option Value}{base:Heap}{CX:CXT}{k:Nat}{f:Addr}{fd:FuncData}{ps:List Str}{sp sp':Sp}(F:FnOk P w K mg base CX k f fd ps sp) (G:FnOk P w K mg base CX k f fd ps sp') :
  FnOk P w K mg base CX k f fd ps (λvs H Q E=>sp vs H Q E\/sp' vs H Q E):=
 ⟨λvs H Q E h=>h.elim (F.len vs H Q E) (G.len vs H Q E),λA outer s H args us vs Q E hr en b v h=>h.elim (F.run A outer s H args us vs Q E hr en b v) (G.run A outer s H args us vs Q E hr en b v)⟩
def TlD (d:PyData) (n tp:Nat) (rows:List Row):Prop:=d=dTell n tp rows/\n<=12/\RowsOk rows/\tp<rows.length+2
theorem dR_inj {a b:Row}(h:dR a=dR b):a=b:=by
 have h1:(a.map λx:Nat=>(x:Int)).map PyData.int=(b.map λx:Nat=>(x:Int)).map PyData.int:=PyData.tuple.inj h
 exact int_inj ((List.map_inj_right (λ_ _ z=>PyData.int.inj z)).mp h1)
theorem dTell_inj {n n' tp tp':Nat}{rows rows':List Row}(h:dTell n tp rows=dTell n' tp' rows'):n=n'/\tp=tp'/\rows=rows':=by
 have h1:=PyData.tuple.inj h
 injection h1 with e1 h2
 injection h2 with e2 h3
 injection h3 with e3 _
 have e1:=PyData.int.inj e1
 have e2:=PyData.int.inj e2
 have e3:rows.map dR=rows'.map dR:=PyData.tuple.inj e3
 exact⟨by lia,by lia,(List.map_inj_right (λ_ _ z=>dR_inj z)).mp e3⟩
theorem dat_tell {H:Hp}{v:V}{n tp:Nat}{rows:List Row}(h:DatX H v (dTell n tp rows)):∃t,v=.ref t/\TellAt H t n tp rows:=by
 cases h with
 |@tup t xs _ e r=>
  cases r with
  |cons h0 r=>
   cases h0
   cases r with
   |cons h1 r=>
    cases h1
    cases r with
    |cons h2 r=>
     cases r
     obtain⟨p,rfl,hR⟩:=dat_rows (rows:=rows) h2
     exact⟨t,rfl,p,e,hR⟩
def Bnd (d:PyData):Prop:=∀d0 d1 ds,d=.tuple [d0,d1,.tuple ds]->ds.length<=900
section
variable {P:Program}{w:World}{K:PySem.W.Frag}{mg:Str->Option Value}{base:Heap}
def spTellNo:Sp:=λvs H Q _=>∃(v:V) (d:PyData),vs=[v]/\DatX H v d/\Bnd d/\(∀n tp rows,¬TlD d n tp rows)/\∀H',Same H H'->Q (.bl false) H'
theorem ok_tellNo {f fS fR fN fD:Addr}{fd fdS fdR fdN fdD:FuncData}(F:Fun K "is_telling" "is_telling" sTelling f fd) (B:Blt mg)
  (hS:mg "is_size" = some (.ref fS)) (FS:Fun K "is_size" "is_size" sSize fS fdS) (bS:Binds K fdS ["thing"] []) (GS:FnOk P w K mg base CX0 2 fS fdS ["thing"] spSize3)
  (hR:mg "are_rows" = some (.ref fR)) (FR:Fun K "are_rows" "are_rows" sRows fR fdR) (bR:Binds K fdR ["thing"] []) (GR:FnOk P w K mg base CX0 4 fR fdR ["thing"] spRows3)
  (hN:mg "is_number" = some (.ref fN)) (FN:Fun K "is_number" "is_number" sNumber fN fdN) (bN:Binds K fdN ["thing", "many"] []) (GN:FnOk P w K mg base CX0 2 fN fdN ["thing", "many"] spNumber3)
  (hD:mg "depths_of" = some (.ref fD)) (FD:Fun K "depths_of" "depths_of" sDeps fD fdD) (bD:Binds K fdD ["rows"] []):FnOk P w K mg base CX0 5 f fd ["thing"] spTellNo:=by
 have GD:FnOk P w K mg base CX0 1 fD fdD ["rows"] spDeps:=ok_deps FD B
 refine F.ok scTelling (λvs H Q E h=>?_) (λcdv A outer s H vs Q E hr h=>?_)
 ·obtain⟨v,d,rfl,_⟩:=h
  rfl
 ·obtain⟨v,d,rfl,hd,bnd,no,q⟩:=h
  have hr1:Room 1 _:=hr.mono (by decide)
  have hr2:Room 2 _:=hr.mono (by decide)
  refine⟨_,pss_cons (ps_if (pw_or (pt_not (pt_val (pe_callB call_isi (by rfl) B.isi PyProof.Rows.boot_isinstance (pa_cons (pv 0) (pa_cons (pe_bltn (v:=.ty "tuple") (by rfl) B.tuple PyProof.Rows.boot_tuple rfl) pa_nil)))))
    (pw_or1 (pt_cmpR op_ne (pe_callB call_len_seq (by rfl) B.len PySem.boot_len (pa_cons (pv 0) pa_nil)) pe_int (nomark _)))).pt (pss_one (ps_ret pe_bl)) pss_nil)
   (pss_cons (ps_asg (pv 0) (pg_tup rfl (pgs_cons (pg_name (i:=1) scTelling.nd rfl (Or.inl rfl)) (pgs_cons (pg_name (i:=2) scTelling.nd rfl (Or.inl rfl)) (pgs_cons (pg_name (i:=3) scTelling.nd rfl (Or.inl rfl)) pgs_nil)))))
   (pss_cons (ps_if (pw_or (pt_not (pt_val (pe_call GS hr2 (by rfl) hS FS.kp bS .nil pass0 (pa_cons (pv 1) pa_nil))))
    (pw_or (pt_not (pt_val (pe_call GR hr (by rfl) hR FR.kp bR .nil pass0 (pa_cons (pv 3) pa_nil))))
    (pw_or1 (pt_not (pt_val (pe_call GN hr2 (by rfl) hN FN.kp bN .nil pass0 (pa_cons (pv 2) (pa_cons (pe_callB call_len_seq (by rfl) B.len PySem.boot_len (pa_cons (pv 3) pa_nil)) pa_nil)))))))).pt (pss_one (ps_ret pe_bl)) pss_nil)
   (pss_one (ps_ret (pe_cmpR op_le (pe_ix ix_list (pe_call GD hr1 (by rfl) hD FD.kp bD .nil pass0 (pa_cons (pv 3) pa_nil)) (pv 2) (λ_ _=>rfl)) (pv 1) (nomark _)))))),?_⟩
  refine⟨_,rfl,_,_,_,_,_,rfl,rfl,.inl hd.ty,kit_tuple d,_,rfl,?_⟩
  cases hd with
  |@tup t xs ds ht r=>
   refine iteF ⟨_,rfl,t,_,rfl,.inr (SqT.of ht),rfl,_,rfl,?_⟩
   have hl:=r.length
   by_cases h3:xs.length=3
   rotate_left
   ·have e1:(decide (V.int ((xs.length:Nat):Int)=V.int 3))=false:=decide_eq_false λz=>h3 (by have:=V.int.inj z;lia)
    rw[e1]
    exact iteT (q H (Same.refl _))
   refine iteNS (by rw[h3];rfl) ?_
   match xs,ds,h3,r,ht,bnd,no with
   |[x0,x1,x2],[d0,d1,d2],_,.cons r0 (.cons r1 (.cons r2 .nil)),ht,bnd,no=>
    refine⟨_,rfl,t,_,rfl,SqT.of ht,rfl,_,_,rfl,_,_,rfl,_,_,rfl,rfl,?_⟩
    refine⟨_,rfl,x0,d0,rfl,r0,_,rfl,?_⟩
    by_cases w0:wholeD 12 d0=true
    rotate_left
    ·rw[show wholeD 12 d0=false by simpa using w0]
     exact iteT (q H (Same.refl _))
    rw[w0]
    refine iteF ⟨_,rfl,x2,d2,rfl,r2,λds e=>bnd d0 d1 ds (by rw[e]),λH2 s2=>⟨_,rfl,?_⟩⟩
    by_cases w2:rowsD d2=true
    rotate_left
    ·rw[show rowsD d2=false by simpa using w2]
     exact iteT (q H2 s2)
    rw[w2]
    obtain⟨rows,rfl,ok⟩:=rows_of w2
    obtain⟨p,rfl,hRw⟩:=dat_rows (r2.same s2)
    obtain⟨bs,hp,hlen,_⟩:=id hRw
    refine iteF ⟨_,rfl,_,rfl,p,_,rfl,.inr (SqT.of hp),x1,d1,rows.length,by rw[List.length_map,hlen];rfl,r1.same s2,_,rfl,?_⟩
    by_cases w1:wholeD (rows.length+1) d1=true
    rotate_left
    ·rw[show wholeD (rows.length+1) d1=false by simpa using w1]
     exact iteT (q H2 s2)
    exfalso
    obtain⟨n,rfl,hn⟩:=whole_of w0
    obtain⟨tp,rfl,htp⟩:=whole_of w1
    exact no n tp rows ⟨rfl,hn,ok,by lia⟩
  |_=>exact iteT (q H (Same.refl _))
theorem bnd_rows {n tp:Nat}{rows:List Row}(h:Bnd (dTell n tp rows)):rows.length<=900:=by
 have:=h (.int (n:Nat)) (.int (tp:Nat)) (rows.map dR) rfl
 rwa [List.length_map] at this
def spShapeNo:Sp:=λvs H Q _=>∃(v:V) (d:PyData),vs=[v]/\DatX H v d/\Bnd d/\(∀n tp rows,¬TlD d n tp rows)/\∀H',Same H H'->Q (.bl false) H'
theorem ok_shapeNo {f fT:Addr}{fd fdT:FuncData}(F:Fun K "is_shape" "is_shape" sShape f fd)
  (hT:mg "is_telling" = some (.ref fT)) (FT:Fun K "is_telling" "is_telling" sTelling fT fdT) (bT:Binds K fdT ["thing"] []) (GT:FnOk P w K mg base CX0 5 fT fdT ["thing"] spTellNo):FnOk P w K mg base CX0 15 f fd ["thing"] spShapeNo:=by
 refine F.ok scShape (λvs H Q E h=>?_) (λcdv A outer s H vs Q E hr h=>?_)
 ·obtain⟨v,d,rfl,_⟩:=h
  rfl
 ·obtain⟨v,d,rfl,hd,bnd,no,q⟩:=h
  have hr5:Room 5 _:=hr.mono (by decide)
  refine seqE ⟨_,⟨ps_if (pt_not (pt_val (pe_call GT hr5 (by rfl) hT FT.kp bT .nil pass0 (pa_cons (pv 0) pa_nil)))) (pss_one (ps_ret pe_bl)) pss_nil⟩,?_⟩
  exact⟨_,pss_never,_,rfl,v,d,rfl,hd,bnd,no,λH1 s1=>⟨_,rfl,iteT (q H1 s1)⟩⟩
def spShape3:Sp:=λvs H Q _=>∃(v:V) (d:PyData),vs=[v]/\DatX H v d/\Bnd d/\∀(b:Bool) H',(b=true<->∃n tp rows,d=dTell n tp rows/\Canon n tp rows)->Same H H'->Q (.bl b) H'
theorem ok_shape3 {f:Addr}{fd:FuncData}(G2:FnOk P w K mg base CX0 15 f fd ["thing"] spShape2) (G0:FnOk P w K mg base CX0 15 f fd ["thing"] spShapeNo):FnOk P w K mg base CX0 15 f fd ["thing"] spShape3:=by
 refine (fn_or G2 G0).imp λvs H Q E h=>?_
 obtain⟨v,d,rfl,hd,bnd,q⟩:=h
 by_cases hT:∃n tp rows,TlD d n tp rows
 ·obtain⟨n,tp,rows,rfl,hn,ok,htp⟩:=hT
  obtain⟨t,rfl,tl⟩:=dat_tell hd
  refine .inl ⟨t,n,tp,rows,rfl,tl,hn,ok,bnd_rows bnd,htp,λb H' hb s'=>q b H' (hb.trans ⟨λc=>⟨n,tp,rows,rfl,c⟩,λz=>?_⟩) s'⟩
  obtain⟨n',tp',rows',e,c⟩:=z
  obtain⟨rfl,rfl,rfl⟩:=dTell_inj e
  exact c
 ·refine .inr ⟨v,d,rfl,hd,bnd,λn tp rows z=>hT ⟨n,tp,rows,z⟩,λH' s'=>q false H' ⟨λz=>(by cases z),λz=>?_⟩ s'⟩
  obtain⟨n,tp,rows,e,c⟩:=z
  exact (hT ⟨n,tp,rows,e,c.size,c.rok,c.inn⟩).elim
end
end Pr
namespace Pr
open PySem L2 Qf
def exN:List Str:=["NoFloor", "NoAddress", "NoCell", "NoShape", "NoTelling", "NoText", "NoStep", "NoBox", "TooMany", "OtherFloor", "NoTurn", "NoNumber", "NoSide", "NotFull", "NoWay", "NoLoop", "FloorError"]
def kn (i k:Nat):Bool:=k==i||(k==16||k==17)
structure Kn (K:PySem.W.Frag) (mg:Str->Option Value) (c:Nat->Addr):Prop where
 n0:mg "NoFloor" = some (.ref (c 0))
 n1:mg "NoAddress" = some (.ref (c 1))
 n2:mg "NoCell" = some (.ref (c 2))
 n3:mg "NoShape" = some (.ref (c 3))
 n4:mg "NoTelling" = some (.ref (c 4))
 n5:mg "NoText" = some (.ref (c 5))
 n6:mg "NoStep" = some (.ref (c 6))
 n7:mg "NoBox" = some (.ref (c 7))
 n8:mg "TooMany" = some (.ref (c 8))
 n9:mg "OtherFloor" = some (.ref (c 9))
 n10:mg "NoTurn" = some (.ref (c 10))
 n11:mg "NoNumber" = some (.ref (c 11))
 n12:mg "NoSide" = some (.ref (c 12))
 n13:mg "NotFull" = some (.ref (c 13))
 n14:mg "NoWay" = some (.ref (c 14))
 n15:mg "NoLoop" = some (.ref (c 15))
 n16:mg "FloorError" = some (.ref (c 16))
 v:mg "ValueError" = none
 ec:∀i,i<17->ExcCls K (c i)
 kit:∀i j,i<17->j<17->PySem.W.kitOne K (.ref (c i)) (.ref (c j))=some (kn i j)
 kv:∀i,i<17->PySem.W.kitOne K (.ref (c i)) (.type "ValueError")=some (kn i 17)
 ex:∀i,i<17->PySem.W.excIn K (c i) bmV "ValueError.__new__" = true
 fm:∀i,i<17->PySem.W.exmOne K (.ref (c i)) (.ref (c 16))=some true
def kinds (i:Nat):List Nat:=(List.range 18).filter (kn i)
section
variable {P:Program}{w:World}{K:PySem.W.Frag}{mg:Str->Option Value}{base:Heap}
abbrev nKinds:List Str:=["_law_e", "_law_told"]
theorem scKinds:FnScope nKinds ["_law_e"] (defScope lKinds):=⟨rfl,rfl,rfl,by decide +kernel,rfl,by decide +kernel,by decide +kernel⟩
def spKinds (c:Nat->Addr):Sp:=λvs H Q _=>∃(x:Addr) (i:Nat),vs=[.ref x]/\i<17/\H x=some (.ext (ExcAt x (c i)))/\∀(D:Addr) H',Same H H'->H' D=some (.lst (vN (kinds i)))->Q (.ref D) H'
def spKindsH (c:Nat->Addr) (x:Addr):SpH:=λvs H Q=>∃i:Nat,vs=[.ref x]/\i<17/\H x=some (.ext (ExcAt x (c i)))/\∀(D:Addr) H',Same H H'->H' D=some (.lst (vN (kinds i)))->Q (.ref D) H'
theorem pick18 {f:Nat->Bool}{k:Nat}(hk:k<18):atI ([V.bl (f 0),.bl (f 1),.bl (f 2),.bl (f 3)]++[.bl (f 4),.bl (f 5),.bl (f 6),.bl (f 7)]++[.bl (f 8),.bl (f 9),.bl (f 10),.bl (f 11)]++[.bl (f 12),.bl (f 13),.bl (f 14),.bl (f 15)]++[.bl (f 16),.bl (f 17)]) ((k:Nat):Int)=some (.bl (f k)):=by
 have:([V.bl (f 0),.bl (f 1),.bl (f 2),.bl (f 3)]++[.bl (f 4),.bl (f 5),.bl (f 6),.bl (f 7)]++[.bl (f 8),.bl (f 9),.bl (f 10),.bl (f 11)]++[.bl (f 12),.bl (f 13),.bl (f 14),.bl (f 15)]++[.bl (f 16),.bl (f 17)])=(List.range 18).map λk=>V.bl (f k):=rfl
 rw[this]
 exact atI_nat (by rw[List.getElem?_map,List.getElem?_range hk];rfl)
theorem ok_kinds {f:Addr}{fd:FuncData}{c:Nat->Addr}(F:Fun K "_law_kinds" "_law_kinds" lKinds f fd) (B:Blt mg) (T:Kn K mg c):FnOk P w K mg base CX0 1 f fd ["_law_e"] (spKinds c):=by
 refine F.ok scKinds (λvs H Q E h=>?_) (λcdv A outer s H vs Q E hr h=>?_)
 ·obtain⟨x,i,rfl,_⟩:=h
  rfl
 ·obtain⟨x,i,rfl,hi,hx,q⟩:=h
  refine seqE ⟨_,⟨ps_set (i:=1) scKinds.nd rfl (by first|exact Or.inl rfl|exact Or.inr rfl) (pe_lst (Ars2.go (.cons ⟨pe_callB call_isi (by rfl) B.isi PyProof.Rows.boot_isinstance (pa_cons (pv 0) (pa_cons (pe_glob (v:=.ref (c 0)) (by rfl) T.n0 rfl) pa_nil))⟩ (.cons ⟨pe_callB call_isi (by rfl) B.isi PyProof.Rows.boot_isinstance (pa_cons (pv 0) (pa_cons (pe_glob (v:=.ref (c 1)) (by rfl) T.n1 rfl) pa_nil))⟩ (.cons ⟨pe_callB call_isi (by rfl) B.isi PyProof.Rows.boot_isinstance (pa_cons (pv 0) (pa_cons (pe_glob (v:=.ref (c 2)) (by rfl) T.n2 rfl) pa_nil))⟩ (.cons ⟨pe_callB call_isi (by rfl) B.isi PyProof.Rows.boot_isinstance (pa_cons (pv 0) (pa_cons (pe_glob (v:=.ref (c 3)) (by rfl) T.n3 rfl) pa_nil))⟩ .nil rfl) rfl) rfl) rfl)))⟩,?_⟩
  refine seqE ⟨_,⟨ps_set (i:=1) scKinds.nd rfl (by first|exact Or.inl rfl|exact Or.inr rfl) (pe_op op_cat (pv 1) (PEb.go ⟨pe_lst (Ars2.go (.cons ⟨pe_callB call_isi (by rfl) B.isi PyProof.Rows.boot_isinstance (pa_cons (pv 0) (pa_cons (pe_glob (v:=.ref (c 4)) (by rfl) T.n4 rfl) pa_nil))⟩ (.cons ⟨pe_callB call_isi (by rfl) B.isi PyProof.Rows.boot_isinstance (pa_cons (pv 0) (pa_cons (pe_glob (v:=.ref (c 5)) (by rfl) T.n5 rfl) pa_nil))⟩ (.cons ⟨pe_callB call_isi (by rfl) B.isi PyProof.Rows.boot_isinstance (pa_cons (pv 0) (pa_cons (pe_glob (v:=.ref (c 6)) (by rfl) T.n6 rfl) pa_nil))⟩ (.cons ⟨pe_callB call_isi (by rfl) B.isi PyProof.Rows.boot_isinstance (pa_cons (pv 0) (pa_cons (pe_glob (v:=.ref (c 7)) (by rfl) T.n7 rfl) pa_nil))⟩ .nil rfl) rfl) rfl) rfl))⟩))⟩,?_⟩
  refine seqE ⟨_,⟨ps_set (i:=1) scKinds.nd rfl (by first|exact Or.inl rfl|exact Or.inr rfl) (pe_op op_cat (pv 1) (PEb.go ⟨pe_lst (Ars2.go (.cons ⟨pe_callB call_isi (by rfl) B.isi PyProof.Rows.boot_isinstance (pa_cons (pv 0) (pa_cons (pe_glob (v:=.ref (c 8)) (by rfl) T.n8 rfl) pa_nil))⟩ (.cons ⟨pe_callB call_isi (by rfl) B.isi PyProof.Rows.boot_isinstance (pa_cons (pv 0) (pa_cons (pe_glob (v:=.ref (c 9)) (by rfl) T.n9 rfl) pa_nil))⟩ (.cons ⟨pe_callB call_isi (by rfl) B.isi PyProof.Rows.boot_isinstance (pa_cons (pv 0) (pa_cons (pe_glob (v:=.ref (c 10)) (by rfl) T.n10 rfl) pa_nil))⟩ (.cons ⟨pe_callB call_isi (by rfl) B.isi PyProof.Rows.boot_isinstance (pa_cons (pv 0) (pa_cons (pe_glob (v:=.ref (c 11)) (by rfl) T.n11 rfl) pa_nil))⟩ .nil rfl) rfl) rfl) rfl))⟩))⟩,?_⟩
  refine seqE ⟨_,⟨ps_set (i:=1) scKinds.nd rfl (by first|exact Or.inl rfl|exact Or.inr rfl) (pe_op op_cat (pv 1) (PEb.go ⟨pe_lst (Ars2.go (.cons ⟨pe_callB call_isi (by rfl) B.isi PyProof.Rows.boot_isinstance (pa_cons (pv 0) (pa_cons (pe_glob (v:=.ref (c 12)) (by rfl) T.n12 rfl) pa_nil))⟩ (.cons ⟨pe_callB call_isi (by rfl) B.isi PyProof.Rows.boot_isinstance (pa_cons (pv 0) (pa_cons (pe_glob (v:=.ref (c 13)) (by rfl) T.n13 rfl) pa_nil))⟩ (.cons ⟨pe_callB call_isi (by rfl) B.isi PyProof.Rows.boot_isinstance (pa_cons (pv 0) (pa_cons (pe_glob (v:=.ref (c 14)) (by rfl) T.n14 rfl) pa_nil))⟩ (.cons ⟨pe_callB call_isi (by rfl) B.isi PyProof.Rows.boot_isinstance (pa_cons (pv 0) (pa_cons (pe_glob (v:=.ref (c 15)) (by rfl) T.n15 rfl) pa_nil))⟩ .nil rfl) rfl) rfl) rfl))⟩))⟩,?_⟩
  refine seqE ⟨_,⟨ps_set (i:=1) scKinds.nd rfl (by first|exact Or.inl rfl|exact Or.inr rfl) (pe_op op_cat (pv 1) (PEb.go ⟨pe_lst (Ars2.go (.cons ⟨pe_callB call_isi (by rfl) B.isi PyProof.Rows.boot_isinstance (pa_cons (pv 0) (pa_cons (pe_glob (v:=.ref (c 16)) (by rfl) T.n16 rfl) pa_nil))⟩ (.cons ⟨pe_callB call_isi (by rfl) B.isi PyProof.Rows.boot_isinstance (pa_cons (pv 0) (pa_cons (pe_bltn (v:=.ty "ValueError") (by rfl) T.v (by decide +kernel) rfl) pa_nil))⟩ .nil rfl) rfl))⟩))⟩,?_⟩
  refine lastE ⟨_,⟨ps_ret (PEb.go ⟨pe_compIf nKinds (defScope lKinds) rfl rfl rfl scKinds.nd (pi_range1 (by rfl) B.range (pa_cons pe_int pa_nil)) (λcl C' fp s₀ H₀=>pt_val (pe_ix (ixL K rfl) (pv 2) (pv 0) (λ_ _=>rfl))) (λcl C' fp s₀ H₀=>pv 0)⟩)⟩,?_⟩
  have et:∀{H':Hp},Same H H'->ExcT K H' (.ref x) (.ref (c i)):=λs=>⟨x,c i,rfl,s _ _ hx,T.ec i hi,rfl⟩
  have kt:∀j,j<17->PySem.W.kitOne K (.ref (c i)) (.ref (c j))=some (kn i j):=λj hj=>T.kit i j hi hj
  have kv:=T.kv i hi
  have s0:=Same.refl H
  refine⟨_,rfl,_,_,_,_,_,rfl,rfl,.inr (et s0),kt 0 (by decide),_,rfl,_,_,_,_,_,rfl,rfl,.inr (et s0),kt 1 (by decide),_,rfl,_,_,_,_,_,rfl,rfl,.inr (et s0),kt 2 (by decide),_,rfl,_,_,_,_,_,rfl,rfl,.inr (et s0),kt 3 (by decide),(by show 4<=sizeLine;decide),λl0 h0=>?_⟩
  have s1:=s0.trans (sameU (o:=.lst [V.bl (kn i 0),.bl (kn i 1),.bl (kn i 2),.bl (kn i 3)]) h0)
  have e1:upd H l0 (.lst [V.bl (kn i 0),.bl (kn i 1),.bl (kn i 2),.bl (kn i 3)]) l0=some (.lst [V.bl (kn i 0),.bl (kn i 1),.bl (kn i 2),.bl (kn i 3)]):=upd_same
  generalize upd H l0 (.lst [V.bl (kn i 0),.bl (kn i 1),.bl (kn i 2),.bl (kn i 3)])=H1 at s1 e1 ⊢
  refine⟨_,rfl,_,rfl,_,_,_,_,_,rfl,rfl,.inr (et s1),kt 4 (by decide),_,rfl,_,_,_,_,_,rfl,rfl,.inr (et s1),kt 5 (by decide),_,rfl,_,_,_,_,_,rfl,rfl,.inr (et s1),kt 6 (by decide),_,rfl,_,_,_,_,_,rfl,rfl,.inr (et s1),kt 7 (by decide),(by show 4<=sizeLine;decide),λm1 hm1=>?_⟩
  refine⟨l0,m1,_,_,rfl,rfl,keepU e1 hm1,upd_same,(by show 8<=sizeLine;decide),λl1 h1=>?_⟩
  have s2:=s1.trans ((sameU (o:=.lst [V.bl (kn i 4),.bl (kn i 5),.bl (kn i 6),.bl (kn i 7)]) hm1).trans (sameU (o:=.lst ([V.bl (kn i 0),.bl (kn i 1),.bl (kn i 2),.bl (kn i 3)]++[V.bl (kn i 4),.bl (kn i 5),.bl (kn i 6),.bl (kn i 7)])) h1))
  have e2:upd (upd H1 m1 (.lst [V.bl (kn i 4),.bl (kn i 5),.bl (kn i 6),.bl (kn i 7)])) l1 (.lst ([V.bl (kn i 0),.bl (kn i 1),.bl (kn i 2),.bl (kn i 3)]++[V.bl (kn i 4),.bl (kn i 5),.bl (kn i 6),.bl (kn i 7)])) l1=some (.lst ([V.bl (kn i 0),.bl (kn i 1),.bl (kn i 2),.bl (kn i 3)]++[V.bl (kn i 4),.bl (kn i 5),.bl (kn i 6),.bl (kn i 7)])):=upd_same
  generalize upd (upd H1 m1 (.lst [V.bl (kn i 4),.bl (kn i 5),.bl (kn i 6),.bl (kn i 7)])) l1 (.lst ([V.bl (kn i 0),.bl (kn i 1),.bl (kn i 2),.bl (kn i 3)]++[V.bl (kn i 4),.bl (kn i 5),.bl (kn i 6),.bl (kn i 7)]))=H2 at s2 e2 ⊢
  refine⟨_,rfl,_,rfl,_,_,_,_,_,rfl,rfl,.inr (et s2),kt 8 (by decide),_,rfl,_,_,_,_,_,rfl,rfl,.inr (et s2),kt 9 (by decide),_,rfl,_,_,_,_,_,rfl,rfl,.inr (et s2),kt 10 (by decide),_,rfl,_,_,_,_,_,rfl,rfl,.inr (et s2),kt 11 (by decide),(by show 4<=sizeLine;decide),λm2 hm2=>?_⟩
  refine⟨l1,m2,_,_,rfl,rfl,keepU e2 hm2,upd_same,(by show 12<=sizeLine;decide),λl2 h2=>?_⟩
  have s3:=s2.trans ((sameU (o:=.lst [V.bl (kn i 8),.bl (kn i 9),.bl (kn i 10),.bl (kn i 11)]) hm2).trans (sameU (o:=.lst (([V.bl (kn i 0),.bl (kn i 1),.bl (kn i 2),.bl (kn i 3)]++[V.bl (kn i 4),.bl (kn i 5),.bl (kn i 6),.bl (kn i 7)])++[V.bl (kn i 8),.bl (kn i 9),.bl (kn i 10),.bl (kn i 11)])) h2))
  have e3:upd (upd H2 m2 (.lst [V.bl (kn i 8),.bl (kn i 9),.bl (kn i 10),.bl (kn i 11)])) l2 (.lst (([V.bl (kn i 0),.bl (kn i 1),.bl (kn i 2),.bl (kn i 3)]++[V.bl (kn i 4),.bl (kn i 5),.bl (kn i 6),.bl (kn i 7)])++[V.bl (kn i 8),.bl (kn i 9),.bl (kn i 10),.bl (kn i 11)])) l2=some (.lst (([V.bl (kn i 0),.bl (kn i 1),.bl (kn i 2),.bl (kn i 3)]++[V.bl (kn i 4),.bl (kn i 5),.bl (kn i 6),.bl (kn i 7)])++[V.bl (kn i 8),.bl (kn i 9),.bl (kn i 10),.bl (kn i 11)])):=upd_same
  generalize upd (upd H2 m2 (.lst [V.bl (kn i 8),.bl (kn i 9),.bl (kn i 10),.bl (kn i 11)])) l2 (.lst (([V.bl (kn i 0),.bl (kn i 1),.bl (kn i 2),.bl (kn i 3)]++[V.bl (kn i 4),.bl (kn i 5),.bl (kn i 6),.bl (kn i 7)])++[V.bl (kn i 8),.bl (kn i 9),.bl (kn i 10),.bl (kn i 11)]))=H3 at s3 e3 ⊢
  refine⟨_,rfl,_,rfl,_,_,_,_,_,rfl,rfl,.inr (et s3),kt 12 (by decide),_,rfl,_,_,_,_,_,rfl,rfl,.inr (et s3),kt 13 (by decide),_,rfl,_,_,_,_,_,rfl,rfl,.inr (et s3),kt 14 (by decide),_,rfl,_,_,_,_,_,rfl,rfl,.inr (et s3),kt 15 (by decide),(by show 4<=sizeLine;decide),λm3 hm3=>?_⟩
  refine⟨l2,m3,_,_,rfl,rfl,keepU e3 hm3,upd_same,(by show 16<=sizeLine;decide),λl3 h3=>?_⟩
  have s4:=s3.trans ((sameU (o:=.lst [V.bl (kn i 12),.bl (kn i 13),.bl (kn i 14),.bl (kn i 15)]) hm3).trans (sameU (o:=.lst ((([V.bl (kn i 0),.bl (kn i 1),.bl (kn i 2),.bl (kn i 3)]++[V.bl (kn i 4),.bl (kn i 5),.bl (kn i 6),.bl (kn i 7)])++[V.bl (kn i 8),.bl (kn i 9),.bl (kn i 10),.bl (kn i 11)])++[V.bl (kn i 12),.bl (kn i 13),.bl (kn i 14),.bl (kn i 15)])) h3))
  have e4:upd (upd H3 m3 (.lst [V.bl (kn i 12),.bl (kn i 13),.bl (kn i 14),.bl (kn i 15)])) l3 (.lst ((([V.bl (kn i 0),.bl (kn i 1),.bl (kn i 2),.bl (kn i 3)]++[V.bl (kn i 4),.bl (kn i 5),.bl (kn i 6),.bl (kn i 7)])++[V.bl (kn i 8),.bl (kn i 9),.bl (kn i 10),.bl (kn i 11)])++[V.bl (kn i 12),.bl (kn i 13),.bl (kn i 14),.bl (kn i 15)])) l3=some (.lst ((([V.bl (kn i 0),.bl (kn i 1),.bl (kn i 2),.bl (kn i 3)]++[V.bl (kn i 4),.bl (kn i 5),.bl (kn i 6),.bl (kn i 7)])++[V.bl (kn i 8),.bl (kn i 9),.bl (kn i 10),.bl (kn i 11)])++[V.bl (kn i 12),.bl (kn i 13),.bl (kn i 14),.bl (kn i 15)])):=upd_same
  generalize upd (upd H3 m3 (.lst [V.bl (kn i 12),.bl (kn i 13),.bl (kn i 14),.bl (kn i 15)])) l3 (.lst ((([V.bl (kn i 0),.bl (kn i 1),.bl (kn i 2),.bl (kn i 3)]++[V.bl (kn i 4),.bl (kn i 5),.bl (kn i 6),.bl (kn i 7)])++[V.bl (kn i 8),.bl (kn i 9),.bl (kn i 10),.bl (kn i 11)])++[V.bl (kn i 12),.bl (kn i 13),.bl (kn i 14),.bl (kn i 15)]))=H4 at s4 e4 ⊢
  refine⟨_,rfl,_,rfl,_,_,_,_,_,rfl,rfl,.inr (et s4),kt 16 (by decide),_,rfl,_,_,_,_,_,rfl,rfl,.inr (et s4),kv,(by show 2<=sizeLine;decide),λm4 hm4=>?_⟩
  refine⟨l3,m4,_,_,rfl,rfl,keepU e4 hm4,upd_same,(by show 18<=sizeLine;decide),λl4 h4=>?_⟩
  have s5:=s4.trans ((sameU (o:=.lst [V.bl (kn i 16),.bl (kn i 17)]) hm4).trans (sameU (o:=.lst (((([V.bl (kn i 0),.bl (kn i 1),.bl (kn i 2),.bl (kn i 3)]++[V.bl (kn i 4),.bl (kn i 5),.bl (kn i 6),.bl (kn i 7)])++[V.bl (kn i 8),.bl (kn i 9),.bl (kn i 10),.bl (kn i 11)])++[V.bl (kn i 12),.bl (kn i 13),.bl (kn i 14),.bl (kn i 15)])++[V.bl (kn i 16),.bl (kn i 17)])) h4))
  have e5:upd (upd H4 m4 (.lst [V.bl (kn i 16),.bl (kn i 17)])) l4 (.lst (((([V.bl (kn i 0),.bl (kn i 1),.bl (kn i 2),.bl (kn i 3)]++[V.bl (kn i 4),.bl (kn i 5),.bl (kn i 6),.bl (kn i 7)])++[V.bl (kn i 8),.bl (kn i 9),.bl (kn i 10),.bl (kn i 11)])++[V.bl (kn i 12),.bl (kn i 13),.bl (kn i 14),.bl (kn i 15)])++[V.bl (kn i 16),.bl (kn i 17)])) l4=some (.lst (((([V.bl (kn i 0),.bl (kn i 1),.bl (kn i 2),.bl (kn i 3)]++[V.bl (kn i 4),.bl (kn i 5),.bl (kn i 6),.bl (kn i 7)])++[V.bl (kn i 8),.bl (kn i 9),.bl (kn i 10),.bl (kn i 11)])++[V.bl (kn i 12),.bl (kn i 13),.bl (kn i 14),.bl (kn i 15)])++[V.bl (kn i 16),.bl (kn i 17)])):=upd_same
  generalize upd (upd H4 m4 (.lst [V.bl (kn i 16),.bl (kn i 17)])) l4 (.lst (((([V.bl (kn i 0),.bl (kn i 1),.bl (kn i 2),.bl (kn i 3)]++[V.bl (kn i 4),.bl (kn i 5),.bl (kn i 6),.bl (kn i 7)])++[V.bl (kn i 8),.bl (kn i 9),.bl (kn i 10),.bl (kn i 11)])++[V.bl (kn i 12),.bl (kn i 13),.bl (kn i 14),.bl (kn i 15)])++[V.bl (kn i 16),.bl (kn i 17)]))=H5 at s5 e5 ⊢
  refine⟨_,rfl,by decide,by decide,λD hD=>compG_walk hD (kn i) (λk=>.int ((k:Nat):Int)) goes_rng (by decide) ?_ ?_⟩
  ·rintro k z H6 hk rfl s6 os hos Q1 Q2 q1 q2
   match os,hos with
   |[o],_=>
    refine⟨_,rfl,_,rfl,l4,_,(k:Int),.bl (kn i k),rfl,rfl,SqL.of (s6 _ _ e5),pick18 hk,_,rfl,?_⟩
    cases hb:kn i k with
    |true=>exact iteT ⟨_,rfl,q2 hb H6 (Same.refl _)⟩
    |false=>exact iteF (q1 hb H6 (Same.refl _))
  ·intro H7 s7 hD7
   refine q D H7 (s5.trans s7) ?_
   rw[hD7]
   rfl
theorem ok_kindsH {f xe:Addr}{fd:FuncData}{c:Nat->Addr}(F:Fun K "_law_kinds" "_law_kinds" lKinds f fd) (B:Blt mg) (T:Kn K mg c):FnOkH P w K mg base 1 xe f fd ["_law_e"] (spKindsH c xe):=by
 refine F.okH scKinds (λvs H Q h=>?_) (λcdv A outer s H vs Q hr h=>?_)
 ·obtain⟨i,rfl,_⟩:=h
  rfl
 ·obtain⟨i,rfl,hi,hx,q⟩:=h
  refine seqE ⟨_,⟨ps_set (i:=1) scKinds.nd rfl (by first|exact Or.inl rfl|exact Or.inr rfl) (pe_lst (Ars2.go (.cons ⟨pe_callB call_isi (by rfl) B.isi PyProof.Rows.boot_isinstance (pa_cons (pv 0) (pa_cons (pe_glob (v:=.ref (c 0)) (by rfl) T.n0 rfl) pa_nil))⟩ (.cons ⟨pe_callB call_isi (by rfl) B.isi PyProof.Rows.boot_isinstance (pa_cons (pv 0) (pa_cons (pe_glob (v:=.ref (c 1)) (by rfl) T.n1 rfl) pa_nil))⟩ (.cons ⟨pe_callB call_isi (by rfl) B.isi PyProof.Rows.boot_isinstance (pa_cons (pv 0) (pa_cons (pe_glob (v:=.ref (c 2)) (by rfl) T.n2 rfl) pa_nil))⟩ (.cons ⟨pe_callB call_isi (by rfl) B.isi PyProof.Rows.boot_isinstance (pa_cons (pv 0) (pa_cons (pe_glob (v:=.ref (c 3)) (by rfl) T.n3 rfl) pa_nil))⟩ .nil rfl) rfl) rfl) rfl)))⟩,?_⟩
  refine seqE ⟨_,⟨ps_set (i:=1) scKinds.nd rfl (by first|exact Or.inl rfl|exact Or.inr rfl) (pe_op op_cat (pv 1) (PEb.go ⟨pe_lst (Ars2.go (.cons ⟨pe_callB call_isi (by rfl) B.isi PyProof.Rows.boot_isinstance (pa_cons (pv 0) (pa_cons (pe_glob (v:=.ref (c 4)) (by rfl) T.n4 rfl) pa_nil))⟩ (.cons ⟨pe_callB call_isi (by rfl) B.isi PyProof.Rows.boot_isinstance (pa_cons (pv 0) (pa_cons (pe_glob (v:=.ref (c 5)) (by rfl) T.n5 rfl) pa_nil))⟩ (.cons ⟨pe_callB call_isi (by rfl) B.isi PyProof.Rows.boot_isinstance (pa_cons (pv 0) (pa_cons (pe_glob (v:=.ref (c 6)) (by rfl) T.n6 rfl) pa_nil))⟩ (.cons ⟨pe_callB call_isi (by rfl) B.isi PyProof.Rows.boot_isinstance (pa_cons (pv 0) (pa_cons (pe_glob (v:=.ref (c 7)) (by rfl) T.n7 rfl) pa_nil))⟩ .nil rfl) rfl) rfl) rfl))⟩))⟩,?_⟩
  refine seqE ⟨_,⟨ps_set (i:=1) scKinds.nd rfl (by first|exact Or.inl rfl|exact Or.inr rfl) (pe_op op_cat (pv 1) (PEb.go ⟨pe_lst (Ars2.go (.cons ⟨pe_callB call_isi (by rfl) B.isi PyProof.Rows.boot_isinstance (pa_cons (pv 0) (pa_cons (pe_glob (v:=.ref (c 8)) (by rfl) T.n8 rfl) pa_nil))⟩ (.cons ⟨pe_callB call_isi (by rfl) B.isi PyProof.Rows.boot_isinstance (pa_cons (pv 0) (pa_cons (pe_glob (v:=.ref (c 9)) (by rfl) T.n9 rfl) pa_nil))⟩ (.cons ⟨pe_callB call_isi (by rfl) B.isi PyProof.Rows.boot_isinstance (pa_cons (pv 0) (pa_cons (pe_glob (v:=.ref (c 10)) (by rfl) T.n10 rfl) pa_nil))⟩ (.cons ⟨pe_callB call_isi (by rfl) B.isi PyProof.Rows.boot_isinstance (pa_cons (pv 0) (pa_cons (pe_glob (v:=.ref (c 11)) (by rfl) T.n11 rfl) pa_nil))⟩ .nil rfl) rfl) rfl) rfl))⟩))⟩,?_⟩
  refine seqE ⟨_,⟨ps_set (i:=1) scKinds.nd rfl (by first|exact Or.inl rfl|exact Or.inr rfl) (pe_op op_cat (pv 1) (PEb.go ⟨pe_lst (Ars2.go (.cons ⟨pe_callB call_isi (by rfl) B.isi PyProof.Rows.boot_isinstance (pa_cons (pv 0) (pa_cons (pe_glob (v:=.ref (c 12)) (by rfl) T.n12 rfl) pa_nil))⟩ (.cons ⟨pe_callB call_isi (by rfl) B.isi PyProof.Rows.boot_isinstance (pa_cons (pv 0) (pa_cons (pe_glob (v:=.ref (c 13)) (by rfl) T.n13 rfl) pa_nil))⟩ (.cons ⟨pe_callB call_isi (by rfl) B.isi PyProof.Rows.boot_isinstance (pa_cons (pv 0) (pa_cons (pe_glob (v:=.ref (c 14)) (by rfl) T.n14 rfl) pa_nil))⟩ (.cons ⟨pe_callB call_isi (by rfl) B.isi PyProof.Rows.boot_isinstance (pa_cons (pv 0) (pa_cons (pe_glob (v:=.ref (c 15)) (by rfl) T.n15 rfl) pa_nil))⟩ .nil rfl) rfl) rfl) rfl))⟩))⟩,?_⟩
  refine seqE ⟨_,⟨ps_set (i:=1) scKinds.nd rfl (by first|exact Or.inl rfl|exact Or.inr rfl) (pe_op op_cat (pv 1) (PEb.go ⟨pe_lst (Ars2.go (.cons ⟨pe_callB call_isi (by rfl) B.isi PyProof.Rows.boot_isinstance (pa_cons (pv 0) (pa_cons (pe_glob (v:=.ref (c 16)) (by rfl) T.n16 rfl) pa_nil))⟩ (.cons ⟨pe_callB call_isi (by rfl) B.isi PyProof.Rows.boot_isinstance (pa_cons (pv 0) (pa_cons (pe_bltn (v:=.ty "ValueError") (by rfl) T.v (by decide +kernel) rfl) pa_nil))⟩ .nil rfl) rfl))⟩))⟩,?_⟩
  refine lastE ⟨_,⟨ps_ret (PEb.go ⟨pe_compIfH nKinds (defScope lKinds) rfl rfl hr.hd scKinds.nd (pi_range1H (by rfl) B.range (pa_cons pe_int pa_nil)) (λcl C' fp s₀ H₀=>pt_val (pe_ix (ixL K rfl) (pv 2) (pv 0) (λ_ _=>rfl))) (λcl C' fp s₀ H₀=>pv 0)⟩)⟩,?_⟩
  have et:∀{H':Hp},Same H H'->ExcT K H' (.ref xe) (.ref (c i)):=λs=>⟨xe,c i,rfl,s _ _ hx,T.ec i hi,rfl⟩
  have kt:∀j,j<17->PySem.W.kitOne K (.ref (c i)) (.ref (c j))=some (kn i j):=λj hj=>T.kit i j hi hj
  have kv:=T.kv i hi
  have s0:=Same.refl H
  refine⟨_,rfl,_,_,_,_,_,rfl,rfl,.inr (et s0),kt 0 (by decide),_,rfl,_,_,_,_,_,rfl,rfl,.inr (et s0),kt 1 (by decide),_,rfl,_,_,_,_,_,rfl,rfl,.inr (et s0),kt 2 (by decide),_,rfl,_,_,_,_,_,rfl,rfl,.inr (et s0),kt 3 (by decide),(by show 4<=sizeLine;decide),λl0 h0=>?_⟩
  have s1:=s0.trans (sameU (o:=.lst [V.bl (kn i 0),.bl (kn i 1),.bl (kn i 2),.bl (kn i 3)]) h0)
  have e1:upd H l0 (.lst [V.bl (kn i 0),.bl (kn i 1),.bl (kn i 2),.bl (kn i 3)]) l0=some (.lst [V.bl (kn i 0),.bl (kn i 1),.bl (kn i 2),.bl (kn i 3)]):=upd_same
  generalize upd H l0 (.lst [V.bl (kn i 0),.bl (kn i 1),.bl (kn i 2),.bl (kn i 3)])=H1 at s1 e1 ⊢
  refine⟨_,rfl,_,rfl,_,_,_,_,_,rfl,rfl,.inr (et s1),kt 4 (by decide),_,rfl,_,_,_,_,_,rfl,rfl,.inr (et s1),kt 5 (by decide),_,rfl,_,_,_,_,_,rfl,rfl,.inr (et s1),kt 6 (by decide),_,rfl,_,_,_,_,_,rfl,rfl,.inr (et s1),kt 7 (by decide),(by show 4<=sizeLine;decide),λm1 hm1=>?_⟩
  refine⟨l0,m1,_,_,rfl,rfl,keepU e1 hm1,upd_same,(by show 8<=sizeLine;decide),λl1 h1=>?_⟩
  have s2:=s1.trans ((sameU (o:=.lst [V.bl (kn i 4),.bl (kn i 5),.bl (kn i 6),.bl (kn i 7)]) hm1).trans (sameU (o:=.lst ([V.bl (kn i 0),.bl (kn i 1),.bl (kn i 2),.bl (kn i 3)]++[V.bl (kn i 4),.bl (kn i 5),.bl (kn i 6),.bl (kn i 7)])) h1))
  have e2:upd (upd H1 m1 (.lst [V.bl (kn i 4),.bl (kn i 5),.bl (kn i 6),.bl (kn i 7)])) l1 (.lst ([V.bl (kn i 0),.bl (kn i 1),.bl (kn i 2),.bl (kn i 3)]++[V.bl (kn i 4),.bl (kn i 5),.bl (kn i 6),.bl (kn i 7)])) l1=some (.lst ([V.bl (kn i 0),.bl (kn i 1),.bl (kn i 2),.bl (kn i 3)]++[V.bl (kn i 4),.bl (kn i 5),.bl (kn i 6),.bl (kn i 7)])):=upd_same
  generalize upd (upd H1 m1 (.lst [V.bl (kn i 4),.bl (kn i 5),.bl (kn i 6),.bl (kn i 7)])) l1 (.lst ([V.bl (kn i 0),.bl (kn i 1),.bl (kn i 2),.bl (kn i 3)]++[V.bl (kn i 4),.bl (kn i 5),.bl (kn i 6),.bl (kn i 7)]))=H2 at s2 e2 ⊢
  refine⟨_,rfl,_,rfl,_,_,_,_,_,rfl,rfl,.inr (et s2),kt 8 (by decide),_,rfl,_,_,_,_,_,rfl,rfl,.inr (et s2),kt 9 (by decide),_,rfl,_,_,_,_,_,rfl,rfl,.inr (et s2),kt 10 (by decide),_,rfl,_,_,_,_,_,rfl,rfl,.inr (et s2),kt 11 (by decide),(by show 4<=sizeLine;decide),λm2 hm2=>?_⟩
  refine⟨l1,m2,_,_,rfl,rfl,keepU e2 hm2,upd_same,(by show 12<=sizeLine;decide),λl2 h2=>?_⟩
  have s3:=s2.trans ((sameU (o:=.lst [V.bl (kn i 8),.bl (kn i 9),.bl (kn i 10),.bl (kn i 11)]) hm2).trans (sameU (o:=.lst (([V.bl (kn i 0),.bl (kn i 1),.bl (kn i 2),.bl (kn i 3)]++[V.bl (kn i 4),.bl (kn i 5),.bl (kn i 6),.bl (kn i 7)])++[V.bl (kn i 8),.bl (kn i 9),.bl (kn i 10),.bl (kn i 11)])) h2))
  have e3:upd (upd H2 m2 (.lst [V.bl (kn i 8),.bl (kn i 9),.bl (kn i 10),.bl (kn i 11)])) l2 (.lst (([V.bl (kn i 0),.bl (kn i 1),.bl (kn i 2),.bl (kn i 3)]++[V.bl (kn i 4),.bl (kn i 5),.bl (kn i 6),.bl (kn i 7)])++[V.bl (kn i 8),.bl (kn i 9),.bl (kn i 10),.bl (kn i 11)])) l2=some (.lst (([V.bl (kn i 0),.bl (kn i 1),.bl (kn i 2),.bl (kn i 3)]++[V.bl (kn i 4),.bl (kn i 5),.bl (kn i 6),.bl (kn i 7)])++[V.bl (kn i 8),.bl (kn i 9),.bl (kn i 10),.bl (kn i 11)])):=upd_same
  generalize upd (upd H2 m2 (.lst [V.bl (kn i 8),.bl (kn i 9),.bl (kn i 10),.bl (kn i 11)])) l2 (.lst (([V.bl (kn i 0),.bl (kn i 1),.bl (kn i 2),.bl (kn i 3)]++[V.bl (kn i 4),.bl (kn i 5),.bl (kn i 6),.bl (kn i 7)])++[V.bl (kn i 8),.bl (kn i 9),.bl (kn i 10),.bl (kn i 11)]))=H3 at s3 e3 ⊢
  refine⟨_,rfl,_,rfl,_,_,_,_,_,rfl,rfl,.inr (et s3),kt 12 (by decide),_,rfl,_,_,_,_,_,rfl,rfl,.inr (et s3),kt 13 (by decide),_,rfl,_,_,_,_,_,rfl,rfl,.inr (et s3),kt 14 (by decide),_,rfl,_,_,_,_,_,rfl,rfl,.inr (et s3),kt 15 (by decide),(by show 4<=sizeLine;decide),λm3 hm3=>?_⟩
  refine⟨l2,m3,_,_,rfl,rfl,keepU e3 hm3,upd_same,(by show 16<=sizeLine;decide),λl3 h3=>?_⟩
  have s4:=s3.trans ((sameU (o:=.lst [V.bl (kn i 12),.bl (kn i 13),.bl (kn i 14),.bl (kn i 15)]) hm3).trans (sameU (o:=.lst ((([V.bl (kn i 0),.bl (kn i 1),.bl (kn i 2),.bl (kn i 3)]++[V.bl (kn i 4),.bl (kn i 5),.bl (kn i 6),.bl (kn i 7)])++[V.bl (kn i 8),.bl (kn i 9),.bl (kn i 10),.bl (kn i 11)])++[V.bl (kn i 12),.bl (kn i 13),.bl (kn i 14),.bl (kn i 15)])) h3))
  have e4:upd (upd H3 m3 (.lst [V.bl (kn i 12),.bl (kn i 13),.bl (kn i 14),.bl (kn i 15)])) l3 (.lst ((([V.bl (kn i 0),.bl (kn i 1),.bl (kn i 2),.bl (kn i 3)]++[V.bl (kn i 4),.bl (kn i 5),.bl (kn i 6),.bl (kn i 7)])++[V.bl (kn i 8),.bl (kn i 9),.bl (kn i 10),.bl (kn i 11)])++[V.bl (kn i 12),.bl (kn i 13),.bl (kn i 14),.bl (kn i 15)])) l3=some (.lst ((([V.bl (kn i 0),.bl (kn i 1),.bl (kn i 2),.bl (kn i 3)]++[V.bl (kn i 4),.bl (kn i 5),.bl (kn i 6),.bl (kn i 7)])++[V.bl (kn i 8),.bl (kn i 9),.bl (kn i 10),.bl (kn i 11)])++[V.bl (kn i 12),.bl (kn i 13),.bl (kn i 14),.bl (kn i 15)])):=upd_same
  generalize upd (upd H3 m3 (.lst [V.bl (kn i 12),.bl (kn i 13),.bl (kn i 14),.bl (kn i 15)])) l3 (.lst ((([V.bl (kn i 0),.bl (kn i 1),.bl (kn i 2),.bl (kn i 3)]++[V.bl (kn i 4),.bl (kn i 5),.bl (kn i 6),.bl (kn i 7)])++[V.bl (kn i 8),.bl (kn i 9),.bl (kn i 10),.bl (kn i 11)])++[V.bl (kn i 12),.bl (kn i 13),.bl (kn i 14),.bl (kn i 15)]))=H4 at s4 e4 ⊢
  refine⟨_,rfl,_,rfl,_,_,_,_,_,rfl,rfl,.inr (et s4),kt 16 (by decide),_,rfl,_,_,_,_,_,rfl,rfl,.inr (et s4),kv,(by show 2<=sizeLine;decide),λm4 hm4=>?_⟩
  refine⟨l3,m4,_,_,rfl,rfl,keepU e4 hm4,upd_same,(by show 18<=sizeLine;decide),λl4 h4=>?_⟩
  have s5:=s4.trans ((sameU (o:=.lst [V.bl (kn i 16),.bl (kn i 17)]) hm4).trans (sameU (o:=.lst (((([V.bl (kn i 0),.bl (kn i 1),.bl (kn i 2),.bl (kn i 3)]++[V.bl (kn i 4),.bl (kn i 5),.bl (kn i 6),.bl (kn i 7)])++[V.bl (kn i 8),.bl (kn i 9),.bl (kn i 10),.bl (kn i 11)])++[V.bl (kn i 12),.bl (kn i 13),.bl (kn i 14),.bl (kn i 15)])++[V.bl (kn i 16),.bl (kn i 17)])) h4))
  have e5:upd (upd H4 m4 (.lst [V.bl (kn i 16),.bl (kn i 17)])) l4 (.lst (((([V.bl (kn i 0),.bl (kn i 1),.bl (kn i 2),.bl (kn i 3)]++[V.bl (kn i 4),.bl (kn i 5),.bl (kn i 6),.bl (kn i 7)])++[V.bl (kn i 8),.bl (kn i 9),.bl (kn i 10),.bl (kn i 11)])++[V.bl (kn i 12),.bl (kn i 13),.bl (kn i 14),.bl (kn i 15)])++[V.bl (kn i 16),.bl (kn i 17)])) l4=some (.lst (((([V.bl (kn i 0),.bl (kn i 1),.bl (kn i 2),.bl (kn i 3)]++[V.bl (kn i 4),.bl (kn i 5),.bl (kn i 6),.bl (kn i 7)])++[V.bl (kn i 8),.bl (kn i 9),.bl (kn i 10),.bl (kn i 11)])++[V.bl (kn i 12),.bl (kn i 13),.bl (kn i 14),.bl (kn i 15)])++[V.bl (kn i 16),.bl (kn i 17)])):=upd_same
  generalize upd (upd H4 m4 (.lst [V.bl (kn i 16),.bl (kn i 17)])) l4 (.lst (((([V.bl (kn i 0),.bl (kn i 1),.bl (kn i 2),.bl (kn i 3)]++[V.bl (kn i 4),.bl (kn i 5),.bl (kn i 6),.bl (kn i 7)])++[V.bl (kn i 8),.bl (kn i 9),.bl (kn i 10),.bl (kn i 11)])++[V.bl (kn i 12),.bl (kn i 13),.bl (kn i 14),.bl (kn i 15)])++[V.bl (kn i 16),.bl (kn i 17)]))=H5 at s5 e5 ⊢
  refine⟨_,rfl,by decide,by decide,λD hD=>compG_walk hD (kn i) (λk=>.int ((k:Nat):Int)) goes_rng (by decide) ?_ ?_⟩
  ·rintro k z H6 hk rfl s6 os hos Q1 Q2 q1 q2
   match os,hos with
   |[o],_=>
    refine⟨_,rfl,_,rfl,l4,_,(k:Int),.bl (kn i k),rfl,rfl,SqL.of (s6 _ _ e5),pick18 hk,_,rfl,?_⟩
    cases hb:kn i k with
    |true=>exact iteT ⟨_,rfl,q2 hb H6 (Same.refl _)⟩
    |false=>exact iteF (q1 hb H6 (Same.refl _))
  ·intro H7 s7 hD7
   refine⟨⟨c i,(s5.trans s7) _ _ hx⟩,q D H7 (s5.trans s7) ?_⟩
   rw[hD7]
   rfl
end
end Pr
namespace Sp
open PySem PySem.StrLaws Builtin Builtin.Str
def ofL (l:List Nat):Str:=⟨l.toArray⟩
theorem ofL_toL (x:Str):ofL x.cps.toList=x:=by
 cases x;simp[ofL]
theorem toL_ofL (l:List Nat):(ofL l).cps.toList=l:=by simp[ofL]
def glue (c:Nat):List (List Nat)->List Nat
 |[]=>[]
 |[w]=>w
 |w::v::r=>w++c::glue c (v::r)
theorem join_glue (c:Nat):∀ws:List (List Nat),(Str.join ⟨#[c]⟩ (ws.map ofL)).cps.toList=glue c ws
 |[]=>rfl
 |[w]=>by show (ofL w).cps.toList=w;exact toL_ofL w
 |w::v::r=>by
  show (ofL w++⟨#[c]⟩++Str.join ⟨#[c]⟩ ((v::r).map ofL)).cps.toList=w++c::glue c (v::r)
  have e:∀a b:Str,(a++b).cps.toList=a.cps.toList++b.cps.toList:=λa b=>by
   show (a.cps++b.cps).toList=_
   simp
  rw[e,e,join_glue c (v::r),toL_ofL]
  simp
theorem glue_ofL (c:Nat) (ws:List (List Nat)):Txt.join ⟨#[c]⟩ (ws.map ofL)=ofL (glue c ws):=by
 show glued _ _=_
 rw[glued_eq_join,<- join_glue,ofL_toL]
end Sp
namespace L2
open PySem PySem.Spec PyProof.Rows
section
variable {X:Cx}
end
end L2
namespace Qf
open PySem Sp
def figs (x:Nat):List Nat:=if x<10 then [48+x] else if x<100 then [48+x/10,48+x%10] else [48+x/100,48+x/10%10,48+x%10]
theorem str_all:(List.range 1000).all (λx=>decide (((toString ((x:Nat):Int):String):Str)=ofL (figs x)))=true:=by decide +kernel
theorem str_fig {x:Nat}(h:x<1000):((toString ((x:Nat):Int):String):Str)=ofL (figs x):=of_decide_eq_true (List.all_eq_true.mp str_all x (List.mem_range.mpr h))
theorem fig_len (x:Nat):1<=(figs x).length/\(figs x).length<=3:=by
 unfold figs
 split
 ·simp
 ·split<;>simp
def lineW (r:List Nat):List Nat:=glue 32 (r.map figs)
def lineL (r:List Nat):List Nat:=lineW r++[10]
theorem glue_len {c:Nat}:∀(ws:List (List Nat)),(glue c ws).length<=(ws.map (·.length+1)).sum
 |[]=>by simp[glue]
 |[w]=>by simp[glue]
 |w::v::r=>by
  have:=glue_len (c:=c) (v::r)
  show (w++c::glue c (v::r)).length<=_
  rw[List.length_append,List.length_cons,List.map_cons,List.sum_cons]
  lia
theorem lineW_len (r:List Nat):(lineW r).length<=4*r.length:=by
 unfold lineW
 refine Nat.le_trans (glue_len _) ?_
 rw[List.map_map]
 induction r with
 |nil=>simp
 |cons x r ih=>
  have:=(fig_len x).2
  rw[List.map_cons,List.sum_cons,List.length_cons]
  show (figs x).length+1+_<=_
  lia
def telL (n top:Nat) (rows:List Row):List Nat:=lineL [n,top]++(rows.map lineL).flatten
end Qf
namespace Pr
open PySem L2 Qf
theorem int_able {x:Nat}(h:x<1000):((x:Nat):Int).natAbs.log2<1920:=by
 rw[Int.natAbs_natCast]
 have:x.log2<=x:=Nat.log2_le_self x
 lia
end Pr
namespace Pr
open PySem L2 Qf Sp
theorem sp32:(" " : Str)=⟨#[32]⟩:=by decide +kernel
theorem nl10:("\n" : Str)=ofL [10]:=by decide +kernel
theorem nil0:("" : Str)=ofL []:=by decide +kernel
theorem ofL_app (a b:List Nat):ofL a++ofL b=ofL (a++b):=by
 apply Str.ext'
 show a.toArray++b.toArray=(a++b).toArray
 simp
theorem ofL_len (a:List Nat):(ofL a).length=a.length:=by simp[ofL,Str.length]
theorem sum_len:∀(r:List Nat),((r.map λx=>ofL (figs x)).map (·.length)).sum<=3*r.length
 |[]=>by simp
 |x::r=>by
  have h1:=(fig_len x).2
  have h2:=sum_len r
  rw[List.map_cons,List.map_cons,List.sum_cons,List.length_cons,ofL_len]
  lia
theorem join_nil:∀(ws:List (List Nat)),Txt.join ("" : Str) (ws.map ofL)=ofL ws.flatten:=by
 intro ws
 show Builtin.Str.glued _ _=_
 rw[StrLaws.glued_eq_join,nil0]
 induction ws with
 |nil=>rfl
 |cons w ws ih=>
  cases ws with
  |nil=>show ofL w=_;simp
  |cons v r=>
   show ofL w++ofL []++Str.join (ofL []) ((v::r).map ofL)=_
   rw[ih,ofL_app,ofL_app]
   simp
section
variable {P:Program}{w:World}{K:PySem.W.Frag}{mg:Str->Option Value}{base:Heap}
theorem scLineOf:FnScope ["numbers"] ["numbers"] (defScope sLineOf):=⟨rfl,rfl,rfl,by decide +kernel,rfl,by decide +kernel,by decide +kernel⟩
def spLineOf:Sp:=λvs H Q _=>∃(b:Addr) (r:List Nat),vs=[.ref b]/\H b=some (.tup (vN r))/\(∀x∈r,x<1000)/\r.length<=4/\∀H',Same H H'->Q (.str (ofL (lineL r))) H'
theorem ok_lineOf {f:Addr}{fd:FuncData}(F:Fun K "line_of" "line_of" sLineOf f fd) (C:Blt2 mg):FnOk P w K mg base CX0 1 f fd ["numbers"] spLineOf:=by
 refine F.ok scLineOf (λvs H Q E h=>?_) (λcdv A outer s H vs Q E hr h=>?_)
 ·obtain⟨b,r,rfl,_⟩:=h
  rfl
 ·obtain⟨b,r,rfl,hb,hx,h4,q⟩:=h
  refine lastE ⟨_,⟨ps_ret (pe_op op_add_str (pe_bm PySem.F.plainAttrs_str PySem.F.slot_str_join PySem.F.type_str_join mt_join pe_str (pa_cons (pe_compB ["numbers"] (defScope sLineOf) rfl rfl rfl scLineOf.nd (pi_tup (pv 0))
    (λcl C' fp s₀ H₀=>pe_callTy call_str_int (by rfl) C.str PyProof.Rows.boot_str (pa_cons (pv 0) pa_nil))) pa_nil)) pe_str)⟩,?_⟩
  refine⟨rfl,?_⟩
  refine⟨_,rfl,b,rfl,⟨_,SqT.of hb⟩,λD hD=>comp_walk hD (λi z _=>∃m:Nat,r[i]?=some m/\z=.str (ofL (figs m))) (goes_tup (K:=K) hb) (by rw[vN_len];exact small1000 (by lia)) (λ_ _ _ _ _ _ h=>h) ?_ ?_⟩
  ·intro i x H2 hi hxx s2 Q' hq
   obtain⟨m,hm,rfl⟩:=vN_get hxx
   have hm1:=hx m (List.mem_of_getElem? hm)
   refine⟨_,rfl,(m:Int),rfl,int_able hm1,hq _ _ (Same.refl _) ⟨m,hm,?_⟩⟩
   exact congrArg V.str (str_fig hm1)
  ·intro ys H2 s2 hd2 hly hys
   have ey:ys=(r.map λx=>ofL (figs x)).map V.str:=by
    refine list_ext (by rw[hly,vN_len,List.length_map,List.length_map]) λi x hx=>?_
    obtain⟨m,hm,rfl⟩:=hys i x hx
    rw[List.getElem?_map,List.getElem?_map,hm];rfl
   subst ey
   have hs:=sum_len r
   have e1:(" " : Str).length=1:=by decide +kernel
   refine⟨" ",D,r.map λx=>ofL (figs x),rfl,rfl,hd2,by rw[e1,List.length_map];lia,?_⟩
   have ej:Txt.join (" " : Str) (r.map λx=>ofL (figs x))=ofL (lineW r):=by
    rw[sp32]
    have:=glue_ofL 32 (r.map figs)
    rw[List.map_map] at this
    exact this
   have hl:=lineW_len r
   refine⟨_, "\n",rfl,rfl,?_,?_⟩
   ·rw[ej,ofL_len,nl10,ofL_len]
    show (lineW r).length+1<=sizeLine
    exact Nat.le_of_lt (small1000 (by lia))
   ·rw[ej,nl10,ofL_app]
    exact q H2 s2
theorem scText:FnScope ["shape", "n", "top", "rows"] ["shape"] (defScope sText):=⟨rfl,rfl,rfl,by decide +kernel,rfl,by decide +kernel,by decide +kernel⟩
theorem flat_len:∀(rows:List Row),(∀r∈rows,r.length<=4)->((rows.map lineL).map (·.length)).sum<=17*rows.length/\(rows.map lineL).flatten.length<=17*rows.length
 |[],_=>by simp
 |r::rows,h=>by
  have h1:=flat_len rows λs hs=>h s (List.mem_cons_of_mem _ hs)
  have h2:=lineW_len r
  have h3:=h r (by simp)
  have h4:(lineL r).length=(lineW r).length+1:=by unfold lineL;simp
  rw[List.map_cons,List.map_cons,List.sum_cons,List.flatten_cons,List.length_append,List.length_cons]
  lia
theorem row_small {n tp:Nat}{rows:List Row}(c:Canon n tp rows) (hl:rows.length<=900):∀r∈rows,r.length=4/\∀x∈r,x<1000:=λr hr=>by
 obtain⟨i,hi,e⟩:=List.mem_iff_getElem.mp hr
 have:=c.rok i r (by rw[List.getElem?_eq_getElem hi,e])
 exact⟨this.1,λx hx=>by have:=this.2 x hx;lia⟩
end
end Pr
namespace L2
open PySem PySem.Spec PyProof.Rows
theorem Fun.ok1 {P:Program}{w:World}{K:PySem.W.Frag}{mg:Str->Option Value}{base:Heap}{x qual:Str}{st:Stmt}{f:Addr}{fd:FuncData}{N ps:List Str}{k:Nat}{sp:Sp}(F:Fun K x qual st f fd) (S:FnScope N ps (defScope st)) (len:∀vs H Q E,sp vs H Q E->vs.length=ps.length)
  (hbody:∀(cdv:Value) (A:Around) (outer:List Env) (s:Shared) (H:Hp) (vs:List V) (Q:VK) (E:XK),Room k (A.deeper (envOfC qual (defScope st) s.heap.objs.size f cdv))->sp vs H Q E ->
   ∃t,PSs (cxOf (CX1 P w) P w K mg base N qual (defScope st) f cdv A outer s H E) (defBody st) t/\t { nx:=λ_ H'=>Q .non H',rt:=Q } (start N vs) H):FnOk P w K mg base (CX1 P w) (k+1) f fd ps sp:=by
 obtain⟨oc,od,kV,doc,pm,an,cdv,ct,osl,rfl,lk,hcd⟩:=F.ex
 exact fn_of lk hcd S len λA outer s H vs Q E hr hsp=>hbody cdv A outer s H vs Q E hr hsp
end L2
namespace Pr
open PySem L2 Qf Sp
section
variable {P:Program}{w:World}{K:PySem.W.Frag}{mg:Str->Option Value}{base:Heap}
theorem scWantF:FnScope ["n"] ["n"] (defScope sWantF):=⟨rfl,rfl,rfl,by decide +kernel,rfl,by decide +kernel,by decide +kernel⟩
def spWantF3 (C:Addr):Sp:=λvs H Q E=>∃(v:V) (d:PyData),vs=[v]/\DatX H v d/\(wholeD 12 d=true->Q .non H)/\(wholeD 12 d=false->E (.ref C) none H)
theorem ok_wantF3 {f fS:Addr}{fd fdS:FuncData}{c:Nat->Addr}(F:Fun K "want_floor" "want_floor" sWantF f fd) (T:Kn K mg c) (hS:mg "is_size" = some (.ref fS)) (FS:Fun K "is_size" "is_size" sSize fS fdS) (bS:Binds K fdS ["thing"] []) (GS:FnOk P w K mg base CX0 2 fS fdS ["thing"] spSize3) :
  FnOk P w K mg base (CX1 P w) 3 f fd ["n"] (spWantF3 (c 0)):=by
 refine F.ok1 scWantF (λvs H Q E h=>?_) (λcdv A outer s H vs Q E hr h=>?_)
 ·obtain⟨x,d,rfl,_⟩:=h
  rfl
 ·obtain⟨x,d,rfl,hx,q1,q2⟩:=h
  refine⟨_,pss_one (ps_if (pt_not (pt_val (pe_call GS hr (by rfl) hS FS.kp bS .nil pass0 (pa_cons (pv 0) pa_nil)))) (pss_one (ps_raise (by rfl) T.n0 (T.ex 0 (by decide)) rfl raises1 (pa_cons pe_str pa_nil))) pss_nil),?_⟩
  refine⟨_,rfl,x,d,rfl,hx,_,rfl,?_⟩
  refine ite2 (λhc=>?_) (λhc=>?_)
  ·exact⟨by decide,q2 (by simpa using hc)⟩
  ·exact q1 (by simpa using hc)
def IsSh (d:PyData):Prop:=∃n tp rows,d=dTell n tp rows/\Canon n tp rows
def spWantS3 (C:Addr):Sp:=λvs H Q E=>∃(v:V) (d:PyData),vs=[v]/\DatX H v d/\Bnd d/\(IsSh d->∀H',Same H H'->Q .non H')/\(¬IsSh d->∀H',Same H H'->E (.ref C) none H')
theorem ok_wantS3 {f fS:Addr}{fd fdS:FuncData}{c:Nat->Addr}(F:Fun K "want_shape" "want_shape" sWantS f fd) (T:Kn K mg c) (hS:mg "is_shape" = some (.ref fS)) (FS:Fun K "is_shape" "is_shape" sShape fS fdS) (bS:Binds K fdS ["thing"] []) (GS:FnOk P w K mg base CX0 15 fS fdS ["thing"] spShape3) :
  FnOk P w K mg base (CX1 P w) 16 f fd ["shape"] (spWantS3 (c 3)):=by
 refine F.ok1 scWantS (λvs H Q E h=>?_) (λcdv A outer s H vs Q E hr h=>?_)
 ·obtain⟨x,d,rfl,_⟩:=h
  rfl
 ·obtain⟨x,d,rfl,hx,bn,q1,q2⟩:=h
  refine⟨_,pss_one (ps_if (pt_not (pt_val (pe_call GS hr (by rfl) hS FS.kp bS .nil pass0 (pa_cons (pv 0) pa_nil)))) (pss_one (ps_raise (by rfl) T.n3 (T.ex 3 (by decide)) rfl raises1 (pa_cons pe_str pa_nil))) pss_nil),?_⟩
  refine⟨_,rfl,x,d,rfl,hx,bn,λb H' hb s'=>⟨_,rfl,?_⟩⟩
  cases b with
  |true=>exact iteF (q1 (hb.mp rfl) H' s')
  |false=>exact iteT ⟨by decide,q2 (λz=>Bool.noConfusion (hb.mpr z)) H' s'⟩
theorem scEmpty:FnScope ["n"] ["n"] (defScope sEmpty):=⟨rfl,rfl,rfl,by decide +kernel,rfl,by decide +kernel,by decide +kernel⟩
theorem scFull:FnScope ["n"] ["n"] (defScope sFull):=⟨rfl,rfl,rfl,by decide +kernel,rfl,by decide +kernel,by decide +kernel⟩
def spEmpty3 (C:Addr):Sp:=λvs H Q E=>∃(v:V) (d:PyData),vs=[v]/\DatX H v d/\(wholeD 12 d=true->∀u H',Same H H'->Q u H')/\(wholeD 12 d=false->E (.ref C) none H)
theorem ok_empty3 {f fW:Addr}{fd fdW:FuncData}{C:Addr}(F:Fun K "empty" "empty" sEmpty f fd) (hem:∃t,mg "EMPTY" = some (.int 0 t)) (hW:mg "want_floor" = some (.ref fW)) (FW:Fun K "want_floor" "want_floor" sWantF fW fdW) (bW:Binds K fdW ["n"] []) (GW:FnOk P w K mg base (CX1 P w) 3 fW fdW ["n"] (spWantF3 C)) :
  FnOk P w K mg base (CX1 P w) 4 f fd ["n"] (spEmpty3 C):=by
 obtain⟨te,he⟩:=hem
 refine F.ok1 scEmpty (λvs H Q E h=>?_) (λcdv A outer s H vs Q E hr h=>?_)
 ·obtain⟨x,d,rfl,_⟩:=h
  rfl
 ·obtain⟨x,d,rfl,hx,q1,q2⟩:=h
  refine seqE ⟨_,⟨ps_expr (pe_call GW hr (by rfl) hW FW.kp bW .nil passes1 (pa_cons (pv 0) pa_nil))⟩,?_⟩
  refine lastE ⟨_,⟨ps_ret (pe_tup (Ars2.go (.cons ⟨pv 0⟩ (.cons ⟨pe_glob (v:=.int 0) (by rfl) he ⟨_,rfl⟩⟩ (.cons ⟨pe_tup pa_nil⟩ .nil rfl) rfl) rfl)))⟩,?_⟩
  refine⟨_,rfl,x,d,rfl,hx,λhw=>?_,q2⟩
  exact⟨_,rfl,(by show 0<=sizeLine;decide),λa ha=>⟨(by show 3<=sizeLine;decide),λb hb=>q1 hw _ _ ((sameU ha).trans (sameU hb))⟩⟩
theorem ok_full3 {f fW:Addr}{fd fdW:FuncData}{C:Addr}(F:Fun K "full" "full" sFull f fd) (hem:∃t,mg "FULL" = some (.int 1 t)) (hW:mg "want_floor" = some (.ref fW)) (FW:Fun K "want_floor" "want_floor" sWantF fW fdW) (bW:Binds K fdW ["n"] []) (GW:FnOk P w K mg base (CX1 P w) 3 fW fdW ["n"] (spWantF3 C)) :
  FnOk P w K mg base (CX1 P w) 4 f fd ["n"] (spEmpty3 C):=by
 obtain⟨te,he⟩:=hem
 refine F.ok1 scFull (λvs H Q E h=>?_) (λcdv A outer s H vs Q E hr h=>?_)
 ·obtain⟨x,d,rfl,_⟩:=h
  rfl
 ·obtain⟨x,d,rfl,hx,q1,q2⟩:=h
  refine seqE ⟨_,⟨ps_expr (pe_call GW hr (by rfl) hW FW.kp bW .nil passes1 (pa_cons (pv 0) pa_nil))⟩,?_⟩
  refine lastE ⟨_,⟨ps_ret (pe_tup (Ars2.go (.cons ⟨pv 0⟩ (.cons ⟨pe_glob (v:=.int 1) (by rfl) he ⟨_,rfl⟩⟩ (.cons ⟨pe_tup pa_nil⟩ .nil rfl) rfl) rfl)))⟩,?_⟩
  refine⟨_,rfl,x,d,rfl,hx,λhw=>?_,q2⟩
  exact⟨_,rfl,(by show 0<=sizeLine;decide),λa ha=>⟨(by show 3<=sizeLine;decide),λb hb=>q1 hw _ _ ((sameU ha).trans (sameU hb))⟩⟩
def spText3 (C:Addr):Sp:=λvs H Q E=>∃(v:V) (d:PyData),vs=[v]/\DatX H v d/\Bnd d/\(IsSh d->∀u H',Same H H'->Q u H')/\(¬IsSh d->∀H',Same H H'->E (.ref C) none H')
theorem ok_text3 {f fW fL C3:Addr}{fd fdW fdL:FuncData}(F:Fun K "shape_text" "shape_text" sText f fd)
  (hW:mg "want_shape" = some (.ref fW)) (FW:Fun K "want_shape" "want_shape" sWantS fW fdW) (bW:Binds K fdW ["shape"] []) (GW:FnOk P w K mg base (CX1 P w) 16 fW fdW ["shape"] (spWantS3 C3))
  (hL:mg "line_of" = some (.ref fL)) (FL:Fun K "line_of" "line_of" sLineOf fL fdL) (bL:Binds K fdL ["numbers"] []) (C:Blt2 mg):FnOk P w K mg base (CX1 P w) 17 f fd ["shape"] (spText3 C3):=by
 have GL:FnOk P w K mg base CX0 1 fL fdL ["numbers"] spLineOf:=ok_lineOf FL C
 refine F.ok1 scText (λvs H Q E h=>?_) (λcdv A outer s H vs Q E hr h=>?_)
 ·obtain⟨v,d,rfl,_⟩:=h
  rfl
 ·obtain⟨v,d,rfl,hd,bn,q1,q2⟩:=h
  have hr1:Room 1 _:=hr.mono (by decide)
  refine seqE ⟨_,⟨ps_expr (pe_call GW hr (by rfl) hW FW.kp bW .nil passes1 (pa_cons (pv 0) pa_nil))⟩,?_⟩
  refine seqE ⟨_,⟨ps_asg (pv 0) (pg_tup rfl (pgs_cons (pg_name (i:=1) scText.nd rfl (by first|exact Or.inl rfl|exact Or.inr rfl)) (pgs_cons (pg_name (i:=2) scText.nd rfl (by first|exact Or.inl rfl|exact Or.inr rfl)) (pgs_cons (pg_name (i:=3) scText.nd rfl (by first|exact Or.inl rfl|exact Or.inr rfl)) pgs_nil))))⟩,?_⟩
  refine lastE ⟨_,⟨ps_ret (pe_op op_add_str (pe_call GL hr1 (by rfl) hL FL.kp bL .nil pass0 (pa_cons (pe_tup (pa_cons (pv 1) (pa_cons (pv 2) pa_nil))) pa_nil))
   (PEb.go (pe_bmb PySem.F.plainAttrs_str PySem.F.slot_str_join PySem.F.type_str_join mt_join ⟨pe_str⟩ (.cons ⟨pe_compB ["shape", "n", "top", "rows"] (defScope sText) rfl rfl rfl scText.nd (piT K rfl (pv 3))
    (λcl C' fp s₀ H₀=>pe_call GL hr1 (by rfl) hL FL.kp bL .nil pass0 (pa_cons (pv 0) pa_nil))⟩ .nil rfl))))⟩,?_⟩
  refine⟨_,rfl,v,d,rfl,hd,bn,λsh H1 s1=>?_,q2⟩
  obtain⟨n,tp,rows,rfl,cn⟩:=id sh
  have hl9:=bnd_rows bn
  obtain⟨t,rfl,p,ht,hR⟩:=dat_tell (hd.same s1)
  have q:∀H',Same H H'->Q (.str (ofL (telL n tp rows))) H':=λH' s'=>q1 sh _ _ s'
  refine⟨_,rfl,t,_,rfl,SqT.of ht,rfl,_,_,rfl,_,_,rfl,_,_,rfl,rfl,?_⟩
  refine⟨_,rfl,_,rfl,(by show 2<=sizeLine;decide),λu hu=>?_⟩
  have hn:=cn.size
  have htp:=cn.inn
  have hrs:=row_small cn hl9
  refine⟨u,[n,tp],rfl,by rw[upd_same];rfl,λx hx=>?_,(by show 2<=4;decide),λH2 s2=>?_⟩
  ·have:x=n\/x=tp:=by simpa using hx
   lia
  have S2:Same H H2:=(s1.trans (sameU hu)).trans s2
  obtain⟨bs,hp,hbl,hrow⟩:=hR.mono ((sameU hu).trans s2).tups
  have hlb:(bs.map V.ref).length=rows.length:=by rw[List.length_map];exact hbl
  refine⟨rfl,?_⟩
  refine⟨_,rfl,p,rfl,⟨_,SqT.of hp⟩,λD hD=>comp_walk hD (λi z _=>∃r,rows[i]?=some r/\z=.str (ofL (lineL r))) (goes_tup (K:=K) hp) (by rw[hlb];exact small1000 (by lia)) (λ_ _ _ _ _ _ h=>h) ?_ ?_⟩
  ·intro i x H3 hi hxx s3 Q' hq
   rw[List.getElem?_map] at hxx
   obtain⟨b,hb,rfl⟩:=Option.map_eq_some_iff.mp hxx
   have hi2:i<rows.length:=by rw[<- hlb];exact hi
   have hri:rows[i]?=some rows[i]:=List.getElem?_eq_getElem hi2
   have hr4:=hrs rows[i] (List.getElem_mem hi2)
   exact⟨_,rfl,b,rows[i],rfl,s3 _ _ (hrow i b _ hb hri),hr4.2,by lia,λH4 s4=>hq _ _ s4 ⟨_,hri,rfl⟩⟩
  ·intro ys H3 s3 hd3 hly hys
   have ey:ys=((rows.map lineL).map ofL).map V.str:=by
    refine list_ext (by rw[hly,hlb,List.length_map,List.length_map,List.length_map]) λi x hx=>?_
    obtain⟨m,hm,rfl⟩:=hys i x hx
    rw[List.getElem?_map,List.getElem?_map,List.getElem?_map,hm];rfl
   subst ey
   have hf:=flat_len rows λr hr=>by have:=(hrs r hr).1;lia
   have e0:("" : Str).length=0:=by decide +kernel
   have el:(((rows.map lineL).map ofL).map (·.length))=(rows.map lineL).map (·.length):=by
    rw[List.map_map]
    exact List.map_congr_left λa _=>ofL_len a
   refine⟨"",D,(rows.map lineL).map ofL,rfl,rfl,hd3,by rw[e0,el];lia,?_⟩
   have h2:=lineW_len [n,tp]
   have h2':(lineL [n,tp]).length=(lineW [n,tp]).length+1:=by unfold lineL;simp
   refine⟨_,_,rfl,rfl,?_,?_⟩
   ·rw[join_nil,ofL_len,ofL_len]
    have:(lineW [n,tp]).length<=8:=h2
    show _<=2^24
    lia
   ·rw[join_nil,ofL_app]
    exact q H3 (S2.trans s3)
end
end Pr
namespace Pr
open PySem L2 Qf Sp
section
variable {P:Program}{w:World}{K:PySem.W.Frag}{mg:Str->Option Value}{base:Heap}
abbrev nAsk:List Str:=["_law_word", "_law_thing", "_law_told", "_law_e"]
theorem scAsk:FnScope nAsk ["_law_word", "_law_thing"] (defScope lAsked):=⟨rfl,rfl,rfl,by decide +kernel,rfl,by decide +kernel,by decide +kernel⟩
def spAsk:Sp:=λvs H Q _=>∃(wd:Str) (v:V) (d:PyData) (good:Bool) (j:Nat),vs=[.str wd,v]/\DatX H v d/\Bnd d /\
 ((wd = "text" /\ j=3/\(good=true<->IsSh d))\/(wd = "empty" /\ j=0/\good=wholeD 12 d)\/(wd = "full" /\ j=0/\good=wholeD 12 d)) /\
 ∀(D:Addr) H',Same H H'->H' D=some (.lst (vN (if good=true then [] else kinds j)))->Q (.ref D) H'
theorem ok_ask {f fT fE fF fK:Addr}{fd fdT fdE fdF fdK:FuncData}{c:Nat->Addr}(F:Fun K "_law_asked" "_law_asked" lAsked f fd) (B:Blt mg) (T:Kn K mg c)
  (hT:mg "shape_text" = some (.ref fT)) (FT:Fun K "shape_text" "shape_text" sText fT fdT) (bT:Binds K fdT ["shape"] []) (GT:FnOk P w K mg base (CX1 P w) 17 fT fdT ["shape"] (spText3 (c 3)))
  (hE:mg "empty" = some (.ref fE)) (FE:Fun K "empty" "empty" sEmpty fE fdE) (bE:Binds K fdE ["n"] []) (GE:FnOk P w K mg base (CX1 P w) 4 fE fdE ["n"] (spEmpty3 (c 0)))
  (hF:mg "full" = some (.ref fF)) (FF:Fun K "full" "full" sFull fF fdF) (bF:Binds K fdF ["n"] []) (GF:FnOk P w K mg base (CX1 P w) 4 fF fdF ["n"] (spEmpty3 (c 0)))
  (hK:mg "_law_kinds" = some (.ref fK)) (FK:Fun K "_law_kinds" "_law_kinds" lKinds fK fdK) (bK:Binds K fdK ["_law_e"] []):FnOk P w K mg base CX0 18 f fd ["_law_word", "_law_thing"] spAsk:=by
 refine F.ok scAsk (λvs H Q E h=>?_) (λcdv A outer s H vs Q E hr h=>?_)
 ·obtain⟨wd,v,d,good,j,rfl,_⟩:=h
  rfl
 ·obtain⟨wd,v,d,good,j,rfl,hd,bn,alt,q⟩:=h
  have hr1:Room 1 _:=hr.mono (by decide)
  have hr4:Room 4 _:=hr.mono (by decide)
  refine seqE ⟨_,⟨ps_set (i:=2) scAsk.nd rfl (by first|exact Or.inl rfl|exact Or.inr rfl) (pe_lst pa_nil)⟩,?_⟩
  refine seqE ⟨_,⟨ps_try (i:=3) (FA:=c 16) (tb:=λE=>_) (th:=λx=>_) rfl rfl rfl scAsk.nd rfl rfl (by rfl) T.n16
   (λpins E=>StB.go (.cons ⟨ps_if (pt_cmpR op_eq (pv 0) pe_str (nomark _)) (pss_one (ps_expr (pe_call GT hr (by rfl) hT FT.kp bT .nil (passesT rfl) (pa_cons (pv 1) pa_nil)))) pss_nil⟩
    (.cons ⟨ps_if (pt_cmpR op_eq (pv 0) pe_str (nomark _)) (pss_one (ps_expr (pe_call GE hr4 (by rfl) hE FE.kp bE .nil (passesT rfl) (pa_cons (pv 1) pa_nil)))) pss_nil⟩
    (.one ⟨ps_if (pt_cmpR op_eq (pv 0) pe_str (nomark _)) (pss_one (ps_expr (pe_call GF hr4 (by rfl) hF FF.kp bF .nil (passesT rfl) (pa_cons (pv 1) pa_nil)))) pss_nil⟩))))
   (λx=>pss_one (ps_set (i:=2) scAsk.nd rfl (by first|exact Or.inl rfl|exact Or.inr rfl) (pe_callH (ok_kindsH (xe:=x) FK B T) (hr1.toH x) (by rfl) hK FK.kp bK (pa_cons (pv 3) pa_nil))))⟩,?_⟩
  refine lastE ⟨_,⟨ps_ret (pv 2)⟩,?_⟩
  have back:∀{H1 H2:Hp}{xa:Addr}{o:HO},Same H H1->H1 xa=none->Same (upd H1 xa o) H2->Same H H2:=λs1 hn s2 b u e=>by
   have e1:=s1 b u e
   exact s2 b u (by rw[upd_ne (ne_of_none e1 hn)];exact e1)
  refine⟨(by show 0<=sizeLine;decide),λL hL=>?_⟩
  have S0:=sameU (o:=.lst []) hL
  have hd0:=hd.same S0
  have hL0:upd H L (.lst []) L=some (.lst []):=upd_same
  generalize upd H L (.lst [])=H0 at S0 hd0 hL0 ⊢
  have n1:¬V.str ("text" : Str)=V.str ("empty" : Str):=by decide +kernel
  have n2:¬V.str ("text" : Str)=V.str ("full" : Str):=by decide +kernel
  have n3:¬V.str ("empty" : Str)=V.str ("text" : Str):=by decide +kernel
  have n4:¬V.str ("empty" : Str)=V.str ("full" : Str):=by decide +kernel
  have n5:¬V.str ("full" : Str)=V.str ("text" : Str):=by decide +kernel
  have n6:¬V.str ("full" : Str)=V.str ("empty" : Str):=by decide +kernel
  rcases alt with ⟨rfl,rfl,hg⟩|⟨rfl,rfl,hg⟩|⟨rfl,rfl,hg⟩
  ·refine⟨_,rfl,rfl,_,rfl,?_⟩
   rw[decide_eq_true rfl]
   refine iteT ?_
   refine⟨_,rfl,v,d,rfl,hd0,bn,λsh u H' s'=>?_,λno H' s'=>?_⟩
   ·refine⟨_,rfl,rfl,_,rfl,?_⟩
    rw[decide_eq_false n1]
    refine iteF ⟨_,rfl,rfl,_,rfl,?_⟩
    rw[decide_eq_false n2]
    refine iteF ⟨_,rfl,q L H' (S0.trans s') ?_⟩
    rw[if_pos (hg.mpr sh)]
    exact s' _ _ hL0
   ·refine⟨c 3,rfl,T.fm 3 (by decide),λxa hxa=>⟨_,rfl,3,rfl,by decide,upd_same,λD H2 s2 hD=>⟨_,rfl,q D H2 (back (S0.trans s') hxa s2) ?_⟩⟩⟩
    rw[if_neg (λz=>no (hg.mp z))]
    exact hD
  ·refine⟨_,rfl,rfl,_,rfl,?_⟩
   rw[decide_eq_false n3]
   refine iteF ⟨_,rfl,rfl,_,rfl,?_⟩
   rw[decide_eq_true rfl]
   refine iteT ?_
   refine⟨_,rfl,v,d,rfl,hd0,λsh u H' s'=>?_,λno=>?_⟩
   ·refine⟨_,rfl,rfl,_,rfl,?_⟩
    rw[decide_eq_false n4]
    refine iteF ⟨_,rfl,q L H' (S0.trans s') ?_⟩
    rw[if_pos (hg.trans sh)]
    exact s' _ _ hL0
   ·refine⟨c 0,rfl,T.fm 0 (by decide),λxa hxa=>⟨_,rfl,0,rfl,by decide,upd_same,λD H2 s2 hD=>⟨_,rfl,q D H2 (back S0 hxa s2) ?_⟩⟩⟩
    rw[if_neg (λz=>by rw[hg,no] at z;cases z)]
    exact hD
  ·refine⟨_,rfl,rfl,_,rfl,?_⟩
   rw[decide_eq_false n5]
   refine iteF ⟨_,rfl,rfl,_,rfl,?_⟩
   rw[decide_eq_false n6]
   refine iteF ⟨_,rfl,rfl,_,rfl,?_⟩
   rw[decide_eq_true rfl]
   refine iteT ?_
   refine⟨_,rfl,v,d,rfl,hd0,λsh u H' s'=>?_,λno=>?_⟩
   ·refine⟨_,rfl,q L H' (S0.trans s') ?_⟩
    rw[if_pos (hg.trans sh)]
    exact s' _ _ hL0
   ·refine⟨c 0,rfl,T.fm 0 (by decide),λxa hxa=>⟨_,rfl,0,rfl,by decide,upd_same,λD H2 s2 hD=>⟨_,rfl,q D H2 (back S0 hxa s2) ?_⟩⟩⟩
    rw[if_neg (λz=>by rw[hg,no] at z;cases z)]
    exact hD
end
end Pr
namespace L2
open PySem PySem.Spec PyProof.Rows PySem.W
section
variable {X:Cx}{st:Stmt}{rest:List Stmt}{t u:TS}
def tSeqI (t u:TS):TS:=λD σ H=>∃I:St->Hp->Prop,t { D with nx:=I } σ H/\∀σ' H',I σ' H'->u D σ' H'
theorem pss_consI (h1:PS X st t) (h2:PSs X rest u):PSs X (st::rest) (tSeqI t u):=by
 intro pins s σ H D I ⟨J,h,hJ⟩
 refine wpAny_execs_cons (thn (h1 pins s σ H { D with nx:=J } I h) λf s1 q=>?_)
 cases f with
 |next=>
  obtain⟨σ',H',I',q⟩:=q
  exact h2 pins s1 σ' H' D I' (hJ σ' H' q)
 |ret v=>exact q
 |brk=>exact q
 |cont=>exact q
theorem Inv.forget {pins:List (Addr×Obj)}{s:Shared}{σ:St}{H:Hp}(k:Nat) (I:Inv X pins σ H s):Inv X pins (σ.set k none) H s:=by
 refine⟨I.ok,I.os,I.bare,I.base,?_,I.cell,I.free,I.freeC,I.pin,I.hok,by rw[<- I.len];exact List.length_set ..⟩
 obtain⟨m,h1,h2⟩:=I.loc
 refine⟨m,h1,λi x v e1 e2 e3=>?_⟩
 rw[List.getElem?_set] at e2
 by_cases z:k=i
 ·rw[if_pos z] at e2
  split at e2<;>cases e2
 ·rw[if_neg z] at e2
  exact h2 i x v e1 e2 e3
theorem ps_forget (k:Nat) (h:PS X st t):PS X st (λD σ H=>t D (σ.set k none) H):=λpins s σ H D I q=>h pins s _ H D (I.forget k) q
end
section
variable {X:Cx}{e:Expr}{te:TE}
def Cx.hide (X:Cx) (k:Nat) (d:Str):Cx:={ X with N:=X.N.set k d }
theorem hide_ok {k:Nat}{d:Str}(ok:X.Ok):(X.hide k d).Ok:=by
 obtain⟨⟩:=ok
 constructor<;>assumption
theorem unhide_ok {k:Nat}{d:Str}(ok:(X.hide k d).Ok):X.Ok:=by
 obtain⟨⟩:=ok
 constructor<;>assumption
theorem pe_hide (k:Nat) (d:Str) (h:PE (X.hide k d) e te):PE X e (λσ H Q=>σ[k]?=some none/\te σ H Q):=by
 intro pins s σ H Q I ⟨hk,q⟩
 have I':Inv (X.hide k d) pins σ H s:=by
  refine⟨hide_ok I.ok,I.os,I.bare,I.base,?_,I.cell,I.free,I.freeC,I.pin,I.hok,by rw[I.len];exact (List.length_set ..).symm⟩
  obtain⟨m,h1,h2⟩:=I.loc
  refine⟨m,h1,λi x v e1 e2 e3=>?_⟩
  have e1':(X.N.set k d)[i]?=some x:=e1
  rw[List.getElem?_set] at e1'
  by_cases z:k=i
  ·subst z
   rw[hk] at e2
   cases e2
  ·rw[if_neg z] at e1'
   exact h2 i x v e1' e2 e3
 refine thn (h pins s σ H Q I' q) λu s' ⟨v,H',J,r,g⟩=>⟨v,H',?_,r,g⟩
 refine⟨unhide_ok J.ok,J.os,J.bare,J.base,?_,J.cell,J.free,J.freeC,J.pin,J.hok,by rw[J.len];exact List.length_set ..⟩
 obtain⟨m,h1,h2⟩:=J.loc
 refine⟨m,h1,λi x v e1 e2 e3=>?_⟩
 by_cases z:k=i
 ·subst z
  rw[hk] at e2
  cases e2
 ·refine h2 i x v ?_ e2 e3
  show (X.N.set k d)[i]?=some x
  rw[List.getElem?_set,if_neg z]
  exact e1
end
def isStar:Expr->Bool
 |.Starred _ _=>true
 |_=>false
theorem star_not {e:Expr}(h:isStar e=false) (es:List Expr) (env:Env):starEach (e::es) env=(false,eval e env)::starEach es env:=by
 cases e<;>first|rfl|(exfalso;cases h)
theorem pa_c {X:Cx}{e:Expr}{es:List Expr}{te:TE}{t:TA}(ha:PE X e te) (hr:PA X es t) (h:isStar e=false:=by rfl):PA X (e::es) (tCons te t):=pa_cons ha hr (star_not h es X.env)
inductive PAs (X:Cx):List Expr->List TE->Prop where
 |nil:PAs X [] []
 |cons {e:Expr}{es:List Expr}{te:TE}{ts:List TE}(h:PE X e te) (r:PAs X es ts) (n:isStar e=false:=by rfl):PAs X (e::es) (te::ts)
def tAll:List TE->TA
 |[]=>tNil
 |t::ts=>tCons t (tAll ts)
theorem PAs.pa {X:Cx}{es:List Expr}{ts:List TE}(h:PAs X es ts):PA X es (tAll ts):=by
 induction h with
 |nil=>exact pa_nil
 |cons h r n ih=>exact pa_c h ih n
theorem ps_retb {X:Cx}{e:Expr}{te:TE}{pos:Pos}(he:PEb X e te):PSb X (.Return (some e) pos) (tRet te):=⟨ps_ret he.go⟩
end L2
namespace Pr
open PySem L2 Qf
theorem seqEI {X:Cx}{st:Stmt}{rest:List Stmt}{R:TS->Prop}(h:∃t,PSb X st t/\∃u,PSs X rest u/\R (tSeqI t u)):∃t,PSs X (st::rest) t/\R t:=by
 obtain⟨t,h1,u,h2,h3⟩:=h
 exact⟨_,pss_consI h1.go h2,h3⟩
inductive StI (X:Cx):List Stmt->TS->Prop
 |one {st:Stmt}{t:TS}(h:PSb X st t):StI X [st] t
 |cons {st:Stmt}{rest:List Stmt}{t u:TS}(h:PSb X st t) (r:StI X rest u):StI X (st::rest) (tSeq t u)
 |consI {st:Stmt}{rest:List Stmt}{t u:TS}(h:PSb X st t) (r:StI X rest u):StI X (st::rest) (tSeqI t u)
theorem StI.go {X:Cx}:∀{l:List Stmt}{t:TS},StI X l t->PSs X l t
 |_,_,.one h=>pss_one h.go
 |_,_,.cons h r=>pss_cons h.go r.go
 |_,_,.consI h r=>pss_consI h.go r.go
end Pr
namespace Pr
open PySem L2 Qf Sp
def Exs (c:Nat->Addr) (H:Hp) (k:Nat) (xs:List V):Prop:=∀(i:Nat) x,xs[i]?=some x->∃e,x=.ref e/\H e=some (.ext (ExcAt e (c (k+i))))
theorem Exs.same {c:Nat->Addr}{H H':Hp}{k:Nat}{xs:List V}(h:Exs c H k xs) (s:Same H H'):Exs c H' k xs:=λi x e=>by
 obtain⟨a,e1,e2⟩:=h i x e
 exact⟨a,e1,s _ _ e2⟩
theorem Exs.app {c:Nat->Addr}{H:Hp}{k m:Nat}{xs ys:List V}(h:Exs c H k xs) (g:Exs c H m ys) (hm:m=k+xs.length):Exs c H k (xs++ys):=λi x e=>by
 by_cases hi:i<xs.length
 ·rw[List.getElem?_append_left hi] at e
  exact h i x e
 ·rw[List.getElem?_append_right (by lia)] at e
  have:=g _ x e
  rwa [show m+(i-xs.length)=k+i by lia] at this
theorem excs_go {c:Nat->Addr}{σ:St}:∀(n k:Nat) (H:Hp) (Q:List V->Hp->Prop),(∀vs H',Same H H'->vs.length=n->Exs c H' k vs->Q vs H')->tAll ((List.range' k n).map λi=>tExc (c i) (tCons (tC (.str "no")) tNil)) σ H Q
 |0,k,H,Q,h=>h [] H (Same.refl _) rfl λi x e=>by simp at e
 |n+1,k,H,Q,h=>by
  refine⟨(by show 1<=sizeLine;decide),λe he=>?_⟩
  refine excs_go n (k+1) _ _ λvs H' s hl hx=>?_
  have hS:=(sameU (o:=.ext (ExcAt e (c k))) he).trans s
  refine h _ _ hS (by rw[List.length_cons,hl]) λi x hxi=>?_
  cases i with
  |zero=>
   have:x=.ref e:=by simpa using hxi.symm
   exact⟨e,this,s _ _ upd_same⟩
  |succ i=>
   have:=hx i x (by simpa using hxi)
   rwa [show k+1+i=k+(i+1) by lia] at this
theorem excs_at {c:Nat->Addr}{σ:St}(n k:Nat){ts:List TE}(ht:ts=(List.range' k n).map λi=>tExc (c i) (tCons (tC (.str "no")) tNil)){H:Hp}{Q:List V->Hp->Prop}(h:∀vs H',Same H H'->vs.length=n->Exs c H' k vs->Q vs H'):tAll ts σ H Q:=by
 subst ht
 exact excs_go n k H Q h
theorem kinds_low:∀k:Nat,k<16->kinds k=[k,16,17]:=by decide
theorem kinds_16:kinds 16=[16,17]:=by decide
theorem datas_vN {H:Hp}:∀r:Row,DatasAt H (vN r) ((r.map λx:Nat=>(x:Int)).map PyData.int)
 |[]=>.nil
 |x::r=>.cons (.int _) (datas_vN r)
def dLN (r:Row):PyData:=dL (r.map λx:Nat=>(x:Int))
theorem dLN_at {H:Hp}{a:Addr}{r:Row}(h:H a=some (.lst (vN r))):DataAt H (.ref a) (dLN r):=.lst h (datas_vN r)
theorem dLN_eqv (a b:Row):PyData.eqv (dLN a) (dLN b)=decide (a=b):=by
 unfold dLN
 rw[dL_eqv]
 have inj:(a.map λx:Nat=>(x:Int))=(b.map λx:Nat=>(x:Int))<->a=b:=⟨λh=>List.map_inj_right (λx y h=>by lia) |>.mp h,λh=>by rw[h]⟩
 rw[Bool.eq_iff_iff]
 simp only[decide_eq_true_eq]
 exact inj
theorem dLN_lay (r:Row):(dLN r).canLay0=true:=dL_lay _
theorem dLN_dep (r:Row):(dLN r).depth<=60:=by
 show PyData.depthAll _+1<=60
 rw[ints_depth]
 decide
section
variable {P:Program}{w:World}{K:PySem.W.Frag}{mg:Str->Option Value}{base:Heap}
abbrev nMade:List Str:=["_law_some"]
theorem scMade:FnScope nMade [] (defScope lMade):=⟨rfl,rfl,rfl,by decide +kernel,rfl,by decide +kernel,by decide +kernel⟩
def spMade:Sp:=λvs H Q _=>vs=[]/\∀H',Same H H'->Q (.bl true) H'
theorem ok_made {f fK:Addr}{fd fdK:FuncData}{c:Nat->Addr}(F:Fun K "_law_made" "_law_made" lMade f fd) (B:Blt mg) (T:Kn K mg c) (hK:mg "_law_kinds" = some (.ref fK)) (FK:Fun K "_law_kinds" "_law_kinds" lKinds fK fdK) (bK:Binds K fdK ["_law_e"] []) :
  FnOk P w K mg base CX0 2 f fd [] spMade:=by
 have GK:FnOk P w K mg base CX0 1 fK fdK ["_law_e"] (spKinds c):=ok_kinds FK B T
 refine F.ok scMade (λvs H Q E h=>?_) (λcdv A outer s H vs Q E hr h=>?_)
 ·obtain⟨rfl,_⟩:=h
  rfl
 ·obtain⟨rfl,q⟩:=h
  have hr1:Room 1 _:=hr.mono (by decide)
  refine seqE ⟨_,ps_setb (i:=0) scMade.nd rfl (by first|exact Or.inl rfl|exact Or.inr rfl) ⟨@pe_lst _ _ _ _ (@PAs.pa _ _ _ (PAs.cons (pe_exc (by rfl) T.n0 (T.ex 0 (by decide)) (pa_cons pe_str pa_nil)) (PAs.cons (pe_exc (by rfl) T.n1 (T.ex 1 (by decide)) (pa_cons pe_str pa_nil)) (PAs.cons (pe_exc (by rfl) T.n2 (T.ex 2 (by decide)) (pa_cons pe_str pa_nil)) (PAs.cons (pe_exc (by rfl) T.n3 (T.ex 3 (by decide)) (pa_cons pe_str pa_nil))
   (PAs.cons (pe_exc (by rfl) T.n4 (T.ex 4 (by decide)) (pa_cons pe_str pa_nil)) (PAs.cons (pe_exc (by rfl) T.n5 (T.ex 5 (by decide)) (pa_cons pe_str pa_nil)) (PAs.cons (pe_exc (by rfl) T.n6 (T.ex 6 (by decide)) (pa_cons pe_str pa_nil)) PAs.nil))))))))⟩ rfl rfl,?_⟩
  refine seqE ⟨_,ps_setb (i:=0) scMade.nd rfl (by first|exact Or.inl rfl|exact Or.inr rfl) ⟨pe_op op_cat (pv 0) (PEb.go ⟨@pe_lst _ _ _ _ (@PAs.pa _ _ _ (PAs.cons (pe_exc (by rfl) T.n7 (T.ex 7 (by decide)) (pa_cons pe_str pa_nil)) (PAs.cons (pe_exc (by rfl) T.n8 (T.ex 8 (by decide)) (pa_cons pe_str pa_nil)) (PAs.cons (pe_exc (by rfl) T.n9 (T.ex 9 (by decide)) (pa_cons pe_str pa_nil)) (PAs.cons (pe_exc (by rfl) T.n10 (T.ex 10 (by decide)) (pa_cons pe_str pa_nil))
   (PAs.cons (pe_exc (by rfl) T.n11 (T.ex 11 (by decide)) (pa_cons pe_str pa_nil)) (PAs.cons (pe_exc (by rfl) T.n12 (T.ex 12 (by decide)) (pa_cons pe_str pa_nil)) PAs.nil)))))))⟩)⟩ rfl rfl,?_⟩
  refine seqE ⟨_,ps_setb (i:=0) scMade.nd rfl (by first|exact Or.inl rfl|exact Or.inr rfl) ⟨pe_op op_cat (pv 0) (PEb.go ⟨@pe_lst _ _ _ _ (@PAs.pa _ _ _ (PAs.cons (pe_exc (by rfl) T.n13 (T.ex 13 (by decide)) (pa_cons pe_str pa_nil)) (PAs.cons (pe_exc (by rfl) T.n14 (T.ex 14 (by decide)) (pa_cons pe_str pa_nil)) (PAs.cons (pe_exc (by rfl) T.n15 (T.ex 15 (by decide)) (pa_cons pe_str pa_nil)) PAs.nil))))⟩)⟩ rfl rfl,?_⟩
  refine lastE ⟨_,ps_retb ⟨pe_and (pe_callB (call_allL rfl) (by rfl) B.all PyProof.Rows.boot_all (pa_cons (pe_compB nMade (defScope lMade) rfl rfl rfl scMade.nd (pi_range1 (by rfl) B.range (pa_cons pe_int pa_nil))
   (λcl C' fp s₀ H₀=>PEb.go ⟨pe_cmpR (op_eqD hr) (PEb.go ⟨pe_call GK hr1 (by rfl) hK FK.kp bK .nil pass0 (pa_cons (pe_ix (ixL K rfl) (pv 1) (pv 0) (λ_ _=>rfl)) pa_nil)⟩) (PEb.go ⟨pe_lst (Ars2.go (.cons ⟨pv 0⟩ (.cons pe_intb (.cons pe_intb .nil rfl) rfl) rfl))⟩) (nomark _)⟩)) pa_nil))
   (pe_one (PEb.go ⟨pe_cmpR (op_eqD hr) (PEb.go ⟨pe_call GK hr1 (by rfl) hK FK.kp bK .nil pass0 (pa_cons (pe_exc (by rfl) T.n16 (T.ex 16 (by decide)) (pa_cons pe_str pa_nil)) pa_nil)⟩) (PEb.go ⟨pe_lst (Ars2.go (.cons pe_intb (.cons pe_intb .nil rfl) rfl))⟩) (nomark _)⟩))⟩,?_⟩
  refine excs_at (c:=c) 7 0 (by rfl) λv7 H1 s1 l7 x7=>⟨(by rw[l7];decide),λa1 h1=>?_⟩
  have S1:=s1.trans (sameU (o:=.lst v7) h1)
  have X1:=x7.same (sameU (o:=.lst v7) h1)
  have E1:upd H1 a1 (.lst v7) a1=some (.lst v7):=upd_same
  generalize upd H1 a1 (.lst v7)=H2 at S1 X1 E1 ⊢
  refine⟨_,rfl,excs_at (c:=c) 6 7 (by rfl) λv6 H3 s3 l6 x6=>⟨(by rw[l6];decide),λa2 h2=>?_⟩⟩
  have S3:=s3.trans (sameU (o:=.lst v6) h2)
  refine⟨a1,a2,v7,v6,rfl,rfl,S3 _ _ E1,upd_same,(by rw[l7,l6];decide),λa3 h3=>?_⟩
  have S4:=S3.trans (sameU (o:=.lst (v7++v6)) h3)
  have X4:=(X1.same S4).app (x6.same ((sameU (o:=.lst v6) h2).trans (sameU (o:=.lst (v7++v6)) h3))) (by rw[l7])
  have E4:upd (upd H3 a2 (.lst v6)) a3 (.lst (v7++v6)) a3=some (.lst (v7++v6)):=upd_same
  have SS4:=S1.trans S4
  generalize upd (upd H3 a2 (.lst v6)) a3 (.lst (v7++v6))=H4 at SS4 X4 E4 ⊢
  refine⟨_,rfl,excs_at (c:=c) 3 13 (by rfl) λv3 H5 s5 l3 x3=>⟨(by rw[l3];decide),λa4 h4=>?_⟩⟩
  have S5:=s5.trans (sameU (o:=.lst v3) h4)
  refine⟨a3,a4,_,v3,rfl,rfl,S5 _ _ E4,upd_same,(by rw[List.length_append,l7,l6,l3];decide),λa5 h5=>?_⟩
  have S6:=S5.trans (sameU (o:=.lst (v7++v6++v3)) h5)
  have X6:=(X4.same S6).app (x3.same ((sameU (o:=.lst v3) h4).trans (sameU (o:=.lst (v7++v6++v3)) h5))) (by rw[List.length_append,l7,l6])
  have E6:upd (upd H5 a4 (.lst v3)) a5 (.lst (v7++v6++v3)) a5=some (.lst (v7++v6++v3)):=upd_same
  have SS6:=SS4.trans S6
  have lv:(v7++v6++v3).length=16:=by rw[List.length_append,List.length_append,l7,l6,l3]
  generalize upd (upd H5 a4 (.lst v3)) a5 (.lst (v7++v6++v3))=H6 at SS6 X6 E6 ⊢
  generalize v7++v6++v3=xs at X6 E6 lv
  refine⟨16,rfl,by decide,by decide,λD hD=>comp_walk hD (λ_ z _=>z=.bl true) (goes_rng (n:=16)) (by decide) (λ_ _ _ _ _ _ h=>h) ?_ ?_⟩
  ·rintro j x H7 hj rfl s7 Q' hq
   have hj':j<16:=hj
   have hat:xs[j]?=some (xs[j]'(by lia)):=List.getElem?_eq_getElem (by lia)
   obtain⟨e,ee,he⟩:=X6 j _ hat
   rw[show 0+j=j by lia] at he
   refine⟨_,rfl,_,rfl,a5,xs,(j:Int),.ref e,rfl,rfl,SqL.of (s7 _ _ E6),by rw[<- ee];exact atI_nat hat,?_⟩
   refine⟨e,j,rfl,by lia,s7 _ _ he,λD' H8 s8 hD'=>?_⟩
   refine⟨_,rfl,(by show 3<=sizeLine;decide),λa6 h6=>?_⟩
   refine⟨dLN (kinds j),dLN [j,16,17],dLN_at (keepU hD' h6),dLN_at upd_same,dLN_lay _,dLN_lay _,dLN_dep _,?_⟩
   rw[dLN_eqv,kinds_low j hj',decide_eq_true rfl]
   exact hq _ _ (s8.trans (sameU h6)) rfl
  ·intro ys H7 s7 hD7 hly hys
   have ey:ys=(List.replicate 16 true).map V.bl:=by
    refine list_ext (by rw[hly,List.length_map,List.length_replicate]) λi x hx=>?_
    have hi:=(List.getElem?_eq_some_iff.mp hx).1
    rw[hys i x hx,List.getElem?_map,List.getElem?_replicate,if_pos (by lia)];rfl
   subst ey
   refine⟨D,List.replicate 16 true,rfl,hD7,?_⟩
   refine⟨_,rfl,iteT ⟨(by show 1<=sizeLine;decide),λa7 h7=>?_⟩⟩
   refine⟨a7,16,rfl,by decide,upd_same,λD' H8 s8 hD'=>?_⟩
   refine⟨(by show 2<=sizeLine;decide),λa8 h8=>?_⟩
   refine⟨dLN (kinds 16),dLN [16,17],dLN_at (keepU hD' h8),dLN_at upd_same,dLN_lay _,dLN_lay _,dLN_dep _,?_⟩
   rw[dLN_eqv,kinds_16,decide_eq_true rfl]
   exact q _ (SS6.trans (s7.trans ((sameU h7).trans (s8.trans (sameU h8)))))
end
end Pr
namespace L2
open PySem
def Yl (H0:Hp) (σ:St) (R:Hp->V->Prop) (te:TE):Prop:=∀H,Same H0 H->∀Q:VK,(∀v H',Same H H'->R H' v->Q v H')->te σ H Q
def Yls (H0:Hp) (σ:St) (R:Hp->V->Prop):List TE->Prop
 |[]=>True
 |t::ts=>Yl H0 σ R t/\Yls H0 σ R ts
theorem yl_all {H0:Hp}{σ:St}{R:Hp->V->Prop}(mono:∀H H' v,Same H H'->R H v->R H' v):∀{ts:List TE}{H:Hp},Same H0 H->Yls H0 σ R ts->∀Q:List V->Hp->Prop,(∀vs H',Same H H'->vs.length=ts.length->(∀v∈vs,R H' v)->Q vs H')->tAll ts σ H Q
 |[],H,s,_,Q,h=>h [] H (Same.refl _) rfl λv hv=>nomatch hv
 |t::ts,H,s,y,Q,h=>y.1 H s _ λv H1 s1 r1=>yl_all mono (s.trans s1) y.2 _ λvs H2 s2 l2 r2=>h _ _ (s1.trans s2) (by rw[List.length_cons,List.length_cons,l2]) λx hx=>by
   rcases List.mem_cons.mp hx with rfl|hx
   ·exact mono _ _ _ s2 r1
   ·exact r2 x hx
end L2
namespace Pr
open PySem L2
theorem cut_to {xs:List V}{a:Nat}(h:a<=xs.length):cutV xs none (some (a:Int))=xs.take a:=by
 unfold cutV
 rw[HT.sIx_nat,HT.sIx_none,Nat.min_eq_left h,List.drop_zero,Nat.sub_zero]
theorem cut_last {xs:List V}:cutV xs none (some (-1))=xs.take (xs.length-1):=by
 have e:HT.sIx xs.length xs.length (some (-1))=xs.length-1:=by
  unfold HT.sIx
  dsimp only
  rw[if_pos (by decide)]
  lia
 unfold cutV
 rw[e,HT.sIx_none,List.drop_zero,Nat.sub_zero]
theorem same_or {H H':Hp}{p:Addr}{o:HO}(h:H'=H\/H p=none/\H'=upd H p o):Same H H':=by
 rcases h with rfl|⟨h,rfl⟩
 ·exact Same.refl _
 ·exact sameU h
end Pr
namespace L2
open PySem PySem.Spec PyProof.Rows
theorem getItem_tuple_whole {prog:Program}{w:World}{A:Around}{E:Value->Shared->Prop}{s:Shared}{t sl:Addr}{items:Array Value}{vl vu:Value}{lo hi:Option Int}{Q:Value->Shared->Prop}(ht:IsTup s.heap t items) (hs:s.heap.IsSliceOf sl vl vu .none) (pl:IsPart vl lo) (pu:IsPart vu hi)
  (h0:HT.sIx items.size 0 lo=0) (h1:HT.sIx items.size items.size hi=items.size) (h:Q (.ref t) s):wpAny (model prog w) A (getItem (.ref t) (.ref sl)) Q E s:=by
 obtain⟨os,hos,hcs,hds⟩:=id hs
 have hTs:s.TypeIs (.ref sl) "slice":=⟨os,hos,hcs⟩
 unfold getItem
 try with_reducible refine wpAny_holding ?_
 first|refine wpAny_bind (wpAny_pure ?_)|skip
 refine wpAny_bind (wpAny_sequenceKey ht.typeIs (by decide) ?_)
 refine wpAny_bind (wpAny_callSpecial?_slot (name:=Str.ofString "__getitem__") ht.typeIs PyProof.Rows.slot_tuple_getitem
  (wpAny_call_entry PyProof.Rows.slot_tuple_getitem ht.typeIs entry_tuple_getitem ?_ (args_tuple_getitem _ _)))
 show wpAny _ _ (Builtin.Tuple.tupleItemsOf (.ref t) >>= _) _ _ s
 refine wpAny_bind (tupleItemsOf_ ht ?_)
 refine wpAny_bind (wpAny_typeOf hTs ?_)
 rw[if_pos (by decide)]
 refine wpAny_bind (HT.sliceApplied_gen hs pl pu ?_)
 show wpAny _ _ (if (((HT.sIx items.size 0 lo:Nat):Int)==0&&(1:Int)==1&&(HT.sIx items.size items.size hi-HT.sIx items.size 0 lo)==items.size)=true then _ else _) _ _ s
 rw[if_pos (by rw[h0,h1];simp)]
 refine wpAny_bind ?_
 unfold Builtin.Tuple.tupleIsExact
 refine wpAny_bind (wpAny_typeOf ht.typeIs ?_)
 refine wpAny_pure ?_
 rw[if_pos (by decide)]
 refine wpAny_bind (wpAny_rule ?_)
 exact wpAny_pure ⟨_,rfl,wpAny_pure h⟩
section
variable {X:Cx}
def rSlW (K:PySem.W.Frag):V->Option Int->Option Int->Hp->VK->Prop:=λx lo hi H Q=>∃a xs,x=.ref a/\SqT K H a xs/\HT.sIx xs.length 0 lo=0/\HT.sIx xs.length xs.length hi=xs.length/\Q (.ref a) H
theorem sl_tupW:SlR X (rSlW X.K):=by
 intro pins s σ H x v vl vu lo hi sl Q I rx hs pl pu h
 obtain⟨a,xs,rfl,hx,h0,h1,q⟩:=h
 cases rx
 obtain⟨its,r,ht,hz⟩:=I.tuple hx
 have hlen:its.toArray.size=xs.length:=by rw[List.size_toArray];exact r.length.symm
 refine⟨"tuple",_,PyProof.Rows.slot_tuple_getitem.lookup,ht.typeIs,?_⟩
 exact getItem_tuple_whole ht hs pl pu (by rw[hlen];exact h0) (by rw[hlen];exact h1) ⟨.ref a,H,I,rfl,q⟩
theorem sl_tup2:SlR X (λx lo hi H Q=>∃a xs,x=.ref a/\H a=some (.tup xs)/\∀p H',H' p=some (.tup (cutV xs lo hi))->(H'=H\/H p=none/\H'=upd H p (.tup (cutV xs lo hi)))->Q (.ref p) H'):=by
 intro pins s σ H x v vl vu lo hi sl Q I rx hs pl pu h
 obtain⟨a,xs,ex,ha,q⟩:=h
 by_cases hc:HT.sIx xs.length 0 lo=0/\HT.sIx xs.length xs.length hi=xs.length
 ·refine sl_tupW pins s σ H x v vl vu lo hi sl Q I rx hs pl pu ⟨a,xs,ex,SqT.of ha,hc.1,hc.2,q a H ?_ (.inl rfl)⟩
  have:cutV xs lo hi=xs:=by unfold cutV;rw[hc.1,hc.2];simp
  rw[this];exact ha
 ·exact sl_tup pins s σ H x v vl vu lo hi sl Q I rx hs pl pu ⟨a,xs,ex,SqT.of ha,hc,λp hp=>q p _ upd_same (.inr ⟨hp,rfl⟩)⟩
theorem op_catT0:OpR X (binaryOp .Add) (λx y H Q=>∃a b ys,x=.ref a/\y=.ref b/\H a=some (.tup [])/\H b=some (.tup ys)/\Q (.ref b) H):=by
 intro pins s σ H x y v u Q I rx ry h
 obtain⟨a,b,ys,rfl,rfl,ha,hb,q⟩:=h
 cases rx
 cases ry
 obtain⟨its,r1,p1,_⟩:=I.tuple (SqT.of ha)
 obtain⟨its2,r2,p2,_⟩:=I.tuple (SqT.of hb)
 cases r1
 obtain⟨⟨cls,dd,data,sl⟩,ho,hc,n,hd⟩:=id p1
 obtain⟨⟨cls2,dd2,data2,sl2⟩,ho2,hc2,n2,hd2⟩:=id p2
 simp only at hc hd hc2 hd2
 subst hc hd hc2 hd2
 exact concat_meets ⟨_,ho,rfl⟩ ⟨_,ho2,rfl⟩ noFill_tuple_add seq_tuple_add PySem.F.slot_tuple_add PySem.F.entry_tuple_add (PySem.F.args_tuple_add_2 _ _)
   (tuple_addW0 a b #[] its2.toArray n n2 dd dd2 sl sl2 rfl) ⟨ho,ho2,⟨.ref b,H,I,rfl,q⟩⟩
theorem op_catT2:OpR X (binaryOp .Add) (λx y H Q=>∃a b xs ys,x=.ref a/\y=.ref b/\H a=some (.tup xs)/\H b=some (.tup ys)/\xs.length+ys.length<=sizeLine /\
  ∀p H',H' p=some (.tup (xs++ys))->(H'=H\/H p=none/\H'=upd H p (.tup (xs++ys)))->Q (.ref p) H'):=by
 intro pins s σ H x y v u Q I rx ry h
 obtain⟨a,b,xs,ys,ex,ey,ha,hb,hz,q⟩:=h
 by_cases hx:xs=[]
 ·subst hx
  exact op_catT0 pins s σ H x y v u Q I rx ry ⟨a,b,ys,ex,ey,ha,hb,q b H hb (.inl rfl)⟩
 ·refine op_catT pins s σ H x y v u Q I rx ry ⟨a,b,xs,ys,ex,ey,SqT.of ha,SqT.of hb,hx,hz,λe=>?_,λ_ p hp=>q p _ upd_same (.inr ⟨hp,rfl⟩)⟩
  subst e
  exact q a H (by rw[List.append_nil];exact ha) (.inl rfl)
end
end L2
namespace Qf
open Tr
theorem canon_top {n top:Nat}{rows:List Row}(c:Canon n top rows) (h:rows≠[]):top=rows.length+1:=by
 have e:=c.ends
 have hl:0<rows.length:=List.length_pos_iff.mpr h
 obtain⟨m,hm⟩:∃m,rows.length=m+1:=⟨rows.length-1,by lia⟩
 rw[hm,List.range_succ] at e
 cases n with
 |zero=>
  have:dfs rows 0 [] top=[]:=rfl
  rw[this] at e
  simp at e
 |succ n=>
  unfold dfs at e
  split at e
  ·simp at e
  ·rename_i hx
   have:=List.append_inj_right' e rfl
   have:top-2=m:=by simpa using this
   have h2:=(not_or.mp hx).1
   lia
def sw (k x:Nat):Nat:=if x=k+2 then k+3 else if x=k+3 then k+2 else x
def turn (k:Nat) (rows:List Row):List Row:=((rows.map (List.map (sw k))).set k ((rows.getD (k+1) []).map (sw k))).set (k+1) ((rows.getD k []).map (sw k))
end Qf
namespace Pr
open PySem L2 Qf Sp
def Bd (H:Hp) (v:V):Prop:=∃d,DatX H v d/\Bnd d/\¬IsSh d
def Sd (H:Hp) (v:V):Prop:=∃d,DatX H v d/\Bnd d/\wholeD 12 d=false
theorem bd_mono (H H':Hp) (v:V) (s:Same H H') (h:Bd H v):Bd H' v:=by
 obtain⟨d,a,b⟩:=h
 exact⟨d,a.same s,b⟩
theorem sd_mono (H H':Hp) (v:V) (s:Same H H') (h:Sd H v):Sd H' v:=by
 obtain⟨d,a,b⟩:=h
 exact⟨d,a.same s,b⟩
theorem bd_of {H:Hp}{v:V}{d:PyData}(h:DatX H v d) (n:∀d0 d1 d2,d≠.tuple [d0,d1,d2]):Bd H v:=
 ⟨d,h,λd0 d1 ds e=>(n _ _ _ e).elim,λ⟨_,_,_,e,_⟩=>n _ _ _ e⟩
theorem bd_tell {H:Hp}{v:V}{n tp:Nat}{rows:List Row}(h:DatX H v (dTell n tp rows)) (hl:rows.length<=900) (nc:¬Canon n tp rows):Bd H v:=by
 refine⟨_,h,λd0 d1 ds e=>?_,λ⟨n',tp',rows',e,c⟩=>?_⟩
 ·unfold dTell at e
  injection e with e
  injection e with _ e
  injection e with _ e
  injection e with e _
  injection e with e
  rw[<- e,List.length_map]
  exact hl
 ·obtain⟨rfl,rfl,rfl⟩:=dTell_inj e
  exact nc c
section
variable {P:Program}{w:World}{K:PySem.W.Frag}{mg:Str->Option Value}{base:Heap}
theorem scOdd:FnScope [] [] (defScope lOdd):=⟨rfl,rfl,rfl,by decide +kernel,rfl,by decide +kernel,by decide +kernel⟩
def spOdd (R:Hp->V->Prop):Sp:=λvs H Q _=>vs=[]/\∀(D:Addr) (xs:List V) H',Same H H'->H' D=some (.lst xs)->xs.length<=20->(∀x∈xs,R H' x)->Q (.ref D) H'
theorem ok_odd {f:Addr}{fd:FuncData}(F:Fun K "_law_odd" "_law_odd" lOdd f fd):FnOk P w K mg base CX0 1 f fd [] (spOdd Bd):=by
 refine F.ok scOdd (λvs H Q E h=>?_) (λcdv A outer s H vs Q E hr h=>?_)
 ·obtain⟨rfl,_⟩:=h
  rfl
 ·obtain⟨rfl,q⟩:=h
  refine lastE ⟨_,ps_retb ⟨@pe_lst _ _ _ _ (@PAs.pa _ _ _ (PAs.cons pe_non (PAs.cons pe_bl (PAs.cons pe_bl (PAs.cons pe_str (PAs.cons pe_str (PAs.cons pe_int (PAs.cons pe_int (PAs.cons (pe_lst (@PAs.pa _ _ _ (PAs.cons pe_int (PAs.cons pe_int (PAs.cons (pe_lst pa_nil) PAs.nil)))))
   (PAs.cons (pe_tup (@PAs.pa _ _ _ (PAs.cons pe_int (PAs.cons pe_int PAs.nil)))) (PAs.cons (pe_tup (@PAs.pa _ _ _ (PAs.cons pe_int (PAs.cons pe_int (PAs.cons (pe_tup pa_nil) (PAs.cons (pe_tup pa_nil) PAs.nil)))))) (PAs.cons pe_dict0
   (PAs.cons (pe_tup (@PAs.pa _ _ _ (PAs.cons pe_int (PAs.cons pe_int (PAs.cons (pe_tup pa_nil) PAs.nil))))) (PAs.cons (pe_tup (@PAs.pa _ _ _ (PAs.cons pe_int (PAs.cons pe_int (PAs.cons (pe_tup pa_nil) PAs.nil))))) PAs.nil))))))))))))))⟩,?_⟩
  refine yl_all (H0:=H) bd_mono (Same.refl _) ?_ _ λvs H1 s1 l1 b1=>⟨by rw[l1];decide,λD hD=>q D vs _ (s1.trans (sameU hD)) upd_same (by rw[l1];decide) λx hx=>bd_mono _ _ _ (sameU hD) (b1 x hx)⟩
  have dec:∀{n tp:Nat},¬Canon n tp []->∀H,Same H H->∀Q:VK,(∀v H',Same H H'->Bd H' v->Q v H')->tTup (tAll [tC (.int (n:Nat)),tC (.int (tp:Nat)),tTup tNil]) (L2.start [] []) H Q:=λ{n tp} nc H _ Q q=>⟨(by show 0<=sizeLine;decide),λa ha=>⟨(by show 3<=sizeLine;decide),λb hb=>q _ _ ((sameU ha).trans (sameU hb)) (bd_tell (n:=n) (tp:=tp) (rows:=[]) (.tup upd_same (.cons (.int _) (.cons (.int _) (.cons (.tup (keepU upd_same hb) .nil) .nil)))) (by decide) nc)⟩⟩
  refine⟨λH s Q q=>q _ _ (Same.refl _) (bd_of .non λ_ _ _ e=>by cases e),λH s Q q=>q _ _ (Same.refl _) (bd_of (.bl _) λ_ _ _ e=>by cases e),λH s Q q=>q _ _ (Same.refl _) (bd_of (.bl _) λ_ _ _ e=>by cases e),λH s Q q=>q _ _ (Same.refl _) (bd_of (.str _) λ_ _ _ e=>by cases e),λH s Q q=>q _ _ (Same.refl _) (bd_of (.str _) λ_ _ _ e=>by cases e),
   λH s Q q=>q _ _ (Same.refl _) (bd_of (.int _) λ_ _ _ e=>by cases e),λH s Q q=>q _ _ (Same.refl _) (bd_of (.int _) λ_ _ _ e=>by cases e),
   λH s Q q=>⟨(by show 0<=sizeLine;decide),λa ha=>⟨(by show 3<=sizeLine;decide),λb hb=>q _ _ ((sameU ha).trans (sameU hb)) (bd_of (.lst upd_same (.cons (.int _) (.cons (.int _) (.cons (.lst (keepU upd_same hb) .nil) .nil)))) λ_ _ _ e=>by cases e)⟩⟩,
   λH s Q q=>⟨(by show 2<=sizeLine;decide),λb hb=>q _ _ (sameU hb) (bd_of (.tup upd_same (.cons (.int _) (.cons (.int _) .nil))) λ_ _ _ e=>by cases e)⟩,
   λH s Q q=>⟨(by show 0<=sizeLine;decide),λa ha=>⟨(by show 0<=sizeLine;decide),λa2 ha2=>⟨(by show 4<=sizeLine;decide),λb hb=>q _ _ ((sameU ha).trans ((sameU ha2).trans (sameU hb))) (bd_of (.tup upd_same (.cons (.int _) (.cons (.int _) (.cons (.tup (keepU (keepU upd_same ha2) hb) .nil) (.cons (.tup (keepU upd_same hb) .nil) .nil))))) λ_ _ _ e=>by cases e)⟩⟩⟩,
   λH s Q q=>λa ha=>q _ _ (sameU ha) (bd_of (.dic upd_same) λ_ _ _ e=>by cases e),
   λH s Q q=>dec (n:=0) (tp:=2) (λc=>absurd c.inn (by decide)) H (Same.refl _) Q q,λH s Q q=>dec (n:=13) (tp:=0) (λc=>absurd c.size (by decide)) H (Same.refl _) Q q,trivial⟩
theorem scOddS:FnScope [] [] (defScope lOddSz):=⟨rfl,rfl,rfl,by decide +kernel,rfl,by decide +kernel,by decide +kernel⟩
theorem ok_oddS {f:Addr}{fd:FuncData}(F:Fun K "_law_odd_sizes" "_law_odd_sizes" lOddSz f fd):FnOk P w K mg base CX0 1 f fd [] (spOdd Sd):=by
 refine F.ok scOddS (λvs H Q E h=>?_) (λcdv A outer s H vs Q E hr h=>?_)
 ·obtain⟨rfl,_⟩:=h
  rfl
 ·obtain⟨rfl,q⟩:=h
  refine lastE ⟨_,ps_retb ⟨@pe_lst _ _ _ _ (@PAs.pa _ _ _ (PAs.cons pe_non (PAs.cons pe_bl (PAs.cons pe_bl (PAs.cons pe_str (PAs.cons (pe_lst (@PAs.pa _ _ _ (PAs.cons pe_int PAs.nil))) (PAs.cons (pe_tup (@PAs.pa _ _ _ (PAs.cons pe_int PAs.nil))) (PAs.cons pe_dict0 (PAs.cons (pe_un un_neg pe_int) (PAs.cons pe_int
   (PAs.cons (pe_un un_neg (pe_op op_pow pe_int pe_int)) (PAs.cons (pe_op op_pow pe_int pe_int) PAs.nil))))))))))))⟩,?_⟩
  refine yl_all (H0:=H) sd_mono (Same.refl _) ?_ _ λvs H1 s1 l1 b1=>⟨by rw[l1];decide,λD hD=>q D vs _ (s1.trans (sameU hD)) upd_same (by rw[l1];decide) λx hx=>sd_mono _ _ _ (sameU hD) (b1 x hx)⟩
  have nb:∀{d:PyData},(∀ds,d≠.tuple ds)->Bnd d:=λh _ _ _ e=>(h _ e).elim
  refine⟨λH s Q q=>q _ _ (Same.refl _) ⟨_,.non,nb (λ_ e=>by cases e),rfl⟩,λH s Q q=>q _ _ (Same.refl _) ⟨_,.bl _,nb (λ_ e=>by cases e),rfl⟩,λH s Q q=>q _ _ (Same.refl _) ⟨_,.bl _,nb (λ_ e=>by cases e),rfl⟩,λH s Q q=>q _ _ (Same.refl _) ⟨_,.str _,nb (λ_ e=>by cases e),rfl⟩,
   λH s Q q=>⟨(by show 1<=sizeLine;decide),λb hb=>q _ _ (sameU hb) ⟨_,.lst upd_same (.cons (.int _) .nil),nb (λ_ e=>by cases e),rfl⟩⟩,
   λH s Q q=>⟨(by show 1<=sizeLine;decide),λb hb=>q _ _ (sameU hb) ⟨_,.tup upd_same (.cons (.int _) .nil),(λ_ _ _ e=>by cases e),rfl⟩⟩,
   λH s Q q=>λa ha=>q _ _ (sameU ha) ⟨_,.dic upd_same,nb (λ_ e=>by cases e),rfl⟩,
   λH s Q q=>⟨_,rfl,q _ _ (Same.refl _) ⟨_,.int _,nb (λ_ e=>by cases e),by decide +kernel⟩⟩,λH s Q q=>q _ _ (Same.refl _) ⟨_,.int _,nb (λ_ e=>by cases e),by decide +kernel⟩,
   λH s Q q=>⟨_,_,rfl,rfl,⟨by decide,by decide,by decide⟩,_,rfl,q _ _ (Same.refl _) ⟨_,.int _,nb (λ_ e=>by cases e),by decide +kernel⟩⟩,λH s Q q=>⟨_,_,rfl,rfl,⟨by decide,by decide,by decide⟩,q _ _ (Same.refl _) ⟨_,.int _,nb (λ_ e=>by cases e),by decide +kernel⟩⟩,trivial⟩
end
end Pr
namespace Qf
theorem nc_app {n tp:Nat}{rows:List Row}{r:Row}(h:Plain r):¬Canon n tp (rows++[r]):=λc=>c.unplain r (by simp) h
theorem nc_long {n tp:Nat}{rows:List Row}{r:Row}(h:r.length≠4):¬Canon n tp (rows++[r]):=λc=>h (c.rok rows.length r (by simp)).1
theorem nc_one {n:Nat}{rows:List Row}(h:rows≠[]):¬Canon n 1 rows:=λc=>by
 have:=canon_top c h
 have:=List.length_pos_iff.mpr h
 lia
theorem nc_less {n tp:Nat}{rows:List Row}(c0:Canon n tp rows) (h:rows≠[]):¬Canon n tp (rows.take (rows.length-1)):=λc=>by
 have:=canon_top c0 h
 have h1:=c.inn
 have:=List.length_pos_iff.mpr h
 rw[List.length_take] at h1
 lia
theorem nc_again {n tp:Nat}{rows:List Row}(h:rows≠[]):¬Canon n tp (rows++rows.take 1):=λc=>by
 have u:=c.unlike
 cases rows with
 |nil=>exact h rfl
 |cons a l=>
  rw[List.nodup_append] at u
  exact u.2.2 a List.mem_cons_self a (by simp) rfl
end Qf
namespace Pr
open PySem L2 Qf Sp
theorem dats_ref {H:Hp}{rp:Addr}{rows:List Row}(h:RowsAt H rp rows):DatX H (.ref rp) (.tuple (rows.map dR)):=by
 obtain⟨bs,h0,h1,h2⟩:=h
 exact .tup h0 (DatsX.of (datas_rows h1 h2))
theorem rows_app {H:Hp}{bs cs:List Addr}{u:Addr}{r s:List Row}(hu:H u=some (.tup (bs.map V.ref++cs.map V.ref))) (l1:bs.length=r.length) (l2:cs.length=s.length) (h1:∀(i:Nat) b x,bs[i]?=some b->r[i]?=some x->H b=some (.tup (vN x))) (h2:∀(i:Nat) b x,cs[i]?=some b->s[i]?=some x->H b=some (.tup (vN x))):RowsAt H u (r++s):=by
 refine⟨bs++cs,by rw[hu,List.map_append],by rw[List.length_append,List.length_append,l1,l2],λi b x e1 e2=>?_⟩
 by_cases hi:i<bs.length
 ·rw[List.getElem?_append_left hi] at e1
  rw[List.getElem?_append_left (by lia)] at e2
  exact h1 i b x e1 e2
 ·rw[List.getElem?_append_right (by lia)] at e1
  rw[List.getElem?_append_right (by lia),<- l1] at e2
  exact h2 _ b x e1 e2
theorem tell_at {H:Hp}{t p:Addr}{n tp:Nat}{rows:List Row}(h:H t=some (.tup [.int (n:Nat),.int (tp:Nat),.ref p])) (hR:RowsAt H p rows):DatX H (.ref t) (dTell n tp rows):=.tup h (.cons (.int _) (.cons (.int _) (.cons (dats_ref hR) .nil)))
theorem bd_three {H:Hp}{v:V}{d0 d1 d2:PyData}(h:DatX H v (.tuple [d0,d1,d2])) (hb:∀ds,d2=.tuple ds->ds.length<=900) (no:∀(n tp:Nat) rows,d0=.int (n:Nat)->d1=.int (tp:Nat)->d2=.tuple (rows.map dR)->¬Canon n tp rows):Bd H v:=by
 refine⟨_,h,λe0 e1 ds e=>?_,λ⟨n,tp,rows,e,c⟩=>?_⟩
 ·injection e with e
  injection e with _ e
  injection e with _ e
  injection e with e _
  exact hb ds e
 ·unfold dTell at e
  injection e with e
  injection e with a e
  injection e with b e
  injection e with e _
  exact no n tp rows a b e c
theorem atI_last {xs:List V}(h:xs≠[]):atI xs (-1)=xs[xs.length-1]?:=by
 have:=List.length_pos_iff.mpr h
 unfold atI ixN
 rw[if_neg (by decide),if_pos (by lia)]
 show xs[((-1:Int)+(xs.length:Int)).toNat]?=_
 congr 1
 lia
theorem dats_app {H:Hp}:∀{xs ys:List V}{a b:List PyData},DatsX H xs a->DatsX H ys b->DatsX H (xs++ys) (a++b)
 |_,_,_,_,.nil,h=>h
 |_,_,_,_,.cons h r,g=>.cons h (dats_app r g)
theorem rows_take {H:Hp}{bs:List Addr}{rows:List Row}(h2:∀(i:Nat) b r,bs[i]?=some b->rows[i]?=some r->H b=some (.tup (vN r))) (k:Nat):∀(i:Nat) b r,(bs.take k)[i]?=some b->(rows.take k)[i]?=some r->H b=some (.tup (vN r)):=λi b r e1 e2=>by
 rw[List.getElem?_take] at e1 e2
 split at e1
 ·rename_i h
  rw[if_pos h] at e2
  exact h2 i b r e1 e2
 ·cases e1
section
variable {P:Program}{w:World}{K:PySem.W.Frag}{mg:Str->Option Value}{base:Heap}
abbrev nNo:List Str:=["_law_shape_here", "_law_n", "_law_top", "_law_rows", "_law_found"]
theorem scNo:FnScope nNo ["_law_shape_here"] (defScope lNoSh):=⟨rfl,rfl,rfl,by decide +kernel,rfl,by decide +kernel,by decide +kernel⟩
def spNo:Sp:=λvs H Q _=>∃(t:Addr) (n tp:Nat) (rows:List Row),vs=[.ref t]/\ShapeAt H t n tp rows/\rows.length<=485/\∀(D:Addr) (xs:List V) H',Same H H'->H' D=some (.lst xs)->xs.length<=20->(∀x∈xs,Bd H' x)->Q (.ref D) H'
theorem ok_no {f:Addr}{fd:FuncData}(F:Fun K "_law_no_shapes" "_law_no_shapes" lNoSh f fd) (B:Blt mg) (C:Blt2 mg):FnOk P w K mg base CX0 1 f fd ["_law_shape_here"] spNo:=by
 refine F.ok scNo (λvs H Q E h=>?_) (λcdv A outer s H vs Q E hr h=>?_)
 ·obtain⟨t,n,tp,rows,rfl,_⟩:=h
  rfl
 ·obtain⟨t,n,tp,rows,rfl,⟨⟨rp,ht,hR⟩,cn,hl9⟩,hl,q⟩:=h
  refine seqE ⟨_,⟨ps_asg (pv 0) (pg_tup rfl (pgs_cons (pg_name (i:=1) scNo.nd rfl (by first|exact Or.inl rfl|exact Or.inr rfl)) (pgs_cons (pg_name (i:=2) scNo.nd rfl (by first|exact Or.inl rfl|exact Or.inr rfl)) (pgs_cons (pg_name (i:=3) scNo.nd rfl (by first|exact Or.inl rfl|exact Or.inr rfl)) pgs_nil))))⟩,?_⟩
  refine seqE ⟨_,ps_setb (i:=4) scNo.nd rfl (by first|exact Or.inl rfl|exact Or.inr rfl) ⟨@pe_lst _ _ _ _ (@PAs.pa _ _ _ (PAs.cons (pe_lst (@PAs.pa _ _ _ (PAs.cons (pv 1) (PAs.cons (pv 2) (PAs.cons (pv 3) PAs.nil))))) (PAs.cons (pe_tup (@PAs.pa _ _ _ (PAs.cons (pv 1) (PAs.cons (pv 2) (PAs.cons (pe_callTy call_list_of (by rfl) B.list PyProof.Rows.boot_list (pa_cons (pv 3) pa_nil)) PAs.nil)))))
   (PAs.cons (pe_tup (@PAs.pa _ _ _ (PAs.cons (pe_callTy call_str_int (by rfl) C.str PyProof.Rows.boot_str (pa_cons (pv 1) pa_nil)) (PAs.cons (pv 2) (PAs.cons (pv 3) PAs.nil))))) (PAs.cons (pe_tup (@PAs.pa _ _ _ (PAs.cons (pv 1) (PAs.cons pe_non (PAs.cons (pv 3) PAs.nil))))) PAs.nil)))))⟩ rfl rfl,?_⟩
  refine seqE ⟨_,ps_setb (i:=4) scNo.nd rfl (by first|exact Or.inl rfl|exact Or.inr rfl) ⟨pe_op op_cat (pv 4) (PEb.go ⟨@pe_lst _ _ _ _ (@PAs.pa _ _ _ (PAs.cons (pe_tup (@PAs.pa _ _ _ (PAs.cons (pv 1) (PAs.cons (pv 2) (PAs.cons (pe_op op_catT2 (pv 3) (pe_tup (@PAs.pa _ _ _ (PAs.cons (PEb.go four_ints) PAs.nil)))) PAs.nil)))))
   (PAs.cons (pe_tup (@PAs.pa _ _ _ (PAs.cons (pv 1) (PAs.cons (pv 2) (PAs.cons (pe_op op_catT2 (pv 3) (pe_tup (@PAs.pa _ _ _ (PAs.cons (pe_tup (@PAs.pa _ _ _ (PAs.cons pe_int (PAs.cons pe_int (PAs.cons pe_int (PAs.cons pe_int (PAs.cons pe_int PAs.nil))))))) PAs.nil)))) PAs.nil)))))
   (PAs.cons (pe_tup (@PAs.pa _ _ _ (PAs.cons (pv 1) (PAs.cons (pe_op op_add (pe_callB call_len_seq (by rfl) B.len PySem.boot_len (pa_cons (pv 3) pa_nil)) pe_int) (PAs.cons (pv 3) PAs.nil))))) PAs.nil))))⟩)⟩ rfl rfl,?_⟩
  refine seqE ⟨_,⟨ps_expr (PEb.go (pe_bmb PySem.F.plainAttrs_list PySem.F.slot_list_append PySem.F.type_list_append mt_append ⟨pv 4⟩ (.cons ⟨pe_tup (@PAs.pa _ _ _ (PAs.cons (pv 1) (PAs.cons (pv 2) (PAs.cons (pe_op op_catT2 (pe_tup (@PAs.pa _ _ _ (PAs.cons (PEb.go four_ints) PAs.nil))) (pv 3)) PAs.nil))))⟩ .nil rfl)))⟩,?_⟩
  refine seqEI ⟨_,⟨ps_if (pt_cmpR (op_neD hr) (pv 3) (pe_tup pa_nil) (nomark _)) (StB.go (.cons (ps_setb (i:=4) scNo.nd rfl (by first|exact Or.inl rfl|exact Or.inr rfl) ⟨pe_op op_cat (pv 4) (PEb.go ⟨@pe_lst _ _ _ _ (@PAs.pa _ _ _ (PAs.cons (pe_tup (@PAs.pa _ _ _ (PAs.cons (pv 1) (PAs.cons (pv 2) (PAs.cons (pe_op op_catT2 (pv 3) (pe_slice sl_tup2 (pv 3) po_none (po_some pe_int))) PAs.nil)))))
   (PAs.cons (pe_tup (@PAs.pa _ _ _ (PAs.cons (pv 1) (PAs.cons pe_int (PAs.cons (pv 3) PAs.nil))))) (PAs.cons (pe_tup (@PAs.pa _ _ _ (PAs.cons (pv 1) (PAs.cons (pv 2) (PAs.cons (pe_slice sl_tup2 (pv 3) po_none (po_some (pe_un un_neg pe_int))) PAs.nil))))) PAs.nil))))⟩)⟩ rfl rfl)
   (.one ⟨ps_expr (PEb.go (pe_bmb PySem.F.plainAttrs_list PySem.F.slot_list_append PySem.F.type_list_append mt_append ⟨pv 4⟩ (.cons ⟨pe_tup (@PAs.pa _ _ _ (PAs.cons (pv 1) (PAs.cons (pv 2) (PAs.cons (pe_op op_catT2 (pe_slice sl_tup2 (pv 3) po_none (po_some (pe_un un_neg pe_int))) (pe_tup (@PAs.pa _ _ _ (PAs.cons (pe_callTy call_list_of (by rfl) B.list PyProof.Rows.boot_list (pa_cons (pe_ix ix_tup (pv 3) (pe_un un_neg pe_int) (λ_ _=>rfl)) pa_nil)) PAs.nil)))) PAs.nil))))⟩ .nil rfl)))⟩))) pss_nil⟩,?_⟩
  refine lastE ⟨_,⟨ps_ret (pv 4)⟩,?_⟩
  obtain⟨bs,h0,h1,h2⟩:=id hR
  have hn:=cn.size
  have htp:=cn.inn
  have lb:(bs.map V.ref).length=rows.length:=by rw[List.length_map];exact h1
  have sm:∀{k:Nat},k<=900->k<=sizeLine:=λ{k} h=>Nat.le_of_lt (small1000 (by lia))
  have len9:∀ds,PyData.tuple (rows.map dR)=.tuple ds->ds.length<=900:=λds e=>by
   injection e with e
   rw[<- e,List.length_map]
   exact hl9
  have row1:∀{H':Hp}{c:Addr}{r:Row},H' c=some (.tup (vN r))->∀(i:Nat) b x,[c][i]?=some b->[r][i]?=some x->H' b=some (.tup (vN x)):=λ{H' c r} hc i b x e1 e2=>by
   match i with
   |0=>cases e1;cases e2;exact hc
   |i+1=>simp at e1
  refine⟨_,rfl,t,_,rfl,SqT.of ht,rfl,_,_,rfl,_,_,rfl,_,_,rfl,rfl,?_⟩
  refine yl_all (H0:=H) bd_mono (Same.refl _) ?_ _ λv4 H1 s1 l1 b1=>⟨by rw[l1];show 4<=sizeLine;decide,λD1 hD1=>?_⟩
  ·refine⟨λH1 s1 Q q=>⟨_,rfl,_,rfl,_,rfl,(by show 3<=sizeLine;decide),λb hb=>q _ _ (sameU hb) (bd_of (.lst upd_same (.cons (.int _) (.cons (.int _) (.cons (dats_ref (hR.same (s1.trans (sameU hb)))) .nil)))) λ_ _ _ e=>by cases e)⟩,
    λH1 s1 Q q=>⟨_,rfl,_,rfl,_,rfl,rp,_,rfl,.inr (SqT.of (s1 _ _ h0)),λl hl=>⟨(by show 3<=sizeLine;decide),λb hb=>q _ _ ((sameU hl).trans (sameU hb)) (bd_three (.tup upd_same (.cons (.int _) (.cons (.int _) (.cons (.lst (keepU upd_same hb) (DatsX.of (datas_rows h1 λi b' x e1 e2=>keepU (keepU (s1 _ _ (h2 i b' x e1 e2)) hl) hb))) .nil)))) (λds e=>by cases e) λ_ _ _ _ _ e=>by cases e)⟩⟩,
    λH1 s1 Q q=>⟨_,rfl,_,rfl,int_able (by lia),_,rfl,_,rfl,(by show 3<=sizeLine;decide),λb hb=>q _ _ (sameU hb) (bd_three (.tup upd_same (.cons (.str _) (.cons (.int _) (.cons (dats_ref (hR.same (s1.trans (sameU hb)))) .nil)))) len9 λ_ _ _ e=>by cases e)⟩,
    λH1 s1 Q q=>⟨_,rfl,_,rfl,(by show 3<=sizeLine;decide),λb hb=>q _ _ (sameU hb) (bd_three (.tup upd_same (.cons (.int _) (.cons .non (.cons (dats_ref (hR.same (s1.trans (sameU hb)))) .nil)))) len9 λ_ _ _ _ e=>by cases e)⟩,trivial⟩
  have S1:=s1.trans (sameU (o:=.lst v4) hD1)
  have E1:upd H1 D1 (.lst v4) D1=some (.lst v4):=upd_same
  have B1:∀x∈v4,Bd (upd H1 D1 (.lst v4)) x:=λx hx=>bd_mono _ _ _ (sameU hD1) (b1 x hx)
  generalize upd H1 D1 (.lst v4)=H2 at S1 E1 B1 ⊢
  clear b1
  refine⟨_,rfl,yl_all (H0:=H2) bd_mono (Same.refl _) ?_ _ λv3 H3 s3 l3 b3=>⟨by rw[l3];show 3<=sizeLine;decide,λD2 hD2=>?_⟩⟩
  ·refine⟨λH5 s5 Q q=>⟨_,rfl,_,rfl,_,rfl,(by show 4<=sizeLine;decide),λc hc=>⟨(by show 1<=sizeLine;decide),λd hd=>⟨rp,d,_,_,rfl,rfl,keepU (keepU ((S1.trans s5) _ _ h0) hc) hd,upd_same,sm (by rw[lb];show _+1<=900;lia),λu H6 hu o=>⟨(by show 3<=sizeLine;decide),λb hb=>?_⟩⟩⟩⟩,
    λH5 s5 Q q=>⟨_,rfl,_,rfl,_,rfl,(by show 5<=sizeLine;decide),λc hc=>⟨(by show 1<=sizeLine;decide),λd hd=>⟨rp,d,_,_,rfl,rfl,keepU (keepU ((S1.trans s5) _ _ h0) hc) hd,upd_same,sm (by rw[lb];show _+1<=900;lia),λu H6 hu o=>⟨(by show 3<=sizeLine;decide),λb hb=>?_⟩⟩⟩⟩,
    λH5 s5 Q q=>⟨_,rfl,_,rfl,rp,_,rfl,.inr (SqT.of ((S1.trans s5) _ _ h0)),_,_,rfl,rfl,_,rfl,(by show 3<=sizeLine;decide),λb hb=>q _ _ (sameU hb) (bd_three (.tup upd_same (.cons (.int _) (.cons (.int _) (.cons (dats_ref (hR.same ((S1.trans s5).trans (sameU hb)))) .nil)))) len9 λn' tp' rows' _ e1 e2 c=>?_)⟩,trivial⟩
   ·have S6:=same_or o
    refine q _ _ ((sameU hc).trans ((sameU hd).trans (S6.trans (sameU hb)))) (bd_tell (n:=n) (tp:=tp) (rows:=rows++[[1,1,1,1]]) (tell_at upd_same (rows_app (cs:=[c]) (keepU hu hb) h1 rfl (λi b' x e1 e2=>keepU (S6 _ _ (keepU (keepU ((S1.trans s5) _ _ (h2 i b' x e1 e2)) hc) hd)) hb) (row1 (r:=[1,1,1,1]) (keepU (S6 _ _ (keepU upd_same hd)) hb)))) (by rw[List.length_append];show _+1<=900;lia) (nc_app (.inr rfl)))
   ·have S6:=same_or o
    refine q _ _ ((sameU hc).trans ((sameU hd).trans (S6.trans (sameU hb)))) (bd_tell (n:=n) (tp:=tp) (rows:=rows++[[0,1,1,0,0]]) (tell_at upd_same (rows_app (cs:=[c]) (keepU hu hb) h1 rfl (λi b' x e1 e2=>keepU (S6 _ _ (keepU (keepU ((S1.trans s5) _ _ (h2 i b' x e1 e2)) hc) hd)) hb) (row1 (r:=[0,1,1,0,0]) (keepU (S6 _ _ (keepU upd_same hd)) hb)))) (by rw[List.length_append];show _+1<=900;lia) (nc_long (by decide)))
   ·injection e1 with e1
    injection e2 with e2
    have er:rows'=rows:=((List.map_inj_right (λ_ _ z=>dR_inj z)).mp e2).symm
    subst er
    have:=c.inn
    rw[lb] at e1
    lia
  have S3:=s3.trans (sameU (o:=.lst v3) hD2)
  refine⟨D1,D2,v4,v3,rfl,rfl,S3 _ _ E1,upd_same,(by rw[l1,l3];show 4+3<=sizeLine;decide),λD3 hD3=>?_⟩
  have S4:=S1.trans S3
  have B4:∀x∈v4++v3,Bd (upd H3 D2 (.lst v3)) x:=λx hx=>(List.mem_append.mp hx).elim (λh=>bd_mono _ _ _ S3 (B1 x h)) λh=>bd_mono _ _ _ (sameU hD2) (b3 x h)
  have l7:(v4++v3).length=7:=by rw[List.length_append,l1,l3];rfl
  generalize upd H3 D2 (.lst v3)=H4 at S4 B4 hD3 ⊢
  generalize v4++v3=x7 at B4 l7 ⊢
  clear S3 hD2 b3 l3 s3 B1 E1 S1 hD1 l1 s1
  have U3:=sameU (o:=.lst x7) hD3
  have E5:upd H4 D3 (.lst x7) D3=some (.lst x7):=upd_same
  generalize upd H4 D3 (.lst x7)=H5 at U3 E5 ⊢
  have S5:=S4.trans U3
  refine⟨_,rfl,.inl ⟨rfl,_,SqL.of E5⟩,_,rfl,_,rfl,(by show 4<=sizeLine;decide),λc hc=>⟨(by show 1<=sizeLine;decide),λd hd=>⟨_,rfl,d,rp,_,_,rfl,rfl,upd_same,keepU (keepU (S5 _ _ h0) hc) hd,sm (by rw[lb];show 1+_<=900;lia),λu H6 hu o=>⟨(by show 3<=sizeLine;decide),λb hb=>?_⟩⟩⟩⟩
  have S6:=(sameU (o:=.tup [V.int 0,V.int 0,V.int 0,V.int 0]) hc).trans ((sameU (o:=.tup [V.ref c]) hd).trans (same_or o))
  have S7:=S6.trans (sameU (o:=.tup [V.int (n:Nat),V.int (tp:Nat),V.ref u]) hb)
  refine⟨D3,x7,_,rfl,rfl,S7 _ _ E5,(by rw[l7];decide),?_⟩
  have T8:Tups (upd H6 b (.tup [V.int (n:Nat),V.int (tp:Nat),V.ref u])) (upd (upd H6 b (.tup [V.int (n:Nat),V.int (tp:Nat),V.ref u])) D3 (.lst (x7++[.ref b]))):=λa xs e=>by
   rw[upd_ne (λz=>by rw[z,S7 _ _ E5] at e;cases e)];exact e
  have S8:Same H4 (upd (upd H6 b (.tup [V.int (n:Nat),V.int (tp:Nat),V.ref u])) D3 (.lst (x7++[.ref b]))):=sameW (U3.trans S7) hD3
  have E8:upd (upd H6 b (.tup [V.int (n:Nat),V.int (tp:Nat),V.ref u])) D3 (.lst (x7++[.ref b])) D3=some (.lst (x7++[.ref b])):=upd_same
  have B8:∀x∈x7++[.ref b],Bd (upd (upd H6 b (.tup [V.int (n:Nat),V.int (tp:Nat),V.ref u])) D3 (.lst (x7++[.ref b]))) x:=λx hx=>by
   rcases List.mem_append.mp hx with h|h
   ·exact bd_mono _ _ _ S8 (B4 x h)
   ·have:x=.ref b:=by simpa using h
    subst this
    refine bd_tell (n:=n) (tp:=tp) (rows:=[[0,0,0,0]]++rows) (tell_at (T8 _ _ upd_same) (rows_app (bs:=[c]) (cs:=bs) (T8 _ _ (keepU hu hb)) rfl h1 (row1 (r:=[0,0,0,0]) (T8 _ _ (keepU (same_or o _ _ (keepU upd_same hd)) hb))) (λi b' x e1 e2=>S8 _ _ (S4 _ _ (h2 i b' x e1 e2))))) (by rw[List.length_append];show 1+_<=900;lia) (λc=>c.unplain [0,0,0,0] (by simp) (.inl rfl))
  have S9:=S4.trans S8
  have l8:(x7++[V.ref b]).length=8:=by rw[List.length_append,l7];rfl
  generalize upd (upd H6 b (.tup [V.int (n:Nat),V.int (tp:Nat),V.ref u])) D3 (.lst (x7++[.ref b]))=H9 at S9 E8 B8 ⊢
  generalize x7++[V.ref b]=x8 at E8 B8 l8 ⊢
  clear S8 T8 S7 S6 hb o hu hd hc S5 E5 U3 hD3 B4 S4 l7
  refine⟨λσ' H'=>∃D xs,σ'=[some (.ref t),some (.int (n:Nat)),some (.int (tp:Nat)),some (.ref rp),some (.ref D)]/\Same H H'/\H' D=some (.lst xs)/\xs.length<=20/\∀x∈xs,Bd H' x,?_,?_⟩
  ·refine⟨_,rfl,(by show 0<=sizeLine;decide),λe he=>?_⟩
   have Se:=sameU (o:=.tup []) he
   refine⟨.tuple (rows.map dR),.tuple [],.tup (Se _ _ (S9 _ _ h0)) (datas_rows h1 λi b x e1 e2=>Se _ _ (S9 _ _ (h2 i b x e1 e2))),.tup upd_same .nil,rows_lay rows,rfl,?_,_,rfl,?_⟩
   ·have:PyData.depthAll (rows.map dR)<=1:=rows_depth rows
    show PyData.depthAll _+1<=60
    lia
   have een:PyData.eqv (.tuple (rows.map dR)) (.tuple [])=rows.isEmpty:=by
    cases rows with
    |nil=>rfl
    |cons a l=>simp[PyData.eqv,PyData.eqvAll]
   rw[een]
   refine ite2 (λhc=>?_) (λhc=>⟨D3,x8,rfl,S9.trans Se,Se _ _ E8,by lia,λx hx=>bd_mono _ _ _ Se (B8 x hx)⟩)
   have ne:rows≠[]:=λz=>by rw[z] at hc;simp at hc
   have hpos:=List.length_pos_iff.mpr ne
   have S9:=S9.trans Se
   have E8:=Se _ _ E8
   have B8:∀x∈x8,Bd _ x:=λx hx=>bd_mono _ _ _ Se (B8 x hx)
   generalize upd H9 e (.tup [])=H2 at S9 E8 B8 ⊢
   clear he
   have tk:∀k,(bs.map V.ref).take k=(bs.take k).map V.ref:=λk=>by rw[List.map_take]
   refine⟨_,rfl,yl_all (H0:=H2) bd_mono (Same.refl _) ?_ _ λv3 H3 s3 l3 b3=>⟨by rw[l3];show 3<=sizeLine;decide,λD2 hD2=>?_⟩⟩
   ·refine⟨λH5 s5 Q q=>⟨_,rfl,_,rfl,_,rfl,_,rfl,_,rfl,rp,_,rfl,(S9.trans s5) _ _ h0,λu H6 hu o=>?_⟩,
     λH5 s5 Q q=>⟨_,rfl,_,rfl,(by show 3<=sizeLine;decide),λb hb=>q _ _ (sameU hb) (bd_tell (n:=n) (tp:=1) (tell_at upd_same (hR.same ((S9.trans s5).trans (sameU hb)))) hl9 (nc_one ne))⟩,
     λH5 s5 Q q=>⟨_,rfl,_,rfl,_,rfl,_,rfl,_,rfl,rp,_,rfl,(S9.trans s5) _ _ h0,λu H6 hu o=>?_⟩,trivial⟩
    ·rw[show (1:Int)=((1:Nat):Int) from rfl,cut_to (by lia),tk] at hu
     have S6:=same_or o
     refine⟨rp,u,_,_,rfl,rfl,S6 _ _ ((S9.trans s5) _ _ h0),hu,sm (by rw[lb,List.length_map,List.length_take];lia),λu2 H7 hu2 o2=>⟨(by show 3<=sizeLine;decide),λb hb=>?_⟩⟩
     have S7:=S6.trans (same_or o2)
     have up:∀(i:Nat) b' x,bs[i]?=some b'->rows[i]?=some x->upd H7 b (.tup [V.int (n:Nat),V.int (tp:Nat),V.ref u2]) b'=some (.tup (vN x)):=λi b' x e1 e2=>keepU (S7 _ _ ((S9.trans s5) _ _ (h2 i b' x e1 e2))) hb
     exact q _ _ (S7.trans (sameU hb)) (bd_tell (n:=n) (tp:=tp) (rows:=rows++rows.take 1) (tell_at upd_same (rows_app (keepU hu2 hb) h1 (by rw[List.length_take,List.length_take,h1]) up (rows_take up 1))) (by rw[List.length_append,List.length_take];lia) (nc_again ne))
    ·rw[cut_last,tk,lb] at hu
     have S6:=same_or o
     refine⟨(by show 3<=sizeLine;decide),λb hb=>?_⟩
     have up:∀(i:Nat) b' x,bs[i]?=some b'->rows[i]?=some x->upd H6 b (.tup [V.int (n:Nat),V.int (tp:Nat),V.ref u]) b'=some (.tup (vN x)):=λi b' x e1 e2=>keepU (S6 _ _ ((S9.trans s5) _ _ (h2 i b' x e1 e2))) hb
     exact q _ _ (S6.trans (sameU hb)) (bd_tell (n:=n) (tp:=tp) (rows:=rows.take (rows.length-1)) (tell_at upd_same ⟨bs.take (rows.length-1),keepU hu hb,by rw[List.length_take,List.length_take,h1],rows_take up _⟩) (by rw[List.length_take];lia) (nc_less cn ne))
   have S3:=s3.trans (sameU (o:=.lst v3) hD2)
   refine⟨D3,D2,x8,v3,rfl,rfl,S3 _ _ E8,upd_same,(by rw[l8,l3];show 8+3<=sizeLine;decide),λD4 hD4=>?_⟩
   have S4:=S9.trans S3
   have B4:∀x∈x8++v3,Bd (upd H3 D2 (.lst v3)) x:=λx hx=>(List.mem_append.mp hx).elim (λh=>bd_mono _ _ _ S3 (B8 x h)) λh=>bd_mono _ _ _ (sameU hD2) (b3 x h)
   have l11:(x8++v3).length=11:=by rw[List.length_append,l8,l3];rfl
   generalize upd H3 D2 (.lst v3)=H4 at S4 B4 hD4 ⊢
   generalize x8++v3=x11 at B4 l11 ⊢
   clear S3 hD2 b3 l3 s3 B8 E8 S9
   have U3:=sameU (o:=.lst x11) hD4
   have E5:upd H4 D4 (.lst x11) D4=some (.lst x11):=upd_same
   generalize upd H4 D4 (.lst x11)=H5 at U3 E5 ⊢
   have S5:=S4.trans U3
   have hbn:bs.map V.ref≠[]:=λz=>by rw[z] at lb;simp at lb;lia
   have hb1:bs[bs.length-1]?=some (bs[bs.length-1]'(by lia)):=List.getElem?_eq_getElem (by lia)
   have hr1:rows[bs.length-1]?=some (rows[bs.length-1]'(by lia)):=List.getElem?_eq_getElem (by lia)
   have hlast:=h2 _ _ _ hb1 hr1
   generalize bs[bs.length-1]'(by lia)=la at hb1 hlast
   generalize rows[bs.length-1]'(by lia)=lr at hr1 hlast
   refine⟨_,rfl,.inl ⟨rfl,_,SqL.of E5⟩,_,rfl,_,rfl,_,rfl,_,rfl,_,rfl,rp,_,rfl,S5 _ _ h0,λu H6 hu o=>?_⟩
   have S6:=same_or o
   rw[cut_last,tk,lb] at hu
   refine⟨_,rfl,_,rfl,rp,_,-1,.ref la,rfl,rfl,SqT.of (S6 _ _ (S5 _ _ h0)),?_,la,_,rfl,.inr (SqT.of (S6 _ _ (S5 _ _ hlast))),λl hl=>⟨(by show 1<=sizeLine;decide),λd hd=>⟨u,d,_,_,rfl,rfl,keepU (keepU hu hl) hd,upd_same,sm (by rw[List.length_map,List.length_take];show _+1<=900;lia),λu2 H7 hu2 o2=>⟨(by show 3<=sizeLine;decide),λb hb=>?_⟩⟩⟩⟩
   ·rw[atI_last hbn,List.length_map,List.getElem?_map,hb1];rfl
   have S7:=(sameU (o:=.lst (vN lr)) hl).trans ((sameU (o:=.tup [V.ref l]) hd).trans ((same_or o2).trans (sameU (o:=.tup [V.int (n:Nat),V.int (tp:Nat),V.ref u2]) hb)))
   have L7:=((sameU (o:=.tup [V.ref l]) hd).trans ((same_or o2).trans (sameU (o:=.tup [V.int (n:Nat),V.int (tp:Nat),V.ref u2]) hb))) _ _ (upd_same (H:=H6) (a:=l) (o:=.lst (vN lr)))
   have S67:=S6.trans S7
   have E7:=S67 _ _ E5
   refine⟨D4,x11,_,rfl,rfl,E7,(by rw[l11];decide),?_⟩
   have nl:l≠D4:=λz=>by rw[z,S6 _ _ E5] at hl;cases hl
   have ub:=upd_same (H:=H7) (a:=b) (o:=.tup [V.int (n:Nat),V.int (tp:Nat),V.ref u2])
   have hu2:=keepU (u:=.tup [V.int (n:Nat),V.int (tp:Nat),V.ref u2]) hu2 hb
   generalize upd H7 b (.tup [V.int (n:Nat),V.int (tp:Nat),V.ref u2])=H8 at S7 L7 S67 E7 ub hu2 ⊢
   have T8:Tups H8 (upd H8 D4 (.lst (x11++[.ref b]))):=λa xs e=>by
    rw[upd_ne (λz=>by rw[z,E7] at e;cases e)];exact e
   have S8:Same H4 (upd H8 D4 (.lst (x11++[.ref b]))):=sameW (U3.trans S67) hD4
   have L8:upd H8 D4 (.lst (x11++[.ref b])) l=some (.lst (vN lr)):=by rw[upd_ne nl];exact L7
   refine⟨D4,x11++[.ref b],rfl,S4.trans S8,upd_same,by rw[List.length_append,l11];show 11+1<=20;decide,λx hx=>?_⟩
   rcases List.mem_append.mp hx with h|h
   ·exact bd_mono _ _ _ S8 (B4 x h)
   ·have:x=.ref b:=by simpa using h
    subst this
    have up:∀(i:Nat) b' x,bs[i]?=some b'->rows[i]?=some x->upd H8 D4 (.lst (x11++[.ref b])) b'=some (.tup (vN x)):=λi b' x e1 e2=>S8 _ _ (S4 _ _ (h2 i b' x e1 e2))
    refine bd_three (.tup (T8 _ _ ub) (.cons (.int _) (.cons (.int _) (.cons (.tup (T8 _ _ hu2) (dats_app (DatsX.of (datas_rows (by rw[List.length_take,List.length_take,h1]) (rows_take up (rows.length-1)))) (.cons (.lst L8 (DatsX.of (datas_vN lr))) .nil))) .nil)))) (λds e=>?_) λn' tp' rows' _ _ e=>?_
    ·injection e with e
     rw[<- e,List.length_append,List.length_map,List.length_take]
     show _+1<=900
     lia
    ·injection e with e
     exfalso
     have hm:PyData.list ((lr.map λx:Nat=>(x:Int)).map PyData.int)∈rows'.map dR:=by
      rw[<- e]
      simp
     obtain⟨r,_,e⟩:=List.mem_map.mp hm
     cases e
  ·rintro σ' H' ⟨D,xs,rfl,s',hD,hl',hb⟩
   exact⟨_,rfl,q D xs H' s' hD hl' hb⟩
end
end Pr
namespace Pr
open PySem L2 Qf Sp
section
variable {P:Program}{w:World}{K:PySem.W.Frag}{mg:Str->Option Value}{base:Heap}
abbrev nLaw:List Str:=["_law_script", "_law_thing", "_law_k", "_law_pot_here", "_law_n", "_law_shape_here"]
abbrev nLawH:List Str:=["_law_script", ".h", "_law_k", "_law_pot_here", "_law_n", "_law_shape_here"]
theorem nd_lawH:nLawH.Nodup:=by decide +kernel
theorem scLaw:FnScope nLaw ["_law_script"] (defScope lLaw):=⟨rfl,rfl,rfl,by decide +kernel,rfl,by decide +kernel,by decide +kernel⟩
def spLaw (K:PySem.W.Frag):Sp:=λvs H Q _=>∃(a:Addr) (ns:List Int),vs=[.ref a]/\SqL K H a (ns.map V.int)/\ns.length<=63/\∀H',Q (.bl true) H'
theorem ok_law {f fP fD fX fS fM fO fZ fN fA:Addr}{fd fdP fdD fdX fdS fdM fdO fdZ fdN fdA:FuncData}(F:Fun K "law" "law" lLaw f fd) (B:Blt mg) (C:Blt2 mg)
  (hP:mg "_law_pot" = some (.ref fP)) (FP:Fun K "_law_pot" "_law_pot" lPot fP fdP) (bP:Binds K fdP ["_law_script", "_law_k"] [])
  (hD:mg "_law_digit" = some (.ref fD)) (FD:Fun K "_law_digit" "_law_digit" lDigit fD fdD) (bD:Binds K fdD ["_law_pot_here", "_law_many"] [])
  (hX:mg "_law_boxes" = some (.ref fX)) (FX:Fun K "_law_boxes" "_law_boxes" lBoxes fX fdX) (bX:Binds K fdX ["_law_pot_here", "_law_n"] []) (GX:FnOk P w K mg base CX0 3 fX fdX ["_law_pot_here", "_law_n"] spBoxes)
  (hS:mg "_law_shape" = some (.ref fS)) (FS:Fun K "_law_shape" "_law_shape" lShape fS fdS) (bS:Binds K fdS ["_law_n", "_law_boxes_here"] []) (GS:FnOk P w K mg base CX0 15 fS fdS ["_law_n", "_law_boxes_here"] spBSh)
  (hM:mg "_law_made" = some (.ref fM)) (FM:Fun K "_law_made" "_law_made" lMade fM fdM) (bM:Binds K fdM [] []) (GM:FnOk P w K mg base CX0 2 fM fdM [] spMade)
  (hO:mg "_law_odd" = some (.ref fO)) (FO:Fun K "_law_odd" "_law_odd" lOdd fO fdO) (bO:Binds K fdO [] [])
  (hZ:mg "_law_odd_sizes" = some (.ref fZ)) (FZ:Fun K "_law_odd_sizes" "_law_odd_sizes" lOddSz fZ fdZ) (bZ:Binds K fdZ [] [])
  (hN:mg "_law_no_shapes" = some (.ref fN)) (FN:Fun K "_law_no_shapes" "_law_no_shapes" lNoSh fN fdN) (bN:Binds K fdN ["_law_shape_here"] [])
  (hA:mg "_law_asked" = some (.ref fA)) (FA:Fun K "_law_asked" "_law_asked" lAsked fA fdA) (bA:Binds K fdA ["_law_word", "_law_thing"] []) (GA:FnOk P w K mg base CX0 18 fA fdA ["_law_word", "_law_thing"] spAsk) :
  FnOk P w K mg base CX0 19 f fd ["_law_script"] (spLaw K):=by
 have GP:FnOk P w K mg base CX0 1 fP fdP ["_law_script", "_law_k"] (spPot K):=ok_pot FP B C
 have GD:FnOk P w K mg base CX0 1 fD fdD ["_law_pot_here", "_law_many"] spDigit:=ok_digit FD
 have GO:FnOk P w K mg base CX0 1 fO fdO [] (spOdd Bd):=ok_odd FO
 have GZ:FnOk P w K mg base CX0 1 fZ fdZ [] (spOdd Sd):=ok_oddS FZ
 have GN:FnOk P w K mg base CX0 1 fN fdN ["_law_shape_here"] spNo:=ok_no FN B C
 refine F.ok scLaw (λvs H Q E h=>?_) (λcdv A outer s H vs Q E hr h=>?_)
 ·obtain⟨a,ns,rfl,_⟩:=h
  rfl
 ·obtain⟨a,ns,rfl,hSq,hlen,q⟩:=h
  have hr1:Room 1 _:=hr.mono (by decide)
  have hr2:Room 2 _:=hr.mono (by decide)
  have hr3:Room 3 _:=hr.mono (by decide)
  have hr15:Room 15 _:=hr.mono (by decide)
  have hr18:Room 18 _:=hr.mono (by decide)
  refine seqE ⟨_,⟨ps_if (PW.pt (pw_or (pt_not (pt_val (PEb.go ⟨pe_call0 GM hr2 (by rfl) hM FM.kp bM .nil pass0⟩)))
   (pw_or1 (pt_cmpR (op_neD hr) (PEb.go ⟨pe_hide 1 ".h" (PEb.go ⟨pe_compIf nLawH (defScope lLaw) rfl rfl rfl nd_lawH (piL K rfl (PEb.go ⟨pe_call0 GO hr1 (by rfl) hO FO.kp bO .nil pass0⟩)) (λcl C' fp s₀ H₀=>pt_cmpR (op_neD hr) (PEb.go ⟨pe_call GA hr18 (by rfl) hA FA.kp bA .nil pass0 (pa_cons pe_str (pa_cons (pv 0) pa_nil))⟩) (PEb.go ⟨pe_lst (Ars2.go (.cons pe_intb (.cons pe_intb (.cons pe_intb .nil rfl) rfl) rfl))⟩) (nomark _)) (λcl C' fp s₀ H₀=>pv 0)⟩)⟩) (pe_lst pa_nil) (nomark _))))) pss_never pss_nil⟩,?_⟩
  refine seqE ⟨_,⟨ps_for PassesOwn.never rfl (piL K rfl (PEb.go ⟨pe_call0 GZ hr1 (by rfl) hZ FZ.kp bZ .nil pass0⟩)) (pg_name (i:=1) scLaw.nd rfl (by first|exact Or.inl rfl|exact Or.inr rfl)) (StB.go (.one ⟨ps_if (PW.pt (pw_or (pt_cmpR (op_neD hr) (PEb.go ⟨pe_call GA hr18 (by rfl) hA FA.kp bA .nil pass0 (pa_cons pe_str (pa_cons (pv 1) pa_nil))⟩) (PEb.go ⟨pe_lst (Ars2.go (.cons pe_intb (.cons pe_intb (.cons pe_intb .nil rfl) rfl) rfl))⟩) (nomark _))
   (pw_or1 (pt_cmpR (op_neD hr) (PEb.go ⟨pe_call GA hr18 (by rfl) hA FA.kp bA .nil pass0 (pa_cons pe_str (pa_cons (pv 1) pa_nil))⟩) (PEb.go ⟨pe_lst (Ars2.go (.cons pe_intb (.cons pe_intb (.cons pe_intb .nil rfl) rfl) rfl))⟩) (nomark _))))) pss_never pss_nil⟩))⟩,?_⟩
  refine seqE ⟨_,⟨ps_for PassesOwn.never rfl (pi_range1 (by rfl) B.range (pa_cons (pe_callB (call_max2 rfl) (by rfl) B.max PyProof.Rows.boot_max (pa_cons pe_int (pa_cons (pe_callB (call_min2 rfl) (by rfl) B.min PyProof.Rows.boot_min (pa_cons pe_int (pa_cons (pe_callB call_len_seq (by rfl) B.len PySem.boot_len (pa_cons (pv 0) pa_nil)) pa_nil))) pa_nil))) pa_nil)) (pg_name (i:=2) scLaw.nd rfl (by first|exact Or.inl rfl|exact Or.inr rfl))
   (StI.go (.cons ⟨ps_set (i:=3) scLaw.nd rfl (by first|exact Or.inl rfl|exact Or.inr rfl) (pe_call GP hr1 (by rfl) hP FP.kp bP .nil pass0 (pa_cons (pv 0) (pa_cons (pv 2) pa_nil)))⟩
   (.cons ⟨ps_set (i:=4) scLaw.nd rfl (by first|exact Or.inl rfl|exact Or.inr rfl) (pe_call GD hr1 (by rfl) hD FD.kp bD .nil pass0 (pa_cons (pv 3) (pa_cons pe_int pa_nil)))⟩
   (.consI ⟨ps_if (pt_cmpR op_eq (pe_call GD hr1 (by rfl) hD FD.kp bD .nil pass0 (pa_cons (pv 3) (pa_cons pe_int pa_nil))) pe_int (nomark _)) (pss_one (ps_set (i:=4) scLaw.nd rfl (by first|exact Or.inl rfl|exact Or.inr rfl) (pe_op op_mod (pv 4) pe_int))) pss_nil⟩
   (.cons ⟨ps_set (i:=5) scLaw.nd rfl (by first|exact Or.inl rfl|exact Or.inr rfl) (pe_call GS hr15 (by rfl) hS FS.kp bS .nil pass0 (Ars2.go (.cons ⟨pv 4⟩ (.cons ⟨pe_call GX hr3 (by rfl) hX FX.kp bX .nil pass0 (pa_cons (pv 3) (pa_cons (pv 4) pa_nil))⟩ .nil rfl) rfl)))⟩
   (.cons ⟨ps_if (PW.pt (pw_or (pt_cmpR (op_neD hr) (PEb.go ⟨pe_call GA hr18 (by rfl) hA FA.kp bA .nil pass0 (pa_cons pe_str (pa_cons (pv 5) pa_nil))⟩) (pe_lst pa_nil) (nomark _))
    (pw_or (pt_cmpR (op_neD hr) (PEb.go ⟨pe_call GA hr18 (by rfl) hA FA.kp bA .nil pass0 (pa_cons pe_str (pa_cons (pv 4) pa_nil))⟩) (pe_lst pa_nil) (nomark _)) (pw_or1 (pt_cmpR (op_neD hr) (PEb.go ⟨pe_call GA hr18 (by rfl) hA FA.kp bA .nil pass0 (pa_cons pe_str (pa_cons (pv 4) pa_nil))⟩) (pe_lst pa_nil) (nomark _)))))) pss_never pss_nil⟩
   (.one ⟨ps_forget 1 (ps_if (pt_cmpR (op_neD hr) (PEb.go ⟨pe_hide 1 ".h" (PEb.go ⟨pe_compIf nLawH (defScope lLaw) rfl rfl rfl nd_lawH (piL K rfl (PEb.go ⟨pe_call GN hr1 (by rfl) hN FN.kp bN .nil pass0 (pa_cons (pv 5) pa_nil)⟩)) (λcl C' fp s₀ H₀=>pt_cmpR (op_neD hr) (PEb.go ⟨pe_call GA hr18 (by rfl) hA FA.kp bA .nil pass0 (pa_cons pe_str (pa_cons (pv 0) pa_nil))⟩) (PEb.go ⟨pe_lst (Ars2.go (.cons pe_intb (.cons pe_intb (.cons pe_intb .nil rfl) rfl) rfl))⟩) (nomark _)) (λcl C' fp s₀ H₀=>pv 0)⟩)⟩) (pe_lst pa_nil) (nomark _)) pss_never pss_nil)⟩)))))))⟩,?_⟩
  refine lastE ⟨_,⟨ps_ret pe_bl⟩,?_⟩
  have k3:kinds 3=[3,16,17]:=kinds_low 3 (by decide)
  have k0:kinds 0=[0,16,17]:=kinds_low 0 (by decide)
  refine⟨rfl,λH1 s1=>⟨_,rfl,iteF ?_⟩⟩
  refine⟨rfl,rfl,λL xs H2 s2 hL hl20 hxs=>⟨L,rfl,⟨_,SqL.of hL⟩,λD hDn=>compG_walk hDn (λ_=>false) (λ_=>.non) (goes_lst (K:=K) hL) (small1000 (by lia)) ?_ ?_⟩⟩
  ·intro i x H3 hi hx s3 os hos Q1 Q2 q1 q2
   obtain⟨d,hdx,hbd,hno⟩:=hxs x (List.mem_of_getElem? hx)
   match os,hos with
   |[o],_=>
    refine⟨_,rfl, "text",x,d,false,3,rfl,hdx.same s3,hbd,.inl ⟨rfl,rfl,⟨λz=>(by cases z),λz=>absurd z hno⟩⟩,λD' H4 s4 hD4=>⟨(by show 3<=sizeLine;decide),λe he=>?_⟩⟩
    refine⟨dLN (kinds 3),dLN [3,16,17],dLN_at (keepU hD4 he),dLN_at upd_same,dLN_lay _,dLN_lay _,dLN_dep _,_,rfl,?_⟩
    rw[dLN_eqv,k3,decide_eq_true rfl]
    exact iteF (q1 rfl _ (s4.trans (sameU he)))
  intro H3 s3 hD3
  have hD3':H3 D=some (.lst (vN [])):=by
   rw[hD3]
   simp[vN]
  refine⟨(by show 0<=sizeLine;decide),λe he=>?_⟩
  refine⟨dLN [],dLN [],dLN_at (keepU hD3' he),dLN_at upd_same,dLN_lay _,dLN_lay _,dLN_dep _,_,rfl,?_⟩
  rw[dLN_eqv,decide_eq_true rfl]
  refine iteF ?_
  have S3:=s1.trans (s2.trans (s3.trans (sameU (o:=.lst []) he)))
  generalize upd H3 e (.lst [])=H4 at S3 ⊢
  clear hxs hL hl20
  refine⟨rfl,λL xs H5 s5 hL hl20 hxs=>⟨L,rfl,⟨_,SqL.of hL⟩,for_list (K:=K) (a:=L) (xs:=xs) (λi σ H6=>Same H5 H6/\∃v1 v2 v3 v4 v5,σ=[some (.ref a),v1,v2,v3,v4,v5]) ⟨Same.refl _,none,none,none,none,none,rfl⟩ (λi σ H6 _ h=>SqL.of (h.1 _ _ hL)) ?_ ?_⟩⟩
  ·rintro i x σ H6 hx ⟨s6,v1,v2,v3,v4,v5,rfl⟩
   obtain⟨d,hdx,hbd,hno⟩:=hxs x (List.mem_of_getElem? hx)
   refine⟨_,rfl, "empty",x,d,false,0,rfl,hdx.same s6,hbd,.inr (.inl ⟨rfl,rfl,hno.symm⟩),λD7 H7 s7 hD7=>⟨(by show 3<=sizeLine;decide),λe he=>?_⟩⟩
   refine⟨dLN (kinds 0),dLN [0,16,17],dLN_at (keepU hD7 he),dLN_at upd_same,dLN_lay _,dLN_lay _,dLN_dep _,_,rfl,?_⟩
   rw[dLN_eqv,k0,decide_eq_true rfl]
   refine iteF ?_
   have S7:=s7.trans (sameU (o:=.lst [V.int 0,V.int 16,V.int 17]) he)
   refine⟨_,rfl, "full",x,d,false,0,rfl,hdx.same (s6.trans S7),hbd,.inr (.inr ⟨rfl,rfl,hno.symm⟩),λD8 H8 s8 hD8=>⟨(by show 3<=sizeLine;decide),λe2 he2=>?_⟩⟩
   refine⟨dLN (kinds 0),dLN [0,16,17],dLN_at (keepU hD8 he2),dLN_at upd_same,dLN_lay _,dLN_lay _,dLN_dep _,_,rfl,?_⟩
   rw[dLN_eqv,k0,decide_eq_true rfl]
   exact iteF ⟨s6.trans (S7.trans (s8.trans (sameU he2))),_,_,_,_,_,rfl⟩
  rintro σ H6 ⟨s6,v1,v2,v3,v4,v5,rfl⟩
  have S6:Same H H6:=S3.trans (s5.trans s6)
  refine⟨_,rfl,a,_,rfl,.inl (S6.seq hSq),_,_,rfl,_,_,rfl,_,rfl,?_,?_,for_range (λi σ H2=>(i:Int)<=6/\Same H H2/\∃v1 v2 v3 v4 v5,σ=[some (.ref a),v1,v2,v3,v4,v5]) ⟨by decide,S6,v1,v2,v3,v4,v5,rfl⟩ ?_ ?_⟩
  ·split<;>(try split)<;>lia
  ·split<;>(try split)<;>lia
  ·rintro i σ H2 hi ⟨i1,s2,v1,v2,v3,v4,v5,rfl⟩
   have hi':(i:Int)<6:=by
    revert hi
    split<;>(try split)<;>lia
   refine⟨_,rfl,_,rfl,a,_,ns,rfl,s2.seq hSq,hlen,by lia,by lia,λH3 p s3 hpn hp3=>?_⟩
   refine⟨_,rfl,p,13,rfl,hp3,by decide,by decide,λn0 H4 hn0 b4 hp4=>?_⟩
   refine⟨λσ' H'=>∃(n:Nat) (v1 v2 v5:Option V),n<=12/\But p H3 H'/\PurseAt H' p/\σ'=[some (.ref a),v1,v2,some (.ref p),some (.int (n:Nat)),v5],?_,?_⟩
   ·refine⟨_,rfl,p,2,rfl,hp4,by decide,by decide,λd H5 hd b5 hp5=>⟨rfl,_,rfl,?_⟩⟩
    refine ite2 (λhc=>⟨_,rfl,_,_,rfl,rfl,(by show (0:Int)<4;decide),?_⟩) (λhc=>⟨n0,_,_,_,by lia,b4.trans b5,hp5,rfl⟩)
    have e4:((n0:Nat):Int)%4=((n0%4:Nat):Int):=by lia
    exact⟨n0%4,v1,some (.int (0+(i:Int))),v5,by lia,b4.trans b5,hp5,by simp only[e4];rfl⟩
   rintro σ' H5 ⟨n,w1,w2,w5,hn,b5,hp5,rfl⟩
   refine⟨_,rfl,_,rfl,_,rfl,p,n,rfl,hp5,hn,λH6 l bs b6 hp6 hl hRb hBx=>?_⟩
   have S6:Same H H6:=λb o e=>by
    have e2:=s2 b o e
    have nb:b≠p:=ne_of_none e2 hpn
    exact b6 _ _ (b5 _ _ (s3 _ _ e2) nb) nb
   refine⟨l,n,bs,rfl,hRb,hBx,hn,λH7 t s7 sh=>?_⟩
   have hb9:(bRows n bs).length<=485:=b_len hn hBx
   generalize bTop n bs=tp at sh
   generalize bRows n bs=rows at sh hb9
   have S7:=S6.trans s7
   obtain⟨tl,cn,hl9⟩:=id sh
   have bnd:Bnd (dTell n tp rows):=λd0 d1 ds e=>by
    unfold dTell at e
    injection e with e
    injection e with _ e
    injection e with _ e
    injection e with e _
    injection e with e
    rw[<- e,List.length_map]
    exact hl9
   have wh:true=wholeD 12 (.int (n:Nat)):=(decide_eq_true ⟨by lia,by lia⟩).symm
   have bn:Bnd (.int (n:Nat)):=λ_ _ _ e=>by cases e
   refine⟨_,rfl, "text",.ref t,dTell n tp rows,true,3,rfl,DatX.of (tell_data tl),bnd,.inl ⟨rfl,rfl,⟨λ_=>⟨n,tp,rows,rfl,cn⟩,λ_=>rfl⟩⟩,λD8 H8 s8 hD8=>⟨(by show 0<=sizeLine;decide),λe he=>?_⟩⟩
   have hD8':H8 D8=some (.lst (vN [])):=hD8
   refine⟨dLN [],dLN [],dLN_at (keepU hD8' he),dLN_at upd_same,dLN_lay _,dLN_lay _,dLN_dep _,_,rfl,?_⟩
   rw[dLN_eqv,decide_eq_true rfl]
   refine iteF ?_
   refine⟨_,rfl, "empty",.int (n:Nat),.int (n:Nat),true,0,rfl,.int _,bn,.inr (.inl ⟨rfl,rfl,wh⟩),λD9 H9 s9 hD9=>⟨(by show 0<=sizeLine;decide),λe2 he2=>?_⟩⟩
   have hD9':H9 D9=some (.lst (vN [])):=hD9
   refine⟨dLN [],dLN [],dLN_at (keepU hD9' he2),dLN_at upd_same,dLN_lay _,dLN_lay _,dLN_dep _,_,rfl,?_⟩
   rw[dLN_eqv,decide_eq_true rfl]
   refine iteF ?_
   refine⟨_,rfl, "full",.int (n:Nat),.int (n:Nat),true,0,rfl,.int _,bn,.inr (.inr ⟨rfl,rfl,wh⟩),λD10 H10 s10 hD10=>⟨(by show 0<=sizeLine;decide),λe3 he3=>?_⟩⟩
   have hD10':H10 D10=some (.lst (vN [])):=hD10
   refine⟨dLN [],dLN [],dLN_at (keepU hD10' he3),dLN_at upd_same,dLN_lay _,dLN_lay _,dLN_dep _,_,rfl,?_⟩
   rw[dLN_eqv,decide_eq_true rfl]
   refine iteF ?_
   have S10:=s8.trans ((sameU (o:=.lst []) he).trans (s9.trans ((sameU (o:=.lst []) he2).trans (s10.trans (sameU (o:=.lst []) he3)))))
   have sh10:=same_sh sh S10
   have S11:=S7.trans S10
   generalize upd H10 e3 (.lst [])=H11 at S10 sh10 S11 ⊢
   refine⟨rfl,_,rfl,t,n,tp,rows,rfl,sh10,hb9,λL xs H12 s12 hL hl20 hxs=>⟨L,rfl,⟨_,SqL.of hL⟩,λD hDn=>compG_walk hDn (λ_=>false) (λ_=>.non) (goes_lst (K:=K) hL) (small1000 (by lia)) ?_ ?_⟩⟩
   ·intro i x H3 hi hx s3 os hos Q1 Q2 q1 q2
    obtain⟨d,hdx,hbd,hno⟩:=hxs x (List.mem_of_getElem? hx)
    match os,hos with
    |[o],_=>
     refine⟨_,rfl, "text",x,d,false,3,rfl,hdx.same s3,hbd,.inl ⟨rfl,rfl,⟨λz=>(by cases z),λz=>absurd z hno⟩⟩,λD' H4 s4 hD4=>⟨(by show 3<=sizeLine;decide),λe he=>?_⟩⟩
     refine⟨dLN (kinds 3),dLN [3,16,17],dLN_at (keepU hD4 he),dLN_at upd_same,dLN_lay _,dLN_lay _,dLN_dep _,_,rfl,?_⟩
     rw[dLN_eqv,k3,decide_eq_true rfl]
     exact iteF (q1 rfl _ (s4.trans (sameU he)))
   intro H13 s13 hD13
   have hD13':H13 D=some (.lst (vN [])):=by
    rw[hD13]
    simp[vN]
   refine⟨(by show 0<=sizeLine;decide),λe4 he4=>?_⟩
   refine⟨dLN [],dLN [],dLN_at (keepU hD13' he4),dLN_at upd_same,dLN_lay _,dLN_lay _,dLN_dep _,_,rfl,?_⟩
   rw[dLN_eqv,decide_eq_true rfl]
   exact iteF ⟨by lia,S11.trans (s12.trans (s13.trans (sameU he4))),_,_,_,_,_,rfl⟩
  ·rintro σ H2 ⟨_,_,v1,v2,v3,v4,v5,rfl⟩
   exact q _
end
end Pr
namespace Pr
open PySem L2 Qf Sp
def DefIn (K:PySem.W.Frag) (x:Str) (st:Stmt):Prop:=∃(f:Addr) (fd:FuncData),PySem.W.nsIn K mainGlobals x=some (some (.ref f))/\Fun K x x st f fd
theorem d_mk {K:PySem.W.Frag}{x:Str}{st:Stmt}{f:Addr}{od an:Option Addr}{sl:Array (Option Value)}{oc kV dc pm cd ct:Value}(a:PySem.W.nsIn K mainGlobals x=some (some (.ref f)))
  (l:K.lookup f=some ⟨oc,od,.func (PySem.W.fnOf x x (defArgs st) (defBody st) (defScope st) .none kV dc pm an cd ct),sl⟩) (c:PySem.W.codeIn K cd x=true) (k:PySem.W.keepIn K (.ref f)=true):DefIn K x st:=⟨f,_,a,fun_mk l c k⟩
def NoName (K:PySem.W.Frag) (x:Str):Prop:=PySem.W.nsIn K mainGlobals x=some none
theorem e_mk {K:PySem.W.Frag}{C:Addr}(hga:PySem.W.findIn K (.ref C) "__getattribute__" = some (some (.builtin "BaseException.__getattribute__"))) (hgt:PySem.W.findIn K (.ref C) "__getattr__" = some none)
  (ha:PySem.W.findIn K (.ref C) "__class__" = some (some (.builtin "object.__class__"))) (hn:PySem.W.specialIn K (.builtin "object.__class__") "__get__" = some (some (.builtin "getset_descriptor.__get__")))
  (htk:PySem.W.takesIn K (.builtin "object.__class__")=some true) (hm:PySem.W.mroIn K C (.type "object")=some true) (hb:PySem.W.mroIn K C (.type "BaseException")=some true){x:_}(hc:PySem.W.clsIn K C=some x):ExcCls K C:=⟨hga,hgt,ha,hn,htk,hm,hb,by rw[hc];rfl⟩
def kitsB (K:PySem.W.Frag) (l:List Addr):Bool:=(List.range 17).all λi=>decide (PySem.W.kitOne K (.ref (l.getD i 0)) (.type "ValueError")=some true)&&(decide (PySem.W.exmOne K (.ref (l.getD i 0)) (.ref (l.getD 16 0))=some true)&&(PySem.W.excIn K (l.getD i 0) bmV "ValueError.__new__" && (List.range 17).all λj=>decide (PySem.W.kitOne K (.ref (l.getD i 0)) (.ref (l.getD j 0))=some (kn i j))))
theorem kitsB_at {K:PySem.W.Frag}{l:List Addr}(h:kitsB K l=true){i:Nat}(hi:i<17):PySem.W.kitOne K (.ref (l.getD i 0)) (.type "ValueError")=some true/\PySem.W.exmOne K (.ref (l.getD i 0)) (.ref (l.getD 16 0))=some true/\PySem.W.excIn K (l.getD i 0) bmV "ValueError.__new__" = true/\∀j,j<17->PySem.W.kitOne K (.ref (l.getD i 0)) (.ref (l.getD j 0))=some (kn i j):=by
 have:=List.all_eq_true.mp h i (List.mem_range.mpr hi)
 obtain⟨h1,h2⟩:=Bool.and_eq_true_iff.mp this
 obtain⟨h2,h3⟩:=Bool.and_eq_true_iff.mp h2
 obtain⟨h3,h4⟩:=Bool.and_eq_true_iff.mp h3
 exact⟨of_decide_eq_true h1,of_decide_eq_true h2,h3,λj hj=>of_decide_eq_true (List.all_eq_true.mp h4 j (List.mem_range.mpr hj))⟩
theorem kn17 (i:Nat):kn i 17=true:=by simp[kn]
theorem kn_mk {K:PySem.W.Frag}{mg:Str->Option Value}{c:Nat->Addr}(n:(∀i x,exN[i]?=some x->mg x=some (.ref (c i)))) (v:mg "ValueError" = none) (ec:∀i,i<17->ExcCls K (c i)) (k:∀i,i<17->PySem.W.kitOne K (.ref (c i)) (.type "ValueError")=some true/\PySem.W.exmOne K (.ref (c i)) (.ref (c 16))=some true/\PySem.W.excIn K (c i) bmV "ValueError.__new__" = true/\∀j,j<17->PySem.W.kitOne K (.ref (c i)) (.ref (c j))=some (kn i j)):Kn K mg c:=
 ⟨n 0 _ rfl,n 1 _ rfl,n 2 _ rfl,n 3 _ rfl,n 4 _ rfl,n 5 _ rfl,n 6 _ rfl,n 7 _ rfl,n 8 _ rfl,n 9 _ rfl,n 10 _ rfl,n 11 _ rfl,n 12 _ rfl,n 13 _ rfl,n 14 _ rfl,n 15 _ rfl,n 16 _ rfl,v,ec,λi j hi hj=>(k i hi).2.2.2 j hj,λi hi=>by rw[kn17];exact (k i hi).1,λi hi=>(k i hi).2.2.1,λi hi=>(k i hi).2.1⟩
theorem all_mk {l:PySem.W.OpenLaw}{w:World}{K:PySem.W.Frag}{h:Heap}{mg:Str->Option Value}{fa fL X0 X1 X2 X3 X4 X5 X6 X7 X8 X9 X10 X11 X12 X13 X14 X15 X16:Addr}(X:K.In h) (G:h.Ns mainGlobals mg) (hfa:mg "law" = some (.ref fa)){odL anL:Option Addr}{slL:Array (Option Value)}{ocL kVL dcL pmL cdL ctL:Value}{t0 t1 t2 t3:Tok}
  (aL:PySem.W.nsIn K mainGlobals "law" = some (some (.ref fL))) (lL:K.lookup fL=some ⟨ocL,odL,.func (PySem.W.fnOf "law" "law" (defArgs lLaw) (defBody lLaw) (defScope lLaw) .none kVL dcL pmL anL cdL ctL),slL⟩) (cL:PySem.W.codeIn K cdL "law" = true) (kL:PySem.W.keepIn K (.ref fL)=true)
  (g0:PySem.W.nsIn K mainGlobals "FIRST" = some (some (.int 2 t0))) (g1:PySem.W.nsIn K mainGlobals "FULL" = some (some (.int 1 t1))) (g2:PySem.W.nsIn K mainGlobals "GREATEST_SIZE" = some (some (.int 12 t2))) (g3:PySem.W.nsIn K mainGlobals "EMPTY" = some (some (.int 0 t3)))
  (d0:DefIn K "is_whole" sWhole) (d1:DefIn K "is_plain" sPlain) (d2:DefIn K "depths_of" sDeps) (d3:DefIn K "end_rows" sEnd) (d4:DefIn K "places_as_ended" sPlaces) (d5:DefIn K "is_size" sSize) (d6:DefIn K "want_floor" sWantF) (d7:DefIn K "is_number" sNumber) (d8:DefIn K "is_row" sRow) (d9:DefIn K "are_rows" sRows) (d10:DefIn K "is_telling" sTelling) (d11:DefIn K "is_shape" sShape) (d12:DefIn K "want_shape" sWantS) (d13:DefIn K "empty" sEmpty) (d14:DefIn K "full" sFull) (d15:DefIn K "line_of" sLineOf) (d16:DefIn K "shape_text" sText) (d17:DefIn K "_law_pot" lPot) (d18:DefIn K "_law_digit" lDigit) (d19:DefIn K "_law_cells" lCells) (d20:DefIn K "_law_box" lBox) (d21:DefIn K "_law_boxes" lBoxes) (d22:DefIn K "_law_meets" lMeets) (d23:DefIn K "_law_has" lHas) (d24:DefIn K "_law_number" lNumber) (d25:DefIn K "_law_shape" lShape) (d26:DefIn K "_law_kinds" lKinds) (d27:DefIn K "_law_asked" lAsked) (d28:DefIn K "_law_made" lMade) (d29:DefIn K "_law_odd" lOdd) (d30:DefIn K "_law_odd_sizes" lOddSz) (d31:DefIn K "_law_no_shapes" lNoSh)
  (z0:NoName K "isinstance") (z1:NoName K "int") (z2:NoName K "bool") (z3:NoName K "tuple") (z4:NoName K "list") (z5:NoName K "set") (z6:NoName K "len") (z7:NoName K "all") (z8:NoName K "any") (z9:NoName K "enumerate") (z10:NoName K "range") (z11:NoName K "max") (z12:NoName K "min") (z13:NoName K "abs") (z14:NoName K "repr") (z15:NoName K "str") (z16:NoName K "ValueError")
  (xn0:PySem.W.nsIn K mainGlobals "NoFloor" = some (some (.ref X0)))
  (xn1:PySem.W.nsIn K mainGlobals "NoAddress" = some (some (.ref X1)))
  (xn2:PySem.W.nsIn K mainGlobals "NoCell" = some (some (.ref X2)))
  (xn3:PySem.W.nsIn K mainGlobals "NoShape" = some (some (.ref X3)))
  (xn4:PySem.W.nsIn K mainGlobals "NoTelling" = some (some (.ref X4)))
  (xn5:PySem.W.nsIn K mainGlobals "NoText" = some (some (.ref X5)))
  (xn6:PySem.W.nsIn K mainGlobals "NoStep" = some (some (.ref X6)))
  (xn7:PySem.W.nsIn K mainGlobals "NoBox" = some (some (.ref X7)))
  (xn8:PySem.W.nsIn K mainGlobals "TooMany" = some (some (.ref X8)))
  (xn9:PySem.W.nsIn K mainGlobals "OtherFloor" = some (some (.ref X9)))
  (xn10:PySem.W.nsIn K mainGlobals "NoTurn" = some (some (.ref X10)))
  (xn11:PySem.W.nsIn K mainGlobals "NoNumber" = some (some (.ref X11)))
  (xn12:PySem.W.nsIn K mainGlobals "NoSide" = some (some (.ref X12)))
  (xn13:PySem.W.nsIn K mainGlobals "NotFull" = some (some (.ref X13)))
  (xn14:PySem.W.nsIn K mainGlobals "NoWay" = some (some (.ref X14)))
  (xn15:PySem.W.nsIn K mainGlobals "NoLoop" = some (some (.ref X15)))
  (xn16:PySem.W.nsIn K mainGlobals "FloorError" = some (some (.ref X16)))
  (xc0:ExcCls K X0)
  (xc1:ExcCls K X1)
  (xc2:ExcCls K X2)
  (xc3:ExcCls K X3)
  (xc4:ExcCls K X4)
  (xc5:ExcCls K X5)
  (xc6:ExcCls K X6)
  (xc7:ExcCls K X7)
  (xc8:ExcCls K X8)
  (xc9:ExcCls K X9)
  (xc10:ExcCls K X10)
  (xc11:ExcCls K X11)
  (xc12:ExcCls K X12)
  (xc13:ExcCls K X13)
  (xc14:ExcCls K X14)
  (xc15:ExcCls K X15)
  (xc16:ExcCls K X16)
  (xk:kitsB K [X0,X1,X2,X3,X4,X5,X6,X7,X8,X9,X10,X11,X12,X13,X14,X15,X16]=true) :
  ∃fd:FuncData,(∀(s:Shared) (v:Value),BindsTo s fd ⟨[v],[]⟩ [("_law_script",v)])/\∀base:Heap,K.In base->base.Ns mainGlobals mg->FnOk l.prog w K mg base CX0 19 fa fd ["_law_script"] (spLaw K):=by
 have e:=hfa.symm.trans (PySem.W.mg_of X G aL)
 cases e
 have nn:∀{x:Str},NoName K x->mg x=none:=λz=>PySem.W.mg_none_of X G z
 have B:Blt mg:=⟨nn z0,nn z1,nn z2,nn z3,nn z4,nn z5,nn z6,nn z7,nn z8,nn z9,nn z10,nn z11,nn z12⟩
 have C:Blt2 mg:=⟨nn z13,nn z14,nn z15⟩
 have T:Cst mg:=⟨⟨t0,PySem.W.mg_of X G g0⟩,⟨t1,PySem.W.mg_of X G g1⟩,⟨t2,PySem.W.mg_of X G g2⟩⟩
 have FL:=fun_mk (st:=lLaw) lL cL kL
 obtain⟨f0,fd0,a0,F0⟩:=d0
 have h0:=PySem.W.mg_of X G a0
 have b0:=F0.binds (ps:=["thing"]) λ_ _ _ _ _ _ us hl=>match us,hl with|[_],_=>rfl
 obtain⟨f1,fd1,a1,F1⟩:=d1
 have h1:=PySem.W.mg_of X G a1
 have b1:=F1.binds (ps:=["row"]) λ_ _ _ _ _ _ us hl=>match us,hl with|[_],_=>rfl
 obtain⟨f2,fd2,a2,F2⟩:=d2
 have h2:=PySem.W.mg_of X G a2
 have b2:=F2.binds (ps:=["rows"]) λ_ _ _ _ _ _ us hl=>match us,hl with|[_],_=>rfl
 obtain⟨f3,fd3,a3,F3⟩:=d3
 have h3:=PySem.W.mg_of X G a3
 have b3:=F3.binds (ps:=["rows", "number", "ended"]) λ_ _ _ _ _ _ us hl=>match us,hl with|[_,_,_],_=>rfl
 obtain⟨f4,fd4,a4,F4⟩:=d4
 have h4:=PySem.W.mg_of X G a4
 have b4:=F4.binds (ps:=["rows", "top"]) λ_ _ _ _ _ _ us hl=>match us,hl with|[_,_],_=>rfl
 obtain⟨f5,fd5,a5,F5⟩:=d5
 have h5:=PySem.W.mg_of X G a5
 have b5:=F5.binds (ps:=["thing"]) λ_ _ _ _ _ _ us hl=>match us,hl with|[_],_=>rfl
 obtain⟨f6,fd6,a6,F6⟩:=d6
 have h6:=PySem.W.mg_of X G a6
 have b6:=F6.binds (ps:=["n"]) λ_ _ _ _ _ _ us hl=>match us,hl with|[_],_=>rfl
 obtain⟨f7,fd7,a7,F7⟩:=d7
 have h7:=PySem.W.mg_of X G a7
 have b7:=F7.binds (ps:=["thing", "many"]) λ_ _ _ _ _ _ us hl=>match us,hl with|[_,_],_=>rfl
 obtain⟨f8,fd8,a8,F8⟩:=d8
 have h8:=PySem.W.mg_of X G a8
 have b8:=F8.binds (ps:=["thing", "before"]) λ_ _ _ _ _ _ us hl=>match us,hl with|[_,_],_=>rfl
 obtain⟨f9,fd9,a9,F9⟩:=d9
 have h9:=PySem.W.mg_of X G a9
 have b9:=F9.binds (ps:=["thing"]) λ_ _ _ _ _ _ us hl=>match us,hl with|[_],_=>rfl
 obtain⟨f10,fd10,a10,F10⟩:=d10
 have h10:=PySem.W.mg_of X G a10
 have b10:=F10.binds (ps:=["thing"]) λ_ _ _ _ _ _ us hl=>match us,hl with|[_],_=>rfl
 obtain⟨f11,fd11,a11,F11⟩:=d11
 have h11:=PySem.W.mg_of X G a11
 have b11:=F11.binds (ps:=["thing"]) λ_ _ _ _ _ _ us hl=>match us,hl with|[_],_=>rfl
 obtain⟨f12,fd12,a12,F12⟩:=d12
 have h12:=PySem.W.mg_of X G a12
 have b12:=F12.binds (ps:=["shape"]) λ_ _ _ _ _ _ us hl=>match us,hl with|[_],_=>rfl
 obtain⟨f13,fd13,a13,F13⟩:=d13
 have h13:=PySem.W.mg_of X G a13
 have b13:=F13.binds (ps:=["n"]) λ_ _ _ _ _ _ us hl=>match us,hl with|[_],_=>rfl
 obtain⟨f14,fd14,a14,F14⟩:=d14
 have h14:=PySem.W.mg_of X G a14
 have b14:=F14.binds (ps:=["n"]) λ_ _ _ _ _ _ us hl=>match us,hl with|[_],_=>rfl
 obtain⟨f15,fd15,a15,F15⟩:=d15
 have h15:=PySem.W.mg_of X G a15
 have b15:=F15.binds (ps:=["numbers"]) λ_ _ _ _ _ _ us hl=>match us,hl with|[_],_=>rfl
 obtain⟨f16,fd16,a16,F16⟩:=d16
 have h16:=PySem.W.mg_of X G a16
 have b16:=F16.binds (ps:=["shape"]) λ_ _ _ _ _ _ us hl=>match us,hl with|[_],_=>rfl
 obtain⟨f17,fd17,a17,F17⟩:=d17
 have h17:=PySem.W.mg_of X G a17
 have b17:=F17.binds (ps:=["_law_script", "_law_k"]) λ_ _ _ _ _ _ us hl=>match us,hl with|[_,_],_=>rfl
 obtain⟨f18,fd18,a18,F18⟩:=d18
 have h18:=PySem.W.mg_of X G a18
 have b18:=F18.binds (ps:=["_law_pot_here", "_law_many"]) λ_ _ _ _ _ _ us hl=>match us,hl with|[_,_],_=>rfl
 obtain⟨f19,fd19,a19,F19⟩:=d19
 have h19:=PySem.W.mg_of X G a19
 have b19:=F19.binds (ps:=["_law_pot_here", "_law_n"]) λ_ _ _ _ _ _ us hl=>match us,hl with|[_,_],_=>rfl
 obtain⟨f20,fd20,a20,F20⟩:=d20
 have h20:=PySem.W.mg_of X G a20
 have b20:=F20.binds (ps:=["_law_pot_here", "_law_n", "_law_most"]) λ_ _ _ _ _ _ us hl=>match us,hl with|[_,_,_],_=>rfl
 obtain⟨f21,fd21,a21,F21⟩:=d21
 have h21:=PySem.W.mg_of X G a21
 have b21:=F21.binds (ps:=["_law_pot_here", "_law_n"]) λ_ _ _ _ _ _ us hl=>match us,hl with|[_,_],_=>rfl
 obtain⟨f22,fd22,a22,F22⟩:=d22
 have h22:=PySem.W.mg_of X G a22
 have b22:=F22.binds (ps:=["_law_box_here", "_law_row", "_law_column", "_law_side"]) λ_ _ _ _ _ _ us hl=>match us,hl with|[_,_,_,_],_=>rfl
 obtain⟨f23,fd23,a23,F23⟩:=d23
 have h23:=PySem.W.mg_of X G a23
 have b23:=F23.binds (ps:=["_law_box_here", "_law_row", "_law_column", "_law_side"]) λ_ _ _ _ _ _ us hl=>match us,hl with|[_,_,_,_],_=>rfl
 obtain⟨f24,fd24,a24,F24⟩:=d24
 have h24:=PySem.W.mg_of X G a24
 have b24:=F24.binds (ps:=["_law_rows", "_law_boxes_here", "_law_row", "_law_column", "_law_side"]) λ_ _ _ _ _ _ us hl=>match us,hl with|[_,_,_,_,_],_=>rfl
 obtain⟨f25,fd25,a25,F25⟩:=d25
 have h25:=PySem.W.mg_of X G a25
 have b25:=F25.binds (ps:=["_law_n", "_law_boxes_here"]) λ_ _ _ _ _ _ us hl=>match us,hl with|[_,_],_=>rfl
 obtain⟨f26,fd26,a26,F26⟩:=d26
 have h26:=PySem.W.mg_of X G a26
 have b26:=F26.binds (ps:=["_law_e"]) λ_ _ _ _ _ _ us hl=>match us,hl with|[_],_=>rfl
 obtain⟨f27,fd27,a27,F27⟩:=d27
 have h27:=PySem.W.mg_of X G a27
 have b27:=F27.binds (ps:=["_law_word", "_law_thing"]) λ_ _ _ _ _ _ us hl=>match us,hl with|[_,_],_=>rfl
 obtain⟨f28,fd28,a28,F28⟩:=d28
 have h28:=PySem.W.mg_of X G a28
 have b28:=F28.binds (ps:=[]) λ_ _ _ _ _ _ us hl=>match us,hl with|[],_=>rfl
 obtain⟨f29,fd29,a29,F29⟩:=d29
 have h29:=PySem.W.mg_of X G a29
 have b29:=F29.binds (ps:=[]) λ_ _ _ _ _ _ us hl=>match us,hl with|[],_=>rfl
 obtain⟨f30,fd30,a30,F30⟩:=d30
 have h30:=PySem.W.mg_of X G a30
 have b30:=F30.binds (ps:=[]) λ_ _ _ _ _ _ us hl=>match us,hl with|[],_=>rfl
 obtain⟨f31,fd31,a31,F31⟩:=d31
 have h31:=PySem.W.mg_of X G a31
 have b31:=F31.binds (ps:=["_law_shape_here"]) λ_ _ _ _ _ _ us hl=>match us,hl with|[_],_=>rfl
 refine⟨PySem.W.fnOf "law" "law" (defArgs lLaw) (defBody lLaw) (defScope lLaw) .none kVL dcL pmL anL cdL ctL,λs v=>.of_eq rfl,λbase _ _=>?_⟩
 have XT:Kn K mg (λi=>[X0,X1,X2,X3,X4,X5,X6,X7,X8,X9,X10,X11,X12,X13,X14,X15,X16].getD i 0):=kn_mk (λi x hx=>match i,hx with
  |0,rfl=>PySem.W.mg_of X G xn0
  |1,rfl=>PySem.W.mg_of X G xn1
  |2,rfl=>PySem.W.mg_of X G xn2
  |3,rfl=>PySem.W.mg_of X G xn3
  |4,rfl=>PySem.W.mg_of X G xn4
  |5,rfl=>PySem.W.mg_of X G xn5
  |6,rfl=>PySem.W.mg_of X G xn6
  |7,rfl=>PySem.W.mg_of X G xn7
  |8,rfl=>PySem.W.mg_of X G xn8
  |9,rfl=>PySem.W.mg_of X G xn9
  |10,rfl=>PySem.W.mg_of X G xn10
  |11,rfl=>PySem.W.mg_of X G xn11
  |12,rfl=>PySem.W.mg_of X G xn12
  |13,rfl=>PySem.W.mg_of X G xn13
  |14,rfl=>PySem.W.mg_of X G xn14
  |15,rfl=>PySem.W.mg_of X G xn15
  |16,rfl=>PySem.W.mg_of X G xn16
  |i+17,hx=>by simp[exN] at hx) (nn z16) (λi hi=>match i,hi with
  |0,_=>xc0
  |1,_=>xc1
  |2,_=>xc2
  |3,_=>xc3
  |4,_=>xc4
  |5,_=>xc5
  |6,_=>xc6
  |7,_=>xc7
  |8,_=>xc8
  |9,_=>xc9
  |10,_=>xc10
  |11,_=>xc11
  |12,_=>xc12
  |13,_=>xc13
  |14,_=>xc14
  |15,_=>xc15
  |16,_=>xc16
  |i+17,hi=>by lia) (λi hi=>kitsB_at xk hi)
 have gSize:FnOk l.prog w K mg base CX0 2 _ _ _ _:=ok_size F5 B T h0 F0 b0
 have gNum:FnOk l.prog w K mg base CX0 2 _ _ _ _:=ok_number F7 B T h0 F0 b0
 have gPl:∀d,FnOk l.prog w K mg base CX0 (d+2) _ _ _ (spPlaces d):=λd=>ok_places F4 B T h3 F3 b3 d
 have gRow:FnOk l.prog w K mg base CX0 3 _ _ _ _:=ok_row F8 B h7 F7 b7 gNum
 have gRows:FnOk l.prog w K mg base CX0 4 _ _ _ _:=ok_rows F9 B h8 F8 b8 gRow
 have gTell2:FnOk l.prog w K mg base CX0 5 _ _ _ spTelling2:=ok_telling2 F10 B h5 F5 b5 gSize h9 F9 b9 gRows h7 F7 b7 gNum h2 F2 b2
 have gShape2:FnOk l.prog w K mg base CX0 15 _ _ _ spShape2:=ok_shape2 F11 B T h10 F10 b10 gTell2 h1 F1 b1 h4 F4 b4 gPl
 have gSize3:FnOk l.prog w K mg base CX0 2 _ _ _ spSize3:=ok_size3 F5 B T h0 F0 b0
 have gNum3:FnOk l.prog w K mg base CX0 2 _ _ _ spNumber3:=ok_number3 F7 B T h0 F0 b0
 have gRow3:FnOk l.prog w K mg base CX0 3 _ _ _ spRow3:=ok_row3 F8 B h7 F7 b7 gNum3
 have gRows3:FnOk l.prog w K mg base CX0 4 _ _ _ spRows3:=ok_rows3 F9 B h8 F8 b8 gRow3
 have gTellNo:FnOk l.prog w K mg base CX0 5 _ _ _ spTellNo:=ok_tellNo F10 B h5 F5 b5 gSize3 h9 F9 b9 gRows3 h7 F7 b7 gNum3 h2 F2 b2
 have gShapeNo:FnOk l.prog w K mg base CX0 15 _ _ _ spShapeNo:=ok_shapeNo F11 h10 F10 b10 gTellNo
 have gShape3:FnOk l.prog w K mg base CX0 15 _ _ _ spShape3:=ok_shape3 gShape2 gShapeNo
 have gWF:FnOk l.prog w K mg base (CX1 l.prog w) 3 _ _ _ (spWantF3 X0):=ok_wantF3 F6 XT h5 F5 b5 gSize3
 have gWS:FnOk l.prog w K mg base (CX1 l.prog w) 16 _ _ _ (spWantS3 X3):=ok_wantS3 F12 XT h11 F11 b11 gShape3
 have gE:FnOk l.prog w K mg base (CX1 l.prog w) 4 _ _ _ (spEmpty3 X0):=ok_empty3 F13 ⟨_,PySem.W.mg_of X G g3⟩ h6 F6 b6 gWF
 have gF:FnOk l.prog w K mg base (CX1 l.prog w) 4 _ _ _ (spEmpty3 X0):=ok_full3 F14 ⟨_,PySem.W.mg_of X G g1⟩ h6 F6 b6 gWF
 have gT:FnOk l.prog w K mg base (CX1 l.prog w) 17 _ _ _ (spText3 X3):=ok_text3 F16 h12 F12 b12 gWS h15 F15 b15 C
 have gA:FnOk l.prog w K mg base CX0 18 _ _ _ spAsk:=ok_ask F27 B XT h16 F16 b16 gT h13 F13 b13 gE h14 F14 b14 gF h26 F26 b26
 have gM:FnOk l.prog w K mg base CX0 2 _ _ _ spMade:=ok_made F28 B XT h26 F26 b26
 have gBx:FnOk l.prog w K mg base CX0 3 _ _ _ _:=ok_boxes F21 B h18 F18 b18 h19 F19 b19 h20 F20 b20
 have gBS:FnOk l.prog w K mg base CX0 15 _ _ _ _:=ok_bSh F25 B h24 F24 b24 h22 F22 b22 h23 F23 b23
 exact ok_law FL B C h17 F17 b17 h18 F18 b18 h21 F21 b21 gBx h25 F25 b25 gBS h28 F28 b28 gM h29 F29 b29 h30 F30 b30 h31 F31 b31 h27 F27 b27 gA
theorem walk {l:PySem.W.OpenLaw}{q:Program}{loose:List Str}{XP:(Str->Option Value)->Heap->Prop}{YP:World->Heap->Prop}{d:DefRec}{K:Params->PySem.W.Frag}(hn:l.most=some 63) (hdf:d.params.defaults=[])
  (hY:∀(w:World) (h:Heap),YP w h->(K w.params).In h)
  (F:∀(w:World) (mg:Str->Option Value) (fa:Addr) (h:Heap),(K w.params).In h->h.Ns mainGlobals mg->mg d.name=some (.ref fa) ->
   ∃fd:FuncData,(∀(s:Shared) (u:Value),BindsTo s fd ⟨[u],[]⟩ [("_law_script",u)])/\∀base:Heap,(K w.params).In base->base.Ns mainGlobals mg->FnOk l.prog w (K w.params) mg base CX0 19 fa fd ["_law_script"] (spLaw (K w.params))) :
  PySem.W.WalkO q loose XP YP l.row.toRowW d [] (λf vs=>PySem.call f vs):=
 L2.walk_of (n:=63) (k:=19) (x:= "_law_script") (CX:=λ_=>CX0) (sp:=λw=>spLaw (K w.params)) hn (by decide) hdf ⟨rfl,by decide,by decide,rfl⟩ hY F (λ_ _ a ns hl _ hS=>⟨a,ns,rfl,hS,hl,λ_=>rfl⟩) λ_ _ _ _ _ z=>z
end Pr
open PySem PySem.W PyProof.Rows
set_option maxRecDepth 100000 in
set_option maxHeartbeats 0 in
theorem PySem.Challenge.cw_quarterfold_k16_what_is_refused_holds : PySem.Challenge.rw_quarterfold_k16_what_is_refused.Holds := by
 w_on;o_law
 refine holds_open (q:=Hd.q0) (loose:=[]) (Xt:=Hd.X0) (XP:=XL Hd.q0 []) (YP:=Hook.says (kHook Hd.K0 Hd.as0 Hd.as_K)) (N:=Hd.N0) Hd.left0
  (Hook.of (kHook Hd.K0 Hd.as0 Hd.as_K)) (Hook.keeps (kHook Hd.K0 Hd.as0 Hd.as_K)) (λs e=>xl_of s (Bool.and_eq_true_iff.mp e).1) XL.keeps
  (by rfl) (by rfl) (by rfl) (λs e=>recFacts_of (Bool.and_eq_true_iff.mp e).2)
  (by rfl) (by first|assumption|decide +kernel) (by decide +kernel) ⟨rfl,rfl,rfl,rfl,rfl,by decide +kernel⟩ ?hw ?hc
 case hw=>w_witness2
 k_fill
 refine Pr.walk (l:=PySem.Challenge.rw_quarterfold_k16_what_is_refused) rfl rfl (λw h Y=>PySem.W.kIn_of Y) ?F
 case F=>
  intro w mg fa h KX G hmg
  refine' Pr.all_mk KX G hmg ?aL ?lL ?cL ?kL ?gc0 ?gc1 ?gc2 ?gc3 ?d0 ?d1 ?d2 ?d3 ?d4 ?d5 ?d6 ?d7 ?d8 ?d9 ?d10 ?d11 ?d12 ?d13 ?d14 ?d15 ?d16 ?d17 ?d18 ?d19 ?d20 ?d21 ?d22 ?d23 ?d24 ?d25 ?d26 ?d27 ?d28 ?d29 ?d30 ?d31 ?z0 ?z1 ?z2 ?z3 ?z4 ?z5 ?z6 ?z7 ?z8 ?z9 ?z10 ?z11 ?z12 ?z13 ?z14 ?z15 ?z16 ?xn0 ?xn1 ?xn2 ?xn3 ?xn4 ?xn5 ?xn6 ?xn7 ?xn8 ?xn9 ?xn10 ?xn11 ?xn12 ?xn13 ?xn14 ?xn15 ?xn16 ?xc0 ?xc1 ?xc2 ?xc3 ?xc4 ?xc5 ?xc6 ?xc7 ?xc8 ?xc9 ?xc10 ?xc11 ?xc12 ?xc13 ?xc14 ?xc15 ?xc16 ?xk
  (case aL=>k_is);(case lL=>k_is);(case cL=>k_is);(case kL=>k_is)
  (case gc0=>k_is)
  (case gc1=>k_is)
  (case gc2=>k_is)
  (case gc3=>k_is)
  (case z0=>unfold Pr.NoName;k_is)
  (case z1=>unfold Pr.NoName;k_is)
  (case z2=>unfold Pr.NoName;k_is)
  (case z3=>unfold Pr.NoName;k_is)
  (case z4=>unfold Pr.NoName;k_is)
  (case z5=>unfold Pr.NoName;k_is)
  (case z6=>unfold Pr.NoName;k_is)
  (case z7=>unfold Pr.NoName;k_is)
  (case z8=>unfold Pr.NoName;k_is)
  (case z9=>unfold Pr.NoName;k_is)
  (case z10=>unfold Pr.NoName;k_is)
  (case z11=>unfold Pr.NoName;k_is)
  (case z12=>unfold Pr.NoName;k_is)
  (case z13=>unfold Pr.NoName;k_is)
  (case z14=>unfold Pr.NoName;k_is)
  (case z15=>unfold Pr.NoName;k_is)
  (case z16=>unfold Pr.NoName;k_is)
  (case xn0=>k_is)
  (case xn1=>k_is)
  (case xn2=>k_is)
  (case xn3=>k_is)
  (case xn4=>k_is)
  (case xn5=>k_is)
  (case xn6=>k_is)
  (case xn7=>k_is)
  (case xn8=>k_is)
  (case xn9=>k_is)
  (case xn10=>k_is)
  (case xn11=>k_is)
  (case xn12=>k_is)
  (case xn13=>k_is)
  (case xn14=>k_is)
  (case xn15=>k_is)
  (case xn16=>k_is)
  (case xc0=>refine' Pr.e_mk ?q1 ?q2 ?q3 ?q4 ?q5 ?q6 ?q7 ?q8;(case q1=>k_is);(case q2=>k_is);(case q3=>k_is);(case q4=>k_is);(case q5=>k_is);(case q6=>k_is);(case q7=>k_is);(case q8=>k_is))
  (case xc1=>refine' Pr.e_mk ?q1 ?q2 ?q3 ?q4 ?q5 ?q6 ?q7 ?q8;(case q1=>k_is);(case q2=>k_is);(case q3=>k_is);(case q4=>k_is);(case q5=>k_is);(case q6=>k_is);(case q7=>k_is);(case q8=>k_is))
  (case xc2=>refine' Pr.e_mk ?q1 ?q2 ?q3 ?q4 ?q5 ?q6 ?q7 ?q8;(case q1=>k_is);(case q2=>k_is);(case q3=>k_is);(case q4=>k_is);(case q5=>k_is);(case q6=>k_is);(case q7=>k_is);(case q8=>k_is))
  (case xc3=>refine' Pr.e_mk ?q1 ?q2 ?q3 ?q4 ?q5 ?q6 ?q7 ?q8;(case q1=>k_is);(case q2=>k_is);(case q3=>k_is);(case q4=>k_is);(case q5=>k_is);(case q6=>k_is);(case q7=>k_is);(case q8=>k_is))
  (case xc4=>refine' Pr.e_mk ?q1 ?q2 ?q3 ?q4 ?q5 ?q6 ?q7 ?q8;(case q1=>k_is);(case q2=>k_is);(case q3=>k_is);(case q4=>k_is);(case q5=>k_is);(case q6=>k_is);(case q7=>k_is);(case q8=>k_is))
  (case xc5=>refine' Pr.e_mk ?q1 ?q2 ?q3 ?q4 ?q5 ?q6 ?q7 ?q8;(case q1=>k_is);(case q2=>k_is);(case q3=>k_is);(case q4=>k_is);(case q5=>k_is);(case q6=>k_is);(case q7=>k_is);(case q8=>k_is))
  (case xc6=>refine' Pr.e_mk ?q1 ?q2 ?q3 ?q4 ?q5 ?q6 ?q7 ?q8;(case q1=>k_is);(case q2=>k_is);(case q3=>k_is);(case q4=>k_is);(case q5=>k_is);(case q6=>k_is);(case q7=>k_is);(case q8=>k_is))
  (case xc7=>refine' Pr.e_mk ?q1 ?q2 ?q3 ?q4 ?q5 ?q6 ?q7 ?q8;(case q1=>k_is);(case q2=>k_is);(case q3=>k_is);(case q4=>k_is);(case q5=>k_is);(case q6=>k_is);(case q7=>k_is);(case q8=>k_is))
  (case xc8=>refine' Pr.e_mk ?q1 ?q2 ?q3 ?q4 ?q5 ?q6 ?q7 ?q8;(case q1=>k_is);(case q2=>k_is);(case q3=>k_is);(case q4=>k_is);(case q5=>k_is);(case q6=>k_is);(case q7=>k_is);(case q8=>k_is))
  (case xc9=>refine' Pr.e_mk ?q1 ?q2 ?q3 ?q4 ?q5 ?q6 ?q7 ?q8;(case q1=>k_is);(case q2=>k_is);(case q3=>k_is);(case q4=>k_is);(case q5=>k_is);(case q6=>k_is);(case q7=>k_is);(case q8=>k_is))
  (case xc10=>refine' Pr.e_mk ?q1 ?q2 ?q3 ?q4 ?q5 ?q6 ?q7 ?q8;(case q1=>k_is);(case q2=>k_is);(case q3=>k_is);(case q4=>k_is);(case q5=>k_is);(case q6=>k_is);(case q7=>k_is);(case q8=>k_is))
  (case xc11=>refine' Pr.e_mk ?q1 ?q2 ?q3 ?q4 ?q5 ?q6 ?q7 ?q8;(case q1=>k_is);(case q2=>k_is);(case q3=>k_is);(case q4=>k_is);(case q5=>k_is);(case q6=>k_is);(case q7=>k_is);(case q8=>k_is))
  (case xc12=>refine' Pr.e_mk ?q1 ?q2 ?q3 ?q4 ?q5 ?q6 ?q7 ?q8;(case q1=>k_is);(case q2=>k_is);(case q3=>k_is);(case q4=>k_is);(case q5=>k_is);(case q6=>k_is);(case q7=>k_is);(case q8=>k_is))
  (case xc13=>refine' Pr.e_mk ?q1 ?q2 ?q3 ?q4 ?q5 ?q6 ?q7 ?q8;(case q1=>k_is);(case q2=>k_is);(case q3=>k_is);(case q4=>k_is);(case q5=>k_is);(case q6=>k_is);(case q7=>k_is);(case q8=>k_is))
  (case xc14=>refine' Pr.e_mk ?q1 ?q2 ?q3 ?q4 ?q5 ?q6 ?q7 ?q8;(case q1=>k_is);(case q2=>k_is);(case q3=>k_is);(case q4=>k_is);(case q5=>k_is);(case q6=>k_is);(case q7=>k_is);(case q8=>k_is))
  (case xc15=>refine' Pr.e_mk ?q1 ?q2 ?q3 ?q4 ?q5 ?q6 ?q7 ?q8;(case q1=>k_is);(case q2=>k_is);(case q3=>k_is);(case q4=>k_is);(case q5=>k_is);(case q6=>k_is);(case q7=>k_is);(case q8=>k_is))
  (case xc16=>refine' Pr.e_mk ?q1 ?q2 ?q3 ?q4 ?q5 ?q6 ?q7 ?q8;(case q1=>k_is);(case q2=>k_is);(case q3=>k_is);(case q4=>k_is);(case q5=>k_is);(case q6=>k_is);(case q7=>k_is);(case q8=>k_is))
  (case xk=>kernel_rfl)
  all_goals (refine' Pr.d_mk ?qa ?ql ?qc ?qk;(case qa=>k_is);(case ql=>k_is);(case qc=>k_is);(case qk=>k_is))
