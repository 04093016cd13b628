import PyProof.Rows.All
import Wide.All
import OpenK.AllK
import Wide.FinOn
import Lean
import PyProof.EqAt
import PyProof.EqKinds
import PyProof.TupleCall
import Open.Row
import PySem.SetOps
import PyProof.SetRoads
import PyProof.Rows.SetFrom
import PyProof.FactsAll.subtypes_4
import PyProof.WalksMore
import OpenK.KOwn
import PyProof.NeData
import PyProof.ReprRoads
import PyProof.WalksEnum
import PyProof.EnumMake
import PyProof.Rows.EnumRows
import KE.KTryMore
import KE.KIntText
import KE.KDictList
import PyProof.ConsumeS
import PyProof.ListRange
import PyProof.ListMulRoad
import PyProof.CompUse
import PyProof.CompFree
import PyProof.DictUpdate
import PyProof.Rows.TupDisplay
import PyProof.DictWalks
import PyProof.TupleOfGen
import KE.BitLaws
import PyProof.StrLawsChain
import PyProof.Draws
import KE.KxText
import PySem.Challenge.RW_quarterfold_k26_squares_taken_and_put
set_option Elab.async false
set_option linter.all false
set_option maxRecDepth 100000
set_option maxHeartbeats 8000000
def Za:=@PySem.wpAny_bind
def Zb:=@List.getElem?_eq_getElem
def Zc:=@PySem.Heap.get?_push_of_some
def Zd:=@Nat.le_refl
def Ze:=@List.mem_cons_of_mem
def Zf:=@PySem.wpAny_pure
def Zg:=@List.getElem?_map
def Zh:=@List.mem_cons_self
def Zi:=@List.length_map
def Zj:=@decide_eq_true
def Zk:=@PySem.Heap.get?_push_size
def Zl:=@PySem.Heap.lt_size
def Zm:=@if_neg
def Zn:=@PySem.W.mg_of
def Zo:=@List.getElem?_append_left
def Zp:=@decide_eq_false
def Zq:=@of_decide_eq_true
def Zr:=@Option.map_eq_some_iff
def Zs:=@List.mem_of_getElem?
def Zt:=@if_pos
def Zu:=@List.length_append
def Zv:=@List.getElem?_append_right
def Zw:=@Option.some.inj
def Zx:=@Nat.ne_of_lt
def Zy:=@List.length_cons
def Zz:=@List.map_cons
def ZA:=@PyProof.Rows.boot_isinstance
def ZB:=@Nat.zero_le
def ZC:=@List.mem_cons
def ZD:=@Bool.false_ne_true
def ZE:=@Nat.le_trans
def ZF:=@Array.getElem?_eq_some_iff
def ZG:=@List.getD_eq_getElem?_getD
def ZH:=@PyProof.Rows.boot_tuple
def ZI:=@List.size_toArray
def ZJ:=@List.mem_iff_getElem
def ZK:=@PySem.Heap.get?_update_other
def ZL:=@Bool.false_eq_true
def ZM:=@PySem.boot_len
def ZN:=@List.mem_append_right
def ZO:=@Nat.le_add_right
def ZP:=@Array.getElem?_eq_getElem
def ZQ:=@Nat.lt_of_lt_of_le
def ZR:=@List.map_append
def ZS:=@List.length_take
def ZT:=@Nat.le_of_lt
def ZU:=@PySem.wpAny_newObj_type
def ZV:=@List.filterMap_cons
def ZW:=@List.mem_range
def ZX:=@PySem.wpAny_callSpecial?_slot
def ZY:=@PySem.F.plainAttrs_list
def ZZ:=@Array.length_toList
def Z0:=@Ne.symm
def Z1:=@List.mem_append
def Z2:=@Nat.lt_succ_self
def Z3:=@List.foldl_cons
def Z4:=@PySem.wpAny_field
def Z5:=@Int.toNat_natCast
def Z6:=@Nat.mul_le_mul_right
def Z7:=@PySem.F.slot_list_append
def Z8:=@PySem.F.type_list_append
def Z9:=@PySem.mem_of_lookup
def Yb:=@List.any_eq_true
def Yc:=@Nat.mul_assoc
def Ye:=@Bool.and_eq_true_iff
def Yg:=@Nat.lt_of_le_of_lt
def Yh:=@Nat.pow_succ
def Yi:=@congrArg
def Yj:=@Nat.not_lt_zero
def Yk:=@Nat.lt_irrefl
def Ym:=@List.all_eq_true
def Yn:=@Nat.mul_comm
def Yo:=@List.mem_map
def Yp:=@PySem.Heap.size_push
def Yq:=@if_false
def Yr:=@PySem.Obj.data_mapFields
def Ys:=@Nat.lt_of_mul_lt_mul_right
def Yt:=@Array.size_map
def Yu:=@PySem.wpAny_holding
def Yv:=@PySem.W.kia_one
def Yw:=@List.lookup_cons
def Yx:=@Nat.div_eq_of_lt
def Yy:=@Nat.succ_mul
def Yz:=@beq_eq_false_iff_ne
def YA:=@PySem.wpAny_mono
def YB:=@List.map_congr_left
def YC:=@PyProof.Rows.F.plain_set_update_loop
def YD:=@Nat.lt_succ_of_lt
def YE:=@Bool.eq_false_iff
def YF:=@List.append_assoc
def YG:=@PySem.Heap.get?_update_self
def YH:=@List.getElem?_eq_none
def YI:=@Bool.eq_iff_iff
def YJ:=@List.nodup_cons
def YK:=@PySem.F.slot_dict_keyiterator_next
def YL:=@of_decide_eq_false
def YM:=@PySem.wpAny_call_entry
def YN:=@Bool.and_eq_true
def YO:=@List.getElem_mem
def YQ:=@PySem.wpAny_truthy_bool
def YR:=@PySem.wpAny_setState_of
def YS:=@PySem.PassesOwn.never
def YT:=@List.take_length
def YU:=@forall_congr'
def YV:=@List.mem_append_left
def YW:=@PySem.wpAny_setField
def YX:=@PySem.wpAny_typeNameOfWhole_keyiter
def YY:=@Nat.pow_pos
def YZ:=@Nat.two_pow_pos
def Y0:=@PySem.codeAny_builtin
def Y1:=@List.cons.injEq
def Y2:=@Array.getElem?_setIfInBounds
def Y3:=@PySem.Heap.SameBut.update
def Y4:=@List.getElem?_range
def Y5:=@List.map_map
def Y6:=@List.any_cons
def Y7:=@List.filter_cons
def Y8:=@Nat.mod_lt
def Y9:=@PySem.F.slot_tuple_iterator_next
def Xa:=@Array.getElem?_map
def Xb:=@Array.getElem?_toList
def Xc:=@PySem.Obj.isFreed_of_fields
def Xd:=@PyProof.Rows.boot_int
def Xe:=@PyProof.Rows.boot_max
def Xf:=@PyProof.Rows.boot_all
def Xg:=@PyProof.Rows.boot_min
def Xh:=@List.mem_filter
def Xi:=@List.range_succ
def Xj:=@PySem.sizeLine_eq
def Xk:=@Nat.lt_trans
def Xl:=@Nat.add_mul
def Xm:=@Nat.le_of_lt_succ
def Xn:=@PySem.lookup_relabel_local
def Xo:=@PySem.Around.under_plainId
def Xp:=@Option.isSome_iff_exists
def Xq:=@List.take_append_getElem
def Xr:=@PySem.wpAny_typeNameOf_keyiter
def Xs:=@PyProof.Rows.slot_tuple_getitem
def Xu:=@if_true
def Xv:=@List.replicate_succ
def Xw:=@List.getD_cons_zero
def Xx:=@List.getD_cons_succ
def Xy:=@List.getElem?_replicate
def Xz:=@Nat.max_eq_right
def XA:=@List.length_eq_zero_iff
def XB:=@beq_iff_eq
def XC:=@PySem.wpAny_Call_Name_kw
def XD:=@Int.emod_lt_of_pos
def XE:=@PySem.wpAny_setField_rec
def XG:=@Array.getElem?_eq_none
def XH:=@PyProof.Rows.boot_repr
def XI:=@List.find?_cons
def XJ:=@Nat.div_add_mod
def XM:=@PySem.wpAny_ite_split
def XN:=@List.take_append_drop
def XO:=@List.length_replicate
def XQ:=@PySem.F.slot_enumerate_next
def XR:=@List.length_filter_le
def XS:=@PySem.wpAny_pyIter_list
def XU:=@PyProof.Rows.callWith_type1
def XV:=@List.length_range
def XW:=@List.idxOf_lt_length_of_mem
def XX:=@Nat.pow_add
def XY:=@List.take_succ
def XZ:=@Nat.ne_of_gt
def X6:=@PySem.codeAny_mono
def X7:=@List.map_nil
def X8:=@Nat.zero_add
def X9:=@PyProof.Rows.F.entry_set_update_loop
def Wa:=@Nat.div_mul_le_self
def Wb:=@Array.size_setIfInBounds
def Wc:=@PySem.wpAny_attempt
def Wd:=@PySem.AutoSeq1.wpAny_loadPart'
def We:=@List.sum_cons
def Wf:=@PySem.wpAny_passesOwn
def Wg:=@List.append_nil
def Wh:=@Int.emod_nonneg
def Wi:=@Nat.max_eq_left
def Wj:=@Nat.mul_add_div
def Wk:=@PySem.W.of_hideAll
def Wl:=@PySem.wpAny_pyIter_tuple
def Wm:=@List.mem_filterMap
def Wn:=@PySem.tupleKind_room_in1
def Wo:=@Nat.mul_add
def Wp:=@List.getElem?_set_self
def Wq:=@PySem.W.cellsFrom_some
def Wr:=@Nat.div_div_eq_div_mul
def Ws:=@PySem.Obj.cls_mapFields
def Wt:=@List.nodup_append
def Wu:=@List.ext_getElem?
def Wv:=@PyProof.Rows.boot_list
def Ww:=@Nat.lt_trichotomy
def Wx:=@PySem.wpAny_dictEntries
def Wy:=@List.take_of_length_le
def Wz:=@PySem.F.plainAttrs_str
def WA:=@PySem.wpAny_isOneOf_keyiter
def WB:=@Nat.add_sub_add_right
def WC:=@List.getElem?_toArray
def WD:=@Nat.min_eq_right
def WE:=@PySem.Paired.length
def WF:=@Bool.not_true
def WG:=@Sum.inl.inj
def WH:=@List.getElem?_set_ne
def WI:=@PySem.codeAny_call_builtin
def WJ:=@List.mem_of_mem_take
def WK:=@Nat.pow_le_pow_right
def WL:=@List.getElem?_zipIdx
def WM:=@PySem.wpAny_execs_nil
def WN:=@List.of_mem_zip
def WO:=@Option.map_some
def WP:=@and_congr_right
def WQ:=@Bool.or_eq_true
def WR:=@PySem.W.hideAll_get
def WS:=@PySem.W.plainGet_of
def WT:=@Array.getElem?_push
def WU:=@List.length_pos_iff
def WV:=@List.IsPrefix.trans
def WW:=@Nat.mul_le_mul_left
def WX:=@Nat.le_of_eq
def WY:=@Nat.succ_pos
def WZ:=@Int.zero_add
def W0:=@PySem.W.callWith_K
def W1:=@List.nodup_nil
def W2:=@Array.toList_setIfInBounds
def W3:=@Array.foldl_toList
def W4:=@PySem.wpAny_seqItems
def W5:=@Nat.add_sub_cancel
def W6:=@List.prefix_append
def W7:=@List.filter_append
def W8:=@List.map_inj_right
def W9:=@PySem.wpAny_fieldsOf
def Va:=@Bool.and_false
def Vb:=@List.pairwise_iff_getElem
def Vc:=@List.any_eq_false
def Vd:=@Option.isSome_map
def Ve:=@Nat.mul_left_comm
def Vf:=@List.foldl_append
def Vg:=@List.idxOf_append
def Vh:=@decide_eq_true_eq
def Vi:=@PySem.plainId_quiet
def Vj:=@Bool.and_self
def Vk:=@List.length_drop
def Vl:=@Nat.le_of_not_lt
def Vm:=@beq_self_eq_true
def Vn:=@Nat.le_max_right
def Vo:=@and_true
def Vp:=@Nat.le_of_not_le
def Vq:=@List.not_mem_nil
def Vr:=@Nat.sub_self
def Vs:=@bind_congr
def Vt:=@List.all_map
def Vu:=@List.forIn_cons
def Vv:=@List.length_nil
def Vw:=@Nat.le_antisymm
def Vx:=@Nat.le_max_left
def Vy:=@Nat.min_eq_left
def Vz:=@Bool.false_and
def VA:=@Bool.not_false
def VB:=@Nat.max_le
def VC:=@Nat.le_min
theorem gS_{α:Type}{l:List α}{i:Nat}{a:α}(h:l[i]?=some a):∃h:i<l.length,l[i]=a:=List.getElem?_eq_some_iff.mp h
namespace L2
open PySem
def qg9 (s:Stmt) (j:Nat):Stmt:=match s with
 |.ClassDef _ _ _ body _ _ _ _ _ _ _=>body.getD j (.Pass ⟨0,0,0,0⟩)
 |_=>.Pass ⟨0,0,0,0⟩
def qh6 (s:Stmt):Arguments:=match s with
 |.FunctionDef _ a _ _ _ _ _ _ _ _=>a
 |_=>{ posonlyargs:=[],args:=[],vararg:=none,kwonlyargs:=[],kw_defaults:=[],kwarg:=none,defaults:=[] }
def qf6 (s:Stmt):List Stmt:=match s with
 |.FunctionDef _ _ b _ _ _ _ _ _ _=>b
 |_=>[]
def qa3 (s:Stmt):Scope:=match s with
 |.FunctionDef _ _ _ _ _ _ sc _ _ _=>sc
 |_=>{ kind:=.function,names:=[],isGenerator:=false,isCoroutine:=false }
end L2
namespace Pr
open PySem
def top (i:Nat):Stmt:=PySem.Challenge.pw_quarterfold_k26_squares_taken_and_put.main.body.getD i (.Pass ⟨0,0,0,0⟩)
end Pr
namespace Hd
open PySem PySem.W
abbrev pw:Program:=PySem.Challenge.pw_quarterfold_k26_squares_taken_and_put
abbrev u0_:Value:=.str "quarterfold.rows" 287
abbrev u1_:Value:=.str "law_quarterfold_k26_squares_taken_and_put" 531
abbrev u2_:Value:=.str "quarterfold.tellings" 443
def kh (P:Params) (x:Str):Int:=PySem.PyData.keyHash P x
def oM (n q:Str) (st:Stmt) (m:Value) (c:Nat):Obj:=⟨.type "function",none,.func (fnOf n q (L2.qh6 st) (L2.qf6 st) (L2.qa3 st) .none .none .none m none (.ref c) .none),#[]⟩
def oF (n:Str) (st:Stmt) (m:Value) (c:Nat):Obj:=⟨.type "function",none,.func (fnOf n n (L2.qh6 st) (L2.qf6 st) (L2.qa3 st) .none .none .none m none (.ref c) .none),#[]⟩
def oT (n q:Str) (st:Stmt):Obj:=⟨.none,none,.func { fnOf n q (L2.qh6 st) (L2.qf6 st) (L2.qa3 st) .none .none .none .none none .none .none with globals:=0 },#[]⟩
def oC (n q:Str) (t1 t2 t3 l a r1 r2:Nat) (y z:Value) (r6 k t5:Nat):Obj:=⟨.type "code",none,.fields #[.str n t1,.str q t2,.str "/claim/cut.py" t3,.int l 0,.int a 0,.int 0 0,.int 0 0,.int 3 0,.ref r1,.bool true,.int 181 0,.ref r2,.none,y,z,.ref r6,.int k 0,.int l 0,.str "/claim/cut.py" t5],#[]⟩
abbrev e0_:PySem.Obj:=⟨.type "tuple",none,(.seq #[] 0),#[]⟩
abbrev e1_:PySem.Obj:=⟨.none,none,(.fields #[]),#[]⟩
abbrev e2_ (a:Array PySem.Value):PySem.Obj:=⟨.type "tuple",none,(.seq a 0),#[]⟩
abbrev e3_ (P:Params) (x:Str) (n:Tok) (v:Value):DictEntry:=⟨kh P x,.str x n,v⟩
def K0 (P:Params):Frag:=
(nat_lit 2,⟨.none,none,(.dict #[] 0),#[]⟩) ::
(nat_lit 3,⟨.type "dict",none,(.dict #[e3_ P "__name__" 165 (.str "law_quarterfold_k26_squares_taken_and_put" 531),e3_ P "__doc__" 166 .none,e3_ P "__package__" 167 .none,e3_ P "__loader__" 168 (.builtin "__main__.__loader__#opaque"),e3_ P "__spec__" 169 .none,e3_ P "__annotations__" 170 (.ref 6),e3_ P "__builtins__" 171 (.ref 4),e3_ P "__file__" 173 (.str "/claim/cut.py" 172),e3_ P "__cached__" 174 .none,e3_ P "FloorError" 206 (.ref 24),e3_ P "NoFloor" 222 (.ref 37),e3_ P "NoAddress" 238 (.ref 49),e3_ P "NoCell" 254 (.ref 61),e3_ P "NoShape" 270 (.ref 73),e3_ P "OtherFloor" 286 (.ref 85),e3_ P "EMPTY" 290 (.int 0 289),e3_ P "FULL" 292 (.int 1 291),e3_ P "FIRST" 294 (.int 2 293),e3_ P "is_whole" 301 (.ref 94),e3_ P "is_plain" 308 (.ref 101),e3_ P "quarters_of" 316 (.ref 108),e3_ P "number_at" 327 (.ref 115),e3_ P "depths_of" 333 (.ref 120),e3_ P "end_rows" 343 (.ref 127),e3_ P "places_as_ended" 352 (.ref 134),e3_ P "renumbered" 358 (.ref 139),e3_ P "shape_of" 370 (.ref 146),e3_ P "Book" 417 (.ref 177),e3_ P "GREATEST_SIZE" 421 (.int 12 420),e3_ P "is_size" 428 (.ref 188),e3_ P "is_address" 434 (.ref 193),e3_ P "want_address" 442 (.ref 200),e3_ P "is_number" 452 (.ref 207),e3_ P "is_row" 458 (.ref 212),e3_ P "are_rows" 464 (.ref 217),e3_ P "is_telling" 474 (.ref 224),e3_ P "is_shape" 480 (.ref 229),e3_ P "want_shape" 487 (.ref 236),e3_ P "square_at" 500 (.ref 243),e3_ P "put_in" 512 (.ref 250),e3_ P "with_square" 530 (.ref 257),e3_ P "_law_pot" 541 (.ref 264),e3_ P "_law_digit" 550 (.ref 271),e3_ P "_law_cells" 556 (.ref 276),e3_ P "_law_box" 571 (.ref 283),e3_ P "_law_boxes" 577 (.ref 288),e3_ P "_law_meets" 587 (.ref 295),e3_ P "_law_has" 597 (.ref 302),e3_ P "_law_number" 603 (.ref 307),e3_ P "_law_shape" 613 (.ref 314),e3_ P "_law_address" 619 (.ref 319),e3_ P "_law_square" 630 (.ref 326),e3_ P "_law_left_there" 651 (.ref 333),e3_ P "_law_kept" 659 (.ref 340),e3_ P "_law_taken" 665 (.ref 345),e3_ P "_law_mixed" 680 (.ref 352),e3_ P "_law_put_together" 691 (.ref 359),e3_ P "_law_apart" 697 (.ref 364),e3_ P "_law_odd_shape" 705 (.ref 371),e3_ P "_law_odd_address" 714 (.ref 378),e3_ P "_law_word" 722 (.ref 385),e3_ P "_law_at" 732 (.ref 392),e3_ P "_law_with" 743 (.ref 399),e3_ P "_law_refused" 757 (.ref 406),e3_ P "law" 774 (.ref 413)] 65),#[]⟩) ::
(nat_lit 15,(e2_ #[.type "ValueError"])) ::
(nat_lit 22,e0_) ::
(nat_lit 23,⟨.type "dict",none,(.dict #[e3_ P "__module__" 196 (.str "quarterfold.errors" 187),e3_ P "__firstlineno__" 200 (.int 2 199),e3_ P "__static_attributes__" 201 (.ref 22),e3_ P "__weakref__" 203 (.ref 25),e3_ P "__doc__" 204 .none] 3),#[]⟩) ::
(nat_lit 24,⟨.type "type",none,(.cls ⟨"FloorError",[.type "ValueError"],[.ref 24,.type "ValueError",.type "Exception",.type "BaseException",.type "object"],23, "FloorError",true,[],[.ref 37,.ref 49,.ref 61,.ref 73,.ref 85],false,none,false⟩),#[some (.ref 15),none,some (.str "FloorError" 189),some (.str "FloorError" 197),some (.builtin "ValueError.__new__"),some (.bool true)]⟩) ::
(nat_lit 25,⟨.type "getset_descriptor",none,(.fields #[.str "__weakref__" 202,.ref 24,.builtin "ExceptionGroup.__weakref__",.none]),#[]⟩) ::
(nat_lit 28,(e2_ #[.ref 24])) ::
(nat_lit 35,e0_) ::
(nat_lit 36,⟨.type "dict",none,(.dict #[e3_ P "__module__" 214 (.str "quarterfold.errors" 187),e3_ P "__firstlineno__" 218 (.int 4 217),e3_ P "__static_attributes__" 219 (.ref 35),e3_ P "__doc__" 220 .none] 2),#[]⟩) ::
(nat_lit 37,⟨.type "type",none,(.cls ⟨"NoFloor",[.ref 24],[.ref 37,.ref 24,.type "ValueError",.type "Exception",.type "BaseException",.type "object"],36, "NoFloor",true,[],[],false,none,false⟩),#[some (.ref 28),none,some (.str "NoFloor" 207),some (.str "NoFloor" 215),some (.builtin "ValueError.__new__"),some (.bool true)]⟩) ::
(nat_lit 40,(e2_ #[.ref 24])) ::
(nat_lit 47,e0_) ::
(nat_lit 48,⟨.type "dict",none,(.dict #[e3_ P "__module__" 230 (.str "quarterfold.errors" 187),e3_ P "__firstlineno__" 234 (.int 6 233),e3_ P "__static_attributes__" 235 (.ref 47),e3_ P "__doc__" 236 .none] 2),#[]⟩) ::
(nat_lit 49,⟨.type "type",none,(.cls ⟨"NoAddress",[.ref 24],[.ref 49,.ref 24,.type "ValueError",.type "Exception",.type "BaseException",.type "object"],48, "NoAddress",true,[],[],false,none,false⟩),#[some (.ref 40),none,some (.str "NoAddress" 223),some (.str "NoAddress" 231),some (.builtin "ValueError.__new__"),some (.bool true)]⟩) ::
(nat_lit 52,(e2_ #[.ref 24])) ::
(nat_lit 59,e0_) ::
(nat_lit 60,⟨.type "dict",none,(.dict #[e3_ P "__module__" 246 (.str "quarterfold.errors" 187),e3_ P "__firstlineno__" 250 (.int 8 249),e3_ P "__static_attributes__" 251 (.ref 59),e3_ P "__doc__" 252 .none] 2),#[]⟩) ::
(nat_lit 61,⟨.type "type",none,(.cls ⟨"NoCell",[.ref 24],[.ref 61,.ref 24,.type "ValueError",.type "Exception",.type "BaseException",.type "object"],60, "NoCell",true,[],[],false,none,false⟩),#[some (.ref 52),none,some (.str "NoCell" 239),some (.str "NoCell" 247),some (.builtin "ValueError.__new__"),some (.bool true)]⟩) ::
(nat_lit 64,(e2_ #[.ref 24])) ::
(nat_lit 71,e0_) ::
(nat_lit 72,⟨.type "dict",none,(.dict #[e3_ P "__module__" 262 (.str "quarterfold.errors" 187),e3_ P "__firstlineno__" 266 (.int 10 265),e3_ P "__static_attributes__" 267 (.ref 71),e3_ P "__doc__" 268 .none] 2),#[]⟩) ::
(nat_lit 73,⟨.type "type",none,(.cls ⟨"NoShape",[.ref 24],[.ref 73,.ref 24,.type "ValueError",.type "Exception",.type "BaseException",.type "object"],72, "NoShape",true,[],[],false,none,false⟩),#[some (.ref 64),none,some (.str "NoShape" 255),some (.str "NoShape" 263),some (.builtin "ValueError.__new__"),some (.bool true)]⟩) ::
(nat_lit 76,(e2_ #[.ref 24])) ::
(nat_lit 83,e0_) ::
(nat_lit 84,⟨.type "dict",none,(.dict #[e3_ P "__module__" 278 (.str "quarterfold.errors" 187),e3_ P "__firstlineno__" 282 (.int 12 281),e3_ P "__static_attributes__" 283 (.ref 83),e3_ P "__doc__" 284 .none] 2),#[]⟩) ::
(nat_lit 85,⟨.type "type",none,(.cls ⟨"OtherFloor",[.ref 24],[.ref 85,.ref 24,.type "ValueError",.type "Exception",.type "BaseException",.type "object"],84, "OtherFloor",true,[],[],false,none,false⟩),#[some (.ref 76),none,some (.str "OtherFloor" 271),some (.str "OtherFloor" 279),some (.builtin "ValueError.__new__"),some (.bool true)]⟩) ::
(nat_lit 88,e0_) ::
(nat_lit 90,(e2_ #[.str "thing" 298])) ::
(nat_lit 91,e0_) ::
(nat_lit 93,oC "is_whole" "is_whole" 295 296 297 18 1 88 89 (.ref 90) (.ref 91) 92 299 300) ::
(nat_lit 94,oF "is_whole" (Pr.top 11) u0_ 93) ::
(nat_lit 95,e0_) ::
(nat_lit 97,(e2_ #[.str "row" 305])) ::
(nat_lit 98,e0_) ::
(nat_lit 100,oC "is_plain" "is_plain" 302 303 304 20 1 95 96 (.ref 97) (.ref 98) 99 306 307) ::
(nat_lit 101,oF "is_plain" (Pr.top 12) u0_ 100) ::
(nat_lit 102,e0_) ::
(nat_lit 104,(e2_ #[.str "rows" 312,.str "number" 313])) ::
(nat_lit 105,e0_) ::
(nat_lit 107,oC "quarters_of" "quarters_of" 309 310 311 22 2 102 103 (.ref 104) (.ref 105) 106 314 315) ::
(nat_lit 108,oF "quarters_of" (Pr.top 13) u0_ 107) ::
(nat_lit 109,e0_) ::
(nat_lit 111,(e2_ #[.str "rows" 320,.str "top" 321,.str "address" 322,.str "number" 323,.str "figure" 324])) ::
(nat_lit 112,e0_) ::
(nat_lit 114,oC "number_at" "number_at" 317 318 319 26 3 109 110 (.ref 111) (.ref 112) 113 325 326) ::
(nat_lit 115,oF "number_at" (Pr.top 14) u0_ 114) ::
(nat_lit 116,e0_) ::
(nat_lit 119,oC "depths_of" "depths_of" 328 329 330 31 1 116 117 .none .none 118 331 332) ::
(nat_lit 120,oF "depths_of" (Pr.top 15) u0_ 119) ::
(nat_lit 121,e0_) ::
(nat_lit 123,(e2_ #[.str "rows" 337,.str "number" 338,.str "ended" 339,.str "quarter" 340])) ::
(nat_lit 124,e0_) ::
(nat_lit 126,oC "end_rows" "end_rows" 334 335 336 36 3 121 122 (.ref 123) (.ref 124) 125 341 342) ::
(nat_lit 127,oF "end_rows" (Pr.top 16) u0_ 126) ::
(nat_lit 128,e0_) ::
(nat_lit 130,(e2_ #[.str "rows" 347,.str "top" 348,.str "ended" 349])) ::
(nat_lit 131,e0_) ::
(nat_lit 133,oC "places_as_ended" "places_as_ended" 344 345 346 42 2 128 129 (.ref 130) (.ref 131) 132 350 351) ::
(nat_lit 134,oF "places_as_ended" (Pr.top 17) u0_ 133) ::
(nat_lit 135,e0_) ::
(nat_lit 138,oC "renumbered" "renumbered" 353 354 355 46 2 135 136 .none .none 137 356 357) ::
(nat_lit 139,oF "renumbered" (Pr.top 18) u0_ 138) ::
(nat_lit 140,e0_) ::
(nat_lit 142,(e2_ #[.str "n" 362,.str "top" 363,.str "rows" 364,.str "numbers" 365,.str "told" 366,.str "place" 367])) ::
(nat_lit 143,e0_) ::
(nat_lit 145,oC "shape_of" "shape_of" 359 360 361 48 3 140 141 (.ref 142) (.ref 143) 144 368 369) ::
(nat_lit 146,oF "shape_of" (Pr.top 19) u0_ 145) ::
(nat_lit 154,e0_) ::
(nat_lit 156,(e2_ #[.str "self" 386])) ::
(nat_lit 157,e0_) ::
(nat_lit 159,oC "__init__" "Book.__init__" 383 384 385 57 1 154 155 (.ref 156) (.ref 157) 158 387 388) ::
(nat_lit 160,oM "__init__" "Book.__init__" (L2.qg9 (Pr.top 20) 0) u0_ 159) ::
(nat_lit 161,e0_) ::
(nat_lit 163,(e2_ #[.str "self" 393,.str "row" 394])) ::
(nat_lit 164,e0_) ::
(nat_lit 166,oC "number_for" "Book.number_for" 390 391 392 61 2 161 162 (.ref 163) (.ref 164) 165 395 396) ::
(nat_lit 167,oM "number_for" "Book.number_for" (L2.qg9 (Pr.top 20) 1) u0_ 166) ::
(nat_lit 168,e0_) ::
(nat_lit 170,(e2_ #[.str "self" 401,.str "rows" 402,.str "numbers" 403,.str "row" 404])) ::
(nat_lit 171,e0_) ::
(nat_lit 173,oC "numbers_for" "Book.numbers_for" 398 399 400 69 2 168 169 (.ref 170) (.ref 171) 172 405 406) ::
(nat_lit 174,oM "numbers_for" "Book.numbers_for" (L2.qg9 (Pr.top 20) 2) u0_ 173) ::
(nat_lit 175,(e2_ #[.str "kept" 408,.str "numbers" 409])) ::
(nat_lit 176,⟨.type "dict",none,(.dict #[e3_ P "__module__" 378 (.str "quarterfold.rows" 287),e3_ P "__firstlineno__" 382 (.int 55 381),e3_ P "__init__" 389 (.ref 160),e3_ P "number_for" 397 (.ref 167),e3_ P "numbers_for" 407 (.ref 174),e3_ P "__static_attributes__" 410 (.ref 175),e3_ P "__dict__" 412 (.ref 178),e3_ P "__weakref__" 414 (.ref 179),e3_ P "__doc__" 415 .none] 4),#[]⟩) ::
(nat_lit 177,⟨.type "type",none,(.cls ⟨"Book",[.type "object"],[.ref 177,.type "object"],176, "Book",true,[],[],false,none,false⟩),#[none,none,some (.str "Book" 371),some (.str "Book" 379),some (.builtin "object.__new__"),some (.bool true)]⟩) ::
(nat_lit 178,⟨.type "getset_descriptor",none,(.fields #[.str "__dict__" 411,.ref 177,.builtin "function.__dict__",.builtin "function.__dict__#set"]),#[]⟩) ::
(nat_lit 179,⟨.type "getset_descriptor",none,(.fields #[.str "__weakref__" 413,.ref 177,.builtin "ExceptionGroup.__weakref__",.none]),#[]⟩) ::
(nat_lit 182,e0_) ::
(nat_lit 184,(e2_ #[.str "thing" 425])) ::
(nat_lit 185,e0_) ::
(nat_lit 187,oC "is_size" "is_size" 422 423 424 76 1 182 183 (.ref 184) (.ref 185) 186 426 427) ::
(nat_lit 188,oF "is_size" (Pr.top 23) (.str "quarterfold.floors" 418) 187) ::
(nat_lit 189,e0_) ::
(nat_lit 192,oC "is_address" "is_address" 429 430 431 78 2 189 190 .none .none 191 432 433) ::
(nat_lit 193,oF "is_address" (Pr.top 24) (.str "quarterfold.floors" 418) 192) ::
(nat_lit 194,e0_) ::
(nat_lit 196,(e2_ #[.str "n" 438,.str "address" 439])) ::
(nat_lit 197,e0_) ::
(nat_lit 199,oC "want_address" "want_address" 435 436 437 80 2 194 195 (.ref 196) (.ref 197) 198 440 441) ::
(nat_lit 200,oF "want_address" (Pr.top 25) (.str "quarterfold.floors" 418) 199) ::
(nat_lit 201,e0_) ::
(nat_lit 203,(e2_ #[.str "thing" 448,.str "many" 449])) ::
(nat_lit 204,e0_) ::
(nat_lit 206,oC "is_number" "is_number" 445 446 447 84 2 201 202 (.ref 203) (.ref 204) 205 450 451) ::
(nat_lit 207,oF "is_number" (Pr.top 27) u2_ 206) ::
(nat_lit 208,e0_) ::
(nat_lit 211,oC "is_row" "is_row" 453 454 455 86 2 208 209 .none .none 210 456 457) ::
(nat_lit 212,oF "is_row" (Pr.top 28) u2_ 211) ::
(nat_lit 213,e0_) ::
(nat_lit 216,oC "are_rows" "are_rows" 459 460 461 90 1 213 214 .none .none 215 462 463) ::
(nat_lit 217,oF "are_rows" (Pr.top 29) u2_ 216) ::
(nat_lit 218,e0_) ::
(nat_lit 220,(e2_ #[.str "thing" 468,.str "n" 469,.str "top" 470,.str "rows" 471])) ::
(nat_lit 221,e0_) ::
(nat_lit 223,oC "is_telling" "is_telling" 465 466 467 92 1 218 219 (.ref 220) (.ref 221) 222 472 473) ::
(nat_lit 224,oF "is_telling" (Pr.top 30) u2_ 223) ::
(nat_lit 225,e0_) ::
(nat_lit 228,oC "is_shape" "is_shape" 475 476 477 99 1 225 226 .none .none 227 478 479) ::
(nat_lit 229,oF "is_shape" (Pr.top 31) u2_ 228) ::
(nat_lit 230,e0_) ::
(nat_lit 232,(e2_ #[.str "shape" 484])) ::
(nat_lit 233,e0_) ::
(nat_lit 235,oC "want_shape" "want_shape" 481 482 483 106 1 230 231 (.ref 232) (.ref 233) 234 485 486) ::
(nat_lit 236,oF "want_shape" (Pr.top 32) u2_ 235) ::
(nat_lit 237,e0_) ::
(nat_lit 239,(e2_ #[.str "shape" 493,.str "address" 494,.str "n" 495,.str "top" 496,.str "rows" 497])) ::
(nat_lit 240,e0_) ::
(nat_lit 242,oC "square_at" "square_at" 490 491 492 110 2 237 238 (.ref 239) (.ref 240) 241 498 499) ::
(nat_lit 243,oF "square_at" (Pr.top 34) (.str "quarterfold.made" 488) 242) ::
(nat_lit 244,e0_) ::
(nat_lit 246,(e2_ #[.str "book" 504,.str "number" 505,.str "address" 506,.str "new" 507,.str "quarters" 508,.str "at" 509])) ::
(nat_lit 247,e0_) ::
(nat_lit 249,oC "put_in" "put_in" 501 502 503 115 4 244 245 (.ref 246) (.ref 247) 248 510 511) ::
(nat_lit 250,oF "put_in" (Pr.top 35) (.str "quarterfold.made" 488) 249) ::
(nat_lit 251,e0_) ::
(nat_lit 253,(e2_ #[.str "shape" 516,.str "address" 517,.str "other" 518,.str "n" 519,.str "top" 520,.str "rows" 521,.str "size" 522,.str "other_top" 523,.str "other_rows" 524,.str "book" 525,.str "numbers" 526,.str "other_numbers" 527])) ::
(nat_lit 254,e0_) ::
(nat_lit 256,oC "with_square" "with_square" 513 514 515 122 3 251 252 (.ref 253) (.ref 254) 255 528 529) ::
(nat_lit 257,oF "with_square" (Pr.top 36) (.str "quarterfold.made" 488) 256) ::
(nat_lit 258,e0_) ::
(nat_lit 260,(e2_ #[.str "_law_script" 536,.str "_law_k" 537,.str "_law_cell" 538])) ::
(nat_lit 261,e0_) ::
(nat_lit 263,oC "_law_pot" "_law_pot" 533 534 535 135 2 258 259 (.ref 260) (.ref 261) 262 539 540) ::
(nat_lit 264,oF "_law_pot" (Pr.top 38) u1_ 263) ::
(nat_lit 265,e0_) ::
(nat_lit 267,(e2_ #[.str "_law_pot_here" 545,.str "_law_many" 546,.str "_law_digit_here" 547])) ::
(nat_lit 268,e0_) ::
(nat_lit 270,oC "_law_digit" "_law_digit" 542 543 544 140 2 265 266 (.ref 267) (.ref 268) 269 548 549) ::
(nat_lit 271,oF "_law_digit" (Pr.top 39) u1_ 270) ::
(nat_lit 272,e0_) ::
(nat_lit 275,oC "_law_cells" "_law_cells" 551 552 553 147 2 272 273 .none .none 274 554 555) ::
(nat_lit 276,oF "_law_cells" (Pr.top 40) u1_ 275) ::
(nat_lit 277,e0_) ::
(nat_lit 279,(e2_ #[.str "_law_pot_here" 560,.str "_law_n" 561,.str "_law_most" 562,.str "_law_side" 563,.str "_law_size" 564,.str "_law_row" 565,.str "_law_column" 566,.str "_law_high" 567,.str "_law_wide" 568])) ::
(nat_lit 280,e0_) ::
(nat_lit 282,oC "_law_box" "_law_box" 557 558 559 150 3 277 278 (.ref 279) (.ref 280) 281 569 570) ::
(nat_lit 283,oF "_law_box" (Pr.top 41) u1_ 282) ::
(nat_lit 284,e0_) ::
(nat_lit 287,oC "_law_boxes" "_law_boxes" 572 573 574 162 2 284 285 .none .none 286 575 576) ::
(nat_lit 288,oF "_law_boxes" (Pr.top 42) u1_ 287) ::
(nat_lit 289,e0_) ::
(nat_lit 291,(e2_ #[.str "_law_box_here" 581,.str "_law_row" 582,.str "_law_column" 583,.str "_law_side" 584])) ::
(nat_lit 292,e0_) ::
(nat_lit 294,oC "_law_meets" "_law_meets" 578 579 580 166 4 289 290 (.ref 291) (.ref 292) 293 585 586) ::
(nat_lit 295,oF "_law_meets" (Pr.top 43) u1_ 294) ::
(nat_lit 296,e0_) ::
(nat_lit 298,(e2_ #[.str "_law_box_here" 591,.str "_law_row" 592,.str "_law_column" 593,.str "_law_side" 594])) ::
(nat_lit 299,e0_) ::
(nat_lit 301,oC "_law_has" "_law_has" 588 589 590 170 4 296 297 (.ref 298) (.ref 299) 300 595 596) ::
(nat_lit 302,oF "_law_has" (Pr.top 44) u1_ 301) ::
(nat_lit 303,e0_) ::
(nat_lit 306,oC "_law_number" "_law_number" 598 599 600 174 5 303 304 .none .none 305 601 602) ::
(nat_lit 307,oF "_law_number" (Pr.top 45) u1_ 306) ::
(nat_lit 308,e0_) ::
(nat_lit 310,(e2_ #[.str "_law_n" 607,.str "_law_boxes_here" 608,.str "_law_rows" 609,.str "_law_top" 610])) ::
(nat_lit 311,e0_) ::
(nat_lit 313,oC "_law_shape" "_law_shape" 604 605 606 185 2 308 309 (.ref 310) (.ref 311) 312 611 612) ::
(nat_lit 314,oF "_law_shape" (Pr.top 46) u1_ 313) ::
(nat_lit 315,e0_) ::
(nat_lit 318,oC "_law_address" "_law_address" 614 615 616 189 2 315 316 .none .none 317 617 618) ::
(nat_lit 319,oF "_law_address" (Pr.top 47) u1_ 318) ::
(nat_lit 320,e0_) ::
(nat_lit 322,(e2_ #[.str "_law_n" 623,.str "_law_address_here" 624,.str "_law_first" 625,.str "_law_side" 626,.str "_law_figure" 627])) ::
(nat_lit 323,e0_) ::
(nat_lit 325,oC "_law_square" "_law_square" 620 621 622 191 2 320 321 (.ref 322) (.ref 323) 324 628 629) ::
(nat_lit 326,oF "_law_square" (Pr.top 48) u1_ 325) ::
(nat_lit 327,e0_) ::
(nat_lit 329,(e2_ #[.str "_law_n" 634,.str "_law_boxes_here" 635,.str "_law_address_here" 636,.str "_law_down" 637,.str "_law_right" 638,.str "_law_side" 639,.str "_law_found" 640,.str "_law_row" 641,.str "_law_column" 642,.str "_law_high" 643,.str "_law_wide" 644,.str "_law_top" 645,.str "_law_left" 646,.str "_law_foot" 647,.str "_law_end" 648])) ::
(nat_lit 330,e0_) ::
(nat_lit 332,oC "_law_left_there" "_law_left_there" 631 632 633 201 3 327 328 (.ref 329) (.ref 330) 331 649 650) ::
(nat_lit 333,oF "_law_left_there" (Pr.top 49) u1_ 332) ::
(nat_lit 334,e0_) ::
(nat_lit 336,(e2_ #[.str "_law_rows" 655,.str "_law_quarters" 656])) ::
(nat_lit 337,e0_) ::
(nat_lit 339,oC "_law_kept" "_law_kept" 652 653 654 212 2 334 335 (.ref 336) (.ref 337) 338 657 658) ::
(nat_lit 340,oF "_law_kept" (Pr.top 50) u1_ 339) ::
(nat_lit 341,e0_) ::
(nat_lit 344,oC "_law_taken" "_law_taken" 660 661 662 218 4 341 342 .none .none 343 663 664) ::
(nat_lit 345,oF "_law_taken" (Pr.top 51) u1_ 344) ::
(nat_lit 346,e0_) ::
(nat_lit 348,(e2_ #[.str "_law_rows" 669,.str "_law_shape_here" 670,.str "_law_number_here" 671,.str "_law_address_here" 672,.str "_law_other" 673,.str "_law_known" 674,.str "_law_quarters" 675,.str "_law_found" 676,.str "_law_place" 677])) ::
(nat_lit 349,e0_) ::
(nat_lit 351,oC "_law_mixed" "_law_mixed" 666 667 668 225 6 346 347 (.ref 348) (.ref 349) 350 678 679) ::
(nat_lit 352,oF "_law_mixed" (Pr.top 52) u1_ 351) ::
(nat_lit 353,e0_) ::
(nat_lit 355,(e2_ #[.str "_law_shape_here" 684,.str "_law_address_here" 685,.str "_law_other" 686,.str "_law_rows" 687,.str "_law_top" 688])) ::
(nat_lit 356,e0_) ::
(nat_lit 358,oC "_law_put_together" "_law_put_together" 681 682 683 238 3 353 354 (.ref 355) (.ref 356) 357 689 690) ::
(nat_lit 359,oF "_law_put_together" (Pr.top 53) u1_ 358) ::
(nat_lit 360,e0_) ::
(nat_lit 363,oC "_law_apart" "_law_apart" 692 693 694 242 3 360 361 .none .none 362 695 696) ::
(nat_lit 364,oF "_law_apart" (Pr.top 54) u1_ 363) ::
(nat_lit 365,e0_) ::
(nat_lit 367,(e2_ #[.str "_law_pot_here" 701,.str "_law_some" 702])) ::
(nat_lit 368,e0_) ::
(nat_lit 370,oC "_law_odd_shape" "_law_odd_shape" 698 699 700 249 1 365 366 (.ref 367) (.ref 368) 369 703 704) ::
(nat_lit 371,oF "_law_odd_shape" (Pr.top 55) u1_ 370) ::
(nat_lit 372,e0_) ::
(nat_lit 374,(e2_ #[.str "_law_pot_here" 709,.str "_law_n" 710,.str "_law_some" 711])) ::
(nat_lit 375,e0_) ::
(nat_lit 377,oC "_law_odd_address" "_law_odd_address" 706 707 708 255 2 372 373 (.ref 374) (.ref 375) 376 712 713) ::
(nat_lit 378,oF "_law_odd_address" (Pr.top 56) u1_ 377) ::
(nat_lit 379,e0_) ::
(nat_lit 381,(e2_ #[.str "_law_e" 718,.str "_law_some" 719])) ::
(nat_lit 382,e0_) ::
(nat_lit 384,oC "_law_word" "_law_word" 715 716 717 258 1 379 380 (.ref 381) (.ref 382) 383 720 721) ::
(nat_lit 385,oF "_law_word" (Pr.top 57) u1_ 384) ::
(nat_lit 386,e0_) ::
(nat_lit 388,(e2_ #[.str "_law_shape_here" 726,.str "_law_address_here" 727,.str "_law_told" 728,.str "_law_e" 729])) ::
(nat_lit 389,e0_) ::
(nat_lit 391,oC "_law_at" "_law_at" 723 724 725 263 2 386 387 (.ref 388) (.ref 389) 390 730 731) ::
(nat_lit 392,oF "_law_at" (Pr.top 58) u1_ 391) ::
(nat_lit 393,e0_) ::
(nat_lit 395,(e2_ #[.str "_law_shape_here" 736,.str "_law_address_here" 737,.str "_law_other" 738,.str "_law_told" 739,.str "_law_e" 740])) ::
(nat_lit 396,e0_) ::
(nat_lit 398,oC "_law_with" "_law_with" 733 734 735 270 3 393 394 (.ref 395) (.ref 396) 397 741 742) ::
(nat_lit 399,oF "_law_with" (Pr.top 59) u1_ 398) ::
(nat_lit 400,e0_) ::
(nat_lit 402,(e2_ #[.str "_law_pot_here" 747,.str "_law_shape_here" 748,.str "_law_address_here" 749,.str "_law_other" 750,.str "_law_n" 751,.str "_law_odd" 752,.str "_law_none" 753,.str "_law_far" 754])) ::
(nat_lit 403,e0_) ::
(nat_lit 405,oC "_law_refused" "_law_refused" 744 745 746 277 4 400 401 (.ref 402) (.ref 403) 404 755 756) ::
(nat_lit 406,oF "_law_refused" (Pr.top 60) u1_ 405) ::
(nat_lit 407,e0_) ::
(nat_lit 409,(e2_ #[.str "_law_script" 761,.str "_law_k" 762,.str "_law_pot_here" 763,.str "_law_n" 764,.str "_law_boxes_here" 765,.str "_law_shape_here" 766,.str "_law_address_here" 767,.str "_law_other" 768,.str "_law_there" 769,.str "_law_both" 770,.str "_law_apart_here" 771])) ::
(nat_lit 410,e0_) ::
(nat_lit 412,oC "law" "law" 758 759 760 287 1 407 408 (.ref 409) (.ref 410) 411 772 773) ::
(nat_lit 413,oF "law" (Pr.top 61) u1_ 412)::[]
def as0:List Addr:=[2,3,15,22,23,24,25,28,35,36,37,40,47,48,49,52,59,60,61,64,71,72,73,76,83,84,85,88,90,91,93,94,95,97,98,100,101,102,104,105,107,108,109,111,112,114,115,116,119,120,121,123,124,126,127,128,130,131,133,134,135,138,139,140,142,143,145,146,154,156,157,159,160,161,163,164,166,167,168,170,171,173,174,175,176,177,178,179,182,184,185,187,188,189,192,193,194,196,197,199,200,201,203,204,206,207,208,211,212,213,216,217,218,220,221,223,224,225,228,229,230,232,233,235,236,237,239,240,242,243,244,246,247,249,250,251,253,254,256,257,258,260,261,263,264,265,267,268,270,271,272,275,276,277,279,280,282,283,284,287,288,289,291,292,294,295,296,298,299,301,302,303,306,307,308,310,311,313,314,315,318,319,320,322,323,325,326,327,329,330,332,333,334,336,337,339,340,341,344,345,346,348,349,351,352,353,355,356,358,359,360,363,364,365,367,368,370,371,372,374,375,377,378,379,381,382,384,385,386,388,389,391,392,393,395,396,398,399,400,402,403,405,406,407,409,410,412,413]
def keep0:List Nat:=[1,2,3,4,5,6,8,9,10,11,12,13,14,15,16,17,18,19,20,22,23,24,25,27,28,29,30,31,32,34,35,36,38,39,40,41,42,43,44,45,46,47,48,49,50,51,52,53,54,55,56,57,58,59,60,61]
def N0:Nat:=6162
noncomputable def bx (P:Params) (a t l:Nat) (x:Str):List Obj:=[(e2_ #[.ref 24]),
⟨.type "builtin_function_or_method",none,(.fields #[.builtin "type.__prepare__",.type "type"]),#[]⟩,
⟨.type "dict",none,(.dict #[⟨kh P "__module__",.str "__module__" (t+7),.str "quarterfold.errors" 187⟩,⟨kh P "__qualname__",.str "__qualname__" (t+9),.str x (t+8)⟩,⟨kh P "__firstlineno__",.str "__firstlineno__" (t+11),.int l (t+10)⟩,⟨kh P "__static_attributes__",.str "__static_attributes__" (t+12),.ref (a+7)⟩] 4),#[]⟩,
e0_,
e1_,
⟨.type "code",none,(.fields #[.str x (t+2),.str x (t+3),.str "/claim/cut.py" (t+4),.int l 0,.int 0 0,.int 0 0,.int 0 0,.int 0 0,.ref (a+3),.bool false,.int 181 0,.ref (a+4),.none,.none,.none,.none,.int (t+5) 0,.int l 0,.str "/claim/cut.py" (t+6)]),#[]⟩,
⟨.type "frame",none,.plain,#[some (.ref (a+5)),some (.ref 3),some (.ref (a+2)),none,some (.str "quarterfold.errors" 187),none,some (.ref 0)]⟩,
e0_,
⟨.type "dict",none,(.dict #[⟨kh P "__module__",.str "__module__" (t+7),.str "quarterfold.errors" 187⟩,⟨kh P "__firstlineno__",.str "__firstlineno__" (t+11),.int l (t+10)⟩,⟨kh P "__static_attributes__",.str "__static_attributes__" (t+12),.ref (a+7)⟩,⟨kh P "__doc__",.str "__doc__" (t+13),.none⟩] 2),#[]⟩,
⟨.type "type",none,(.cls ⟨x,[.ref 24],[.ref (a+9),.ref 24,.type "ValueError",.type "Exception",.type "BaseException",.type "object"],(a+8),x,true,[],[],false,none,false⟩),#[some (.ref a),none,some (.str x t),some (.str x (t+8)),some (.builtin "ValueError.__new__"),some (.bool true)]⟩,
⟨.type "super",none,(.fields #[.ref (a+9),.ref (a+9),.ref (a+9)]),#[]⟩,
⟨.type "builtin_function_or_method",none,(.fields #[.builtin "object.__init_subclass__",.ref (a+9)]),#[]⟩]
noncomputable def ob (P:Params):List Obj:=[boot_o_0 P,boot_o_1 P,boot_o_2 P,⟨.type "dict",none,(.dict #[e3_ P "__name__" 165 (.str "quarterfold.rows" 287),e3_ P "__doc__" 166 .none,e3_ P "__package__" 167 .none,e3_ P "__loader__" 168 (.builtin "__main__.__loader__#opaque"),e3_ P "__spec__" 169 .none,e3_ P "__annotations__" 170 (.ref 6),e3_ P "__builtins__" 171 (.ref 4),e3_ P "__file__" 173 (.str "/claim/cut.py" 172),e3_ P "__cached__" 174 .none,e3_ P "FloorError" 206 (.ref 24),e3_ P "NoFloor" 222 (.ref 37),e3_ P "NoAddress" 238 (.ref 49),e3_ P "NoCell" 254 (.ref 61),e3_ P "NoShape" 270 (.ref 73),e3_ P "OtherFloor" 286 (.ref 85),e3_ P "EMPTY" 290 (.int 0 289),e3_ P "FULL" 292 (.int 1 291),e3_ P "FIRST" 294 (.int 2 293),e3_ P "is_whole" 301 (.ref 94),e3_ P "is_plain" 308 (.ref 101),e3_ P "quarters_of" 316 (.ref 108),e3_ P "number_at" 327 (.ref 115),e3_ P "depths_of" 333 (.ref 120),e3_ P "end_rows" 343 (.ref 127),e3_ P "places_as_ended" 352 (.ref 134),e3_ P "renumbered" 358 (.ref 139),e3_ P "shape_of" 370 (.ref 146),e3_ P "Book" 417 (.ref 177)] 28),#[]⟩,boot_o_4 P,boot_o_5 P,boot_o_6 P,boot_o_7 P,boot_o_8 P,boot_o_9 P,boot_o_10 P,e0_,⟨.none,none,(.fields #[.int 2 0,.int 0 0,.ref 20,.int 4 0,.int 0 0,.ref 33,.int 6 0,.int 0 0,.ref 45,.int 8 0,.int 0 0,.ref 57,.int 10 0,.int 0 0,.ref 69,.int 12 0,.int 0 0,.ref 81,.int 18 0,.int 0 0,.ref 93,.int 20 0,.int 0 0,.ref 100,.int 22 0,.int 0 0,.ref 107,.int 26 0,.int 0 0,.ref 114,.int 31 0,.int 0 0,.ref 119,.int 36 0,.int 0 0,.ref 126,.int 42 0,.int 0 0,.ref 133,.int 46 0,.int 0 0,.ref 138,.int 48 0,.int 0 0,.ref 145,.int 55 0,.int 0 0,.ref 152]),#[]⟩,⟨.type "code",none,(.fields #[.str "<module>" 182,.str "<module>" 183,.str "/claim/cut.py" 184,.int 1 0,.int 0 0,.int 0 0,.int 0 0,.int 0 0,.ref 11,.bool false,.int 181 0,.ref 12,.none,.none,.none,.none,.int 185 0,.int 1 0,.str "/claim/cut.py" 186]),#[]⟩,⟨.type "frame",none,.plain,#[some (.ref 13),some (.ref 3),some (.ref 3),none,some (.str "__main__" 164),none,some (.ref 0)]⟩,(e2_ #[.type "ValueError"]),⟨.type "builtin_function_or_method",none,(.fields #[.builtin "type.__prepare__",.type "type"]),#[]⟩,⟨.type "dict",none,(.dict #[e3_ P "__module__" 196 (.str "quarterfold.errors" 187),e3_ P "__qualname__" 198 (.str "FloorError" 197),e3_ P "__firstlineno__" 200 (.int 2 199),e3_ P "__static_attributes__" 201 (.ref 22)] 4),#[]⟩,e0_,e1_,⟨.type "code",none,(.fields #[.str "FloorError" 191,.str "FloorError" 192,.str "/claim/cut.py" 193,.int 2 0,.int 0 0,.int 0 0,.int 0 0,.int 0 0,.ref 18,.bool false,.int 181 0,.ref 19,.none,.none,.none,.none,.int 194 0,.int 2 0,.str "/claim/cut.py" 195]),#[]⟩,⟨.type "frame",none,.plain,#[some (.ref 20),some (.ref 3),some (.ref 17),none,some (.str "quarterfold.errors" 187),none,some (.ref 0)]⟩,e0_,⟨.type "dict",none,(.dict #[e3_ P "__module__" 196 (.str "quarterfold.errors" 187),e3_ P "__firstlineno__" 200 (.int 2 199),e3_ P "__static_attributes__" 201 (.ref 22),e3_ P "__weakref__" 203 (.ref 25),e3_ P "__doc__" 204 .none] 3),#[]⟩,⟨.type "type",none,(.cls ⟨"FloorError",[.type "ValueError"],[.ref 24,.type "ValueError",.type "Exception",.type "BaseException",.type "object"],23, "FloorError",true,[],[.ref 37,.ref 49,.ref 61,.ref 73,.ref 85],false,none,false⟩),#[some (.ref 15),none,some (.str "FloorError" 189),some (.str "FloorError" 197),some (.builtin "ValueError.__new__"),some (.bool true)]⟩,⟨.type "getset_descriptor",none,(.fields #[.str "__weakref__" 202,.ref 24,.builtin "ExceptionGroup.__weakref__",.none]),#[]⟩,⟨.type "super",none,(.fields #[.ref 24,.ref 24,.ref 24]),#[]⟩,⟨.type "builtin_function_or_method",none,(.fields #[.builtin "object.__init_subclass__",.ref 24]),#[]⟩]++(bx P 28 207 4 "NoFloor" ++ (bx P 40 223 6 "NoAddress" ++ (bx P 52 239 8 "NoCell" ++ (bx P 64 255 10 "NoShape" ++ (bx P 76 271 12 "OtherFloor" ++ ([e0_,e1_,(e2_ #[.str "thing" 298]),e0_,oT "is_whole" "is_whole" (Pr.top 11),oC "is_whole" "is_whole" 295 296 297 18 1 88 89 (.ref 90) (.ref 91) 92 299 300,oF "is_whole" (Pr.top 11) u0_ 93,e0_,e1_,(e2_ #[.str "row" 305]),e0_,oT "is_plain" "is_plain" (Pr.top 12),oC "is_plain" "is_plain" 302 303 304 20 1 95 96 (.ref 97) (.ref 98) 99 306 307,oF "is_plain" (Pr.top 12) u0_ 100,e0_,e1_,(e2_ #[.str "rows" 312,.str "number" 313]),e0_,oT "quarters_of" "quarters_of" (Pr.top 13),oC "quarters_of" "quarters_of" 309 310 311 22 2 102 103 (.ref 104) (.ref 105) 106 314 315,oF "quarters_of" (Pr.top 13) u0_ 107,e0_,e1_,(e2_ #[.str "rows" 320,.str "top" 321,.str "address" 322,.str "number" 323,.str "figure" 324]),e0_,oT "number_at" "number_at" (Pr.top 14),oC "number_at" "number_at" 317 318 319 26 3 109 110 (.ref 111) (.ref 112) 113 325 326,oF "number_at" (Pr.top 14) u0_ 114,e0_,e1_,oT "depths_of" "depths_of" (Pr.top 15),oC "depths_of" "depths_of" 328 329 330 31 1 116 117 .none .none 118 331 332,oF "depths_of" (Pr.top 15) u0_ 119,e0_,e1_,(e2_ #[.str "rows" 337,.str "number" 338,.str "ended" 339,.str "quarter" 340]),e0_,oT "end_rows" "end_rows" (Pr.top 16),oC "end_rows" "end_rows" 334 335 336 36 3 121 122 (.ref 123) (.ref 124) 125 341 342,oF "end_rows" (Pr.top 16) u0_ 126,e0_,e1_,(e2_ #[.str "rows" 347,.str "top" 348,.str "ended" 349]),e0_,oT "places_as_ended" "places_as_ended" (Pr.top 17),oC "places_as_ended" "places_as_ended" 344 345 346 42 2 128 129 (.ref 130) (.ref 131) 132 350 351,oF "places_as_ended" (Pr.top 17) u0_ 133,e0_,e1_,oT "renumbered" "renumbered" (Pr.top 18),oC "renumbered" "renumbered" 353 354 355 46 2 135 136 .none .none 137 356 357,oF "renumbered" (Pr.top 18) u0_ 138,e0_,e1_,(e2_ #[.str "n" 362,.str "top" 363,.str "rows" 364,.str "numbers" 365,.str "told" 366,.str "place" 367]),e0_,oT "shape_of" "shape_of" (Pr.top 19),oC "shape_of" "shape_of" 359 360 361 48 3 140 141 (.ref 142) (.ref 143) 144 368 369,oF "shape_of" (Pr.top 19) u0_ 145,e0_,⟨.type "builtin_function_or_method",none,(.fields #[.builtin "type.__prepare__",.type "type"]),#[]⟩,⟨.type "dict",none,(.dict #[e3_ P "__module__" 378 (.str "quarterfold.rows" 287),e3_ P "__qualname__" 380 (.str "Book" 379),e3_ P "__firstlineno__" 382 (.int 55 381),e3_ P "__init__" 389 (.ref 160),e3_ P "number_for" 397 (.ref 167),e3_ P "numbers_for" 407 (.ref 174),e3_ P "__static_attributes__" 410 (.ref 175)] 7),#[]⟩,e0_,⟨.none,none,(.fields #[.int 57 0,.int 4 0,.ref 159,.int 61 0,.int 4 0,.ref 166,.int 69 0,.int 4 0,.ref 173]),#[]⟩,⟨.type "code",none,(.fields #[.str "Book" 373,.str "Book" 374,.str "/claim/cut.py" 375,.int 55 0,.int 0 0,.int 0 0,.int 0 0,.int 0 0,.ref 150,.bool false,.int 181 0,.ref 151,.none,.none,.none,.none,.int 376 0,.int 55 0,.str "/claim/cut.py" 377]),#[]⟩,⟨.type "frame",none,.plain,#[some (.ref 152),some (.ref 3),some (.ref 149),none,some u0_,none,some (.ref 0)]⟩,e0_,e1_,(e2_ #[.str "self" 386]),e0_,oT "__init__" "Book.__init__" (L2.qg9 (Pr.top 20) 0),oC "__init__" "Book.__init__" 383 384 385 57 1 154 155 (.ref 156) (.ref 157) 158 387 388,oM "__init__" "Book.__init__" (L2.qg9 (Pr.top 20) 0) u0_ 159,e0_,e1_,(e2_ #[.str "self" 393,.str "row" 394]),e0_,oT "number_for" "Book.number_for" (L2.qg9 (Pr.top 20) 1),oC "number_for" "Book.number_for" 390 391 392 61 2 161 162 (.ref 163) (.ref 164) 165 395 396,oM "number_for" "Book.number_for" (L2.qg9 (Pr.top 20) 1) u0_ 166,e0_,e1_,(e2_ #[.str "self" 401,.str "rows" 402,.str "numbers" 403,.str "row" 404]),e0_,oT "numbers_for" "Book.numbers_for" (L2.qg9 (Pr.top 20) 2),oC "numbers_for" "Book.numbers_for" 398 399 400 69 2 168 169 (.ref 170) (.ref 171) 172 405 406,oM "numbers_for" "Book.numbers_for" (L2.qg9 (Pr.top 20) 2) u0_ 173,(e2_ #[.str "kept" 408,.str "numbers" 409]),⟨.type "dict",none,(.dict #[e3_ P "__module__" 378 (.str "quarterfold.rows" 287),e3_ P "__firstlineno__" 382 (.int 55 381),e3_ P "__init__" 389 (.ref 160),e3_ P "number_for" 397 (.ref 167),e3_ P "numbers_for" 407 (.ref 174),e3_ P "__static_attributes__" 410 (.ref 175),e3_ P "__dict__" 412 (.ref 178),e3_ P "__weakref__" 414 (.ref 179),e3_ P "__doc__" 415 .none] 4),#[]⟩,⟨.type "type",none,(.cls ⟨"Book",[.type "object"],[.ref 177,.type "object"],176, "Book",true,[],[],false,none,false⟩),#[none,none,some (.str "Book" 371),some (.str "Book" 379),some (.builtin "object.__new__"),some (.bool true)]⟩,⟨.type "getset_descriptor",none,(.fields #[.str "__dict__" 411,.ref 177,.builtin "function.__dict__",.builtin "function.__dict__#set"]),#[]⟩,⟨.type "getset_descriptor",none,(.fields #[.str "__weakref__" 413,.ref 177,.builtin "ExceptionGroup.__weakref__",.none]),#[]⟩,⟨.type "super",none,(.fields #[.ref 177,.ref 177,.ref 177]),#[]⟩,⟨.type "builtin_function_or_method",none,(.fields #[.builtin "object.__init_subclass__",.ref 177]),#[]⟩]))))))
noncomputable def hA (P:Params):Heap:=⟨⟨((((ob P).take 15).set 3 (boot_o_3 P)).set 12 (e1_))⟩,(boot_heap P).life⟩
noncomputable def h1 (P:Params):Heap:=⟨⟨(ob P)⟩,(boot_heap P).life⟩
noncomputable def bd:List Stmt:=behindTheImports pw
noncomputable def ev:Env:={ scope:=pw.main.scope,locals:=mainNs,globals:=mainNs,cells:=[],code:=.ref 13,frame:=some 14 }
noncomputable def cE:Code:=.body bd ev
noncomputable abbrev sh (h:Params->Heap) (k:Nat) (w:World) (os:OsState):Shared:=⟨h w.params,Array.mk [],boot_drawn,k,os⟩
noncomputable abbrev fr:List Frame:=[topFrame ⟨0,0,0,0⟩]
theorem pre0 (w:World) (os:OsState):topGo treeTable pw w 11 (some (.ref 6)) 12 (sh boot_heap boot_toks w os) (topStub pw)=some (sh hA 187 w os,⟨denote treeTable cE,cE,⟨0,0,0,0⟩,fr⟩):=by kernel_rfl
theorem blk0 (w:World) (os:OsState):segRun treeTable pw w 11 (some (.ref 6)) 1 1 (sh hA 187 w os) (blockOf bd ev cE ⟨0,0,0,0⟩ fr)=some (.next,sh hA 187 w os,cE,⟨0,0,0,0⟩):=by kernel_rfl
theorem qQ1 {tb:String->Option Builtin}{p:Program}{w:World}{n₀:Nat}{ann:Option Value}{env:Env}{q:Pos}{n N j:Nat}{s s' r:Shared}{l:List Stmt}{c:Code}{pos p':Pos}(h:segRun tb p w n₀ ann 1 n s (piecesOf (l.take j) env c pos [topFrame q])=some (.next,s',c,p'))
  (k:topRun tb p w n₀ ann N s' (restOf (l.drop j) env c p' [topFrame q])=some r):topRun tb p w n₀ ann (n+N) s (restOf l env c pos [topFrame q])=some r:=by
 have:=piece_app (l:=l.take j) (rest:=l.drop j) h k
 rwa [XN] at this
theorem xj9 {p q:Program}{loose:List Str}{Xt:Shared->Bool}{α:Type}{Yf:Shared->α}{Ya:World->α}{N:Nat}{g0:Bool}{H₀:Params->Heap}{gs₀:Array GenState}{d₀:Drawn}{k₀ m₀ M N2:Nat}{ann:Option Value}{Z:World->OsState->Shared}{T:Thread}
  (open_:∀w:World,(fencedOpening treeTable p w N).map (λs=>(s.heap,s.gens,s.drawn,s.toks))=some (H₀ w.params,gs₀,d₀,k₀))
  (size:∀w:World,((H₀ w.params).isNs mainGlobals&&gs₀.size==0,(H₀ w.params).objs.size,(H₀ w.params).nsMap mainGlobals "__annotations__")=(true,m₀,ann))
  (run:∀(w:World) (os:OsState) (r:Shared),topRun treeTable p w m₀ ann N2 (Z w os) T=some r->topRun treeTable p w m₀ ann M ⟨H₀ w.params,gs₀,d₀,k₀,os⟩ (topStub p)=some r) (le:Nat.ble M N=true)
  (fin:∀(w:World) (os:OsState),(topRun treeTable p w m₀ ann N2 (Z w os) T).map (λs=>(staticsOk (importedModules p.main.body) (H₀ w.params) s.heap&&namesBound p s.heap&&gensDone s&&laidKept (H₀ w.params) s.heap,openSeen q loose (importedModules p.main.body) Xt g0 s,Yf s))=some (true,openGood q loose,Ya w)):LeftO p q loose Xt Yf Ya N g0:=λw=>by
 obtain⟨⟨h,gs,d,k,os⟩,e,e'⟩:=Zr.mp (open_ w);obtain⟨rfl,rfl,rfl,rfl⟩:h=H₀ w.params/\gs=gs₀/\d=d₀/\k=k₀:=by simpa using e'
 obtain⟨z1,z2,z3⟩:_/\_/\_:=by simpa only [Prod.mk.injEq] using size w
 obtain⟨r,hr,e2⟩:=Zr.mp (fin w os);obtain⟨l1,l2,l3⟩:_/\_/\_:=by simpa only [Prod.mk.injEq] using e2
 have r1:=topRun_mono (N-M) _ _ _ _ (run w os r hr);rw[show M+(N-M)=N by have:=Nat.le_of_ble_eq_true le;lia] at r1;have t:topFrom treeTable p w N ⟨H₀ w.params,gs,d,k,os⟩=some r:=by
  unfold topFrom;dsimp only;rw[z1,z2,z3,r1];show (match staticsOk (importedModules p.main.body) (H₀ w.params) r.heap&&namesBound p r.heap&&gensDone r&&laidKept (H₀ w.params) r.heap with|true=>_|false=>_)=_;rw[l1]
 unfold openEnds;rw[e];show (topFrom treeTable p w N ⟨H₀ w.params,gs,d,k,os⟩).map _=_;rw[t];show some (_,_)=some (_,_);rw[l2,l3]
theorem seg1 (w:World) (os:OsState):segRun treeTable pw w 11 (some (.ref 6)) 1 1904 (sh hA 187 w os) (piecesOf (bd.take 21) ev cE ⟨0,0,0,0⟩ fr)=some (.next,sh h1 418 w os,cE,⟨55,0,73,22⟩):=by kernel_rfl
theorem run0 (w:World) (os:OsState) (r:Shared) (h:topRun treeTable pw w 11 (some (.ref 6)) 1225 (sh h1 418 w os) (restOf (bd.drop 21) ev cE ⟨55,0,73,22⟩ fr)=some r):topRun treeTable pw w 11 (some (.ref 6)) (12+(1+(1904+1225))) (sh boot_heap boot_toks w os) (topStub pw)=some r:=go_top (pre0 w os) (piece_block (blk0 w os) (qQ1 (seg1 w os) h))
theorem opn0:opening pw=plainProg pw.main.scope.names:=by kernel_rfl
theorem fen0 (s:Shared):fenceModules? pw s=some s:=by kernel_rfl
def q0:Program:={ pw with main:={ pw.main with body:=keep0.map Pr.top } }
theorem as_K:∀P,as0=(K0 P).map (·.1):=λ_=>by kernel_rfl
abbrev X0:Shared->Bool:=λs=>xlAt q0 [] s&&recOk (RowW.records (OpenRow.toRowW (OpenLaw.row PySem.Challenge.rw_quarterfold_k26_squares_taken_and_put))) s
set_option maxHeartbeats 0 in
theorem fin0 (w:World) (os:OsState):(topRun treeTable pw w 11 (some (.ref 6)) 1225 (sh h1 418 w os) (restOf (bd.drop 21) ev cE ⟨55,0,73,22⟩ fr)).map (λs=>(staticsOk (importedModules pw.main.body) (boot_heap w.params) s.heap&&namesBound pw s.heap&&gensDone s&&laidKept (boot_heap w.params) s.heap,openSeen q0 [] (importedModules pw.main.body) X0 true s,Hook.obs (kHook Hd.K0 Hd.as0 Hd.as_K) s))=some (true,openGood q0 [],Hook.val (kHook Hd.K0 Hd.as0 Hd.as_K) w):=by kernel_rfl
theorem xH7:LeftO pw q0 [] X0 (Hook.obs (kHook Hd.K0 Hd.as0 Hd.as_K)) (Hook.val (kHook Hd.K0 Hd.as0 Hd.as_K)) N0:=xj9 (boot_open opn0 rfl fen0) (λw=>by kernel_rfl) run0 (by rfl) fin0
end Hd
namespace L2
open PySem PySem.Spec PyProof.Rows
abbrev Key:=Sum Int Str
def qQ2:Key->Value->Bool
 |.inl k,v=>Value.isInt k v
 |.inr x,v=>Value.isStrOf x v
def keyH (w:World):Key->Int
 |.inl k=>hashInt k
 |.inr x=>hashStr w x
theorem qd4:∀{k:Key}{v:Value},qQ2 k v=true->(∃i t,k=Sum.inl i/\v=Value.int i t)\/(∃x t,k=Sum.inr x/\v=Value.str x t)
 |.inl i,v,h=>by
  obtain⟨t,e⟩:=Value.isInt_shape (k:=i) (v:=v) h;exact .inl ⟨i,t,rfl,e⟩
 |.inr x,v,h=>by
  obtain⟨t,e⟩:=Value.isStrOf_shape (x:=x) (v:=v) h;exact .inr ⟨x,t,rfl,e⟩
theorem q53 (i:Int) (t:Tok):qQ2 (.inl i) (.int i t)=true:=by simp[qQ2,Value.isInt]
theorem q54 (x:Str) (t:Tok):qQ2 (.inr x) (.str x t)=true:=by simp[qQ2,Value.isStrOf]
theorem xA8 (a b:Int):decide ((Sum.inl a:Key)=Sum.inl b)=(a==b):=by
 by_cases e:a=b
 ·subst e;simp
 ·have h:¬(Sum.inl a:Key)=Sum.inl b:=λq=>e (WG q);rw[Zp h];exact (Yz.mpr e).symm
theorem xA9 (a b:Str):decide ((Sum.inr a:Key)=Sum.inr b)=decide (a=b):=by
 by_cases e:a=b
 ·subst e;simp
 ·have h:¬(Sum.inr a:Key)=Sum.inr b:=λq=>e (Sum.inr.inj q);rw[Zp h,Zp e]
theorem xB0 (a:Int) (b:Str):decide ((Sum.inl a:Key)=Sum.inr b)=false:=Zp (λq=>nomatch q)
theorem xB1 (a:Str) (b:Int):decide ((Sum.inr a:Key)=Sum.inl b)=false:=Zp (λq=>nomatch q)
def qd5 (prog:Program) (w:World):PySem.KeyKind prog w Key where
 is:=qQ2
 hash:=keyH w
 inj:=λv a b ha hb=>by
  rcases qd4 ha with ⟨i,t,rfl,rfl⟩|⟨x,t,rfl,rfl⟩
  ·rcases qd4 hb with ⟨j,u,rfl,e⟩|⟨y,u,rfl,e⟩
   ·injection e with e1 _;rw[e1]
   ·exact nomatch e
  ·rcases qd4 hb with ⟨j,u,rfl,e⟩|⟨y,u,rfl,e⟩
   ·exact nomatch e
   ·injection e with e1 _;rw[e1]
 byValue:=λk v h=>by
  rcases qd4 h with ⟨i,t,rfl,rfl⟩|⟨x,t,rfl,rfl⟩<;>rfl
 pyHash:=λhv h=>by
  rcases qd4 hv with ⟨i,t,rfl,rfl⟩|⟨x,t,rfl,rfl⟩
  ·exact wpAny_pyHash_int h
  ·exact wpAny_pyHash_str h
 eqBool:=λhu hv h=>by
  rcases qd4 hu with ⟨i,t,rfl,rfl⟩|⟨x,t,rfl,rfl⟩
  ·rcases qd4 hv with ⟨j,u,rfl,rfl⟩|⟨y,u,rfl,rfl⟩
   ·rw[xA8] at h;exact wpAny_eqBool_int h
   ·rw[xB0] at h;exact SeqAt.EqAt.int_str i t y u _ _ _ _ h
  ·rcases qd4 hv with ⟨j,u,rfl,rfl⟩|⟨y,u,rfl,rfl⟩
   ·rw[xB1] at h;exact SeqAt.EqAt.str_int x t j u _ _ _ _ h
   ·rw[xA9] at h;exact wpAny_eqBool_str h
 «strs»:=λk x t v h=>by
  rcases qd4 h with ⟨i,u,rfl,e⟩|⟨y,u,rfl,e⟩
  ·exact nomatch e
  ·injection e with e1 _
   subst e1;cases v<;>rfl
theorem qQ3 (prog:Program) (w:World) (i:Int) (t:Tok):(qd5 prog w).is (.inl i) (.int i t)=true:=q53 i t
theorem qQ4 (prog:Program) (w:World) (x:Str) (t:Tok):(qd5 prog w).is (.inr x) (.str x t)=true:=q54 x t
inductive V where
 |non|bl (b:Bool)|int (i:Int)|str (x:Str)|byt (b:Array UInt8)|flt (b:UInt64)|ref (a:Addr)|ty (n:String)
 deriving DecidableEq
def RelV:V->Value->Prop
 |.non,u=>u=Value.none
 |.bl b,u=>u=Value.bool b
 |.int i,u=>∃t,u=Value.int i t
 |.str x,u=>∃t,u=Value.str x t
 |.byt b,u=>∃t,u=Value.bytes b t
 |.flt b,u=>∃t,u=Value.float b t
 |.ref a,u=>u=Value.ref a
 |.ty n,u=>u=Value.type n
abbrev Vals:List V->List Value->Prop:=Paired RelV
theorem Vals.length {xs:List V}{us:List Value}(r:Vals xs us):xs.length=us.length:=WE r
theorem Vals.get:∀{xs:List V}{us:List Value}{i:Nat}{x:V},Vals xs us->xs[i]?=some x->∃u,us[i]?=some u/\RelV x u
 |_,_,_,_,.nil,e=>by simp at e
 |_,_,0,_,.cons r _,e=>by simp at e;subst e;exact⟨_,rfl,r⟩
 |_,_,i+1,x,.cons _ t,e=>by
  obtain⟨u,h1,h2⟩:=Vals.get (i:=i) (x:=x) t (by simpa using e);exact⟨u,by simpa using h1,h2⟩
theorem Vals.set {x:V}{u:Value}(r:RelV x u):∀{xs:List V}{us:List Value}(i:Nat),Vals xs us->Vals (xs.set i x) (us.set i u)
 |_,_,_,.nil=>.nil
 |_,_,0,.cons _ t=>.cons r t
 |_,_,i+1,.cons q t=>.cons q (Vals.set r i t)
theorem Vals.append:∀{xs ys:List V}{us ws:List Value},Vals xs us->Vals ys ws->Vals (xs++ys) (us++ws)
 |_,_,_,_,.nil,s=>s
 |_,_,_,_,.cons r t,s=>.cons r (Vals.append t s)
theorem Vals.take:∀{xs:List V}{us:List Value}(n:Nat),Vals xs us->Vals (xs.take n) (us.take n)
 |_,_,0,_=>.nil
 |_,_,_+1,.nil=>.nil
 |_,_,n+1,.cons r t=>.cons r (Vals.take n t)
theorem Vals.drop:∀{xs:List V}{us:List Value}(n:Nat),Vals xs us->Vals (xs.drop n) (us.drop n)
 |_,_,0,r=>r
 |_,_,_+1,.nil=>.nil
 |_,_,n+1,.cons _ t=>Vals.drop n t
def RelO:Option V->Option Value->Prop
 |some v,some u=>RelV v u
 |none,none=>True
 |_,_=>False
def KV {κ:Type}:List (κ×V)->List (κ×Value)->Prop:=Paired λ(p:κ×V) (q:κ×Value)=>p.1=q.1/\RelV p.2 q.2
def kV:Key->V
 |.inl i=>.int i
 |.inr x=>.str x
inductive HO where
 |lst (xs:List V)
 |tup (xs:List V)
 |dK (kvs:List (Key×V))|dT (kvs:List (List Key×V))
 |set (S:Int->Bool) (n:Nat)
 |ins (C dx:Addr) (fs:List (Str×V))
 |own (x:Addr)
 |xd (fs:List (Str×V))
 |met (f x:Addr)
 |rng (lo hi:Int)
 |frz (o:Obj) (u:HO)
 |tbl (ps:Array Value)
 |ext (φ:Heap->Prop)
abbrev Hp:=Addr->Option HO
def upd (H:Hp) (a:Addr) (o:HO):Hp:=λb=>if b=a then some o else H b
theorem qa1 {H:Hp}{a:Addr}{o:HO}:upd H a o a=some o:=by unfold upd;rw[Zt rfl]
theorem qa7 {H:Hp}{a b:Addr}{o:HO}(h:b≠a):upd H a o b=H b:=by unfold upd;rw[Zm h]
theorem qw3 {H:Hp}{a:Addr}{o u:HO}:upd (upd H a o) a u=upd H a u:=by
 funext b;unfold upd;split<;>rfl
theorem qD3 {H:Hp}{a b:Addr}{o u:HO}(h:H a=some o) (h':H b=some u) (d:o≠u):a≠b:=by
 intro e;subst e;rw[h] at h';exact d (Zw h')
theorem qa4 {H:Hp}{a b:Addr}{o:HO}(h:H a=some o) (h':H b=none):a≠b:=by
 intro e;subst e;rw[h] at h';cases h'
def IsTupX (h:Heap) (a:Addr) (items:Array Value):Prop:=∃o,h.get? a=some o/\o.cls=.type "tuple" /\ ∃n:{n:Nat // o.dict=none},o.data=.seq items n.1
theorem IsTupX.is {h:Heap}{a:Addr}{items:Array Value}(x:IsTupX h a items):IsTup h a items:=let ⟨o,h1,h2,n,h3⟩:=x;⟨o,h1,h2,n.1,h3⟩
theorem IsTupX.new (h:Heap) (items:Array Value):IsTupX (h.push { cls:=.type "tuple",data:=.seq items }) h.objs.size items:=⟨_,Zk _ rfl,rfl,⟨_,rfl⟩,rfl⟩
instance {h:Heap}{a:Addr}{items:Array Value}:Coe (IsTupX h a items) (IsTup h a items):=⟨IsTupX.is⟩
instance {h:Heap}{a:Addr}{items:Array Value}:Coe (IsTupX h a items) (h.IsTuple a items):=⟨IsTupX.is⟩
section
variable (P:Program) (w:World)
def ObjOk (H:Hp) (h:Heap) (a:Addr):HO->Prop
 |.lst xs=>xs.length<=sizeLine/\∃(its:List Value) (n:Nat),Vals xs its/\h.get? a=some { cls:=.type "list",data:=.seq its.toArray n }
 |.tup xs=>xs.length<=sizeLine/\∃its:List Value,Vals xs its/\IsTupX h a its.toArray
 |.dK kvs=>kvs.length<=sizeLine/\(a==sysModules)=false/\∃vs,KV kvs vs/\h.DictOf (qd5 P w) a vs
 |.dT kvs=>kvs.length<=sizeLine/\(a==sysModules)=false/\∃xs:List (List Key×Addr×Value),
   Paired (λ(p:List Key×V) (q:List Key×Addr×Value)=>p.1=q.1/\H q.2.1=some (.tup (p.1.map kV))/\RelV p.2 q.2.2) kvs xs /\
   ∃o es ep,h.get? a=some o/\o.ExactDict/\o.data=.dict es ep/\es.toList=xs.map (entryOfKey (tupleKind (qd5 P w)))/\(xs.map (·.1)).Nodup
 |.set S n=>h.SetOf (intKind P w) a S n
 |.ins C dx fs=>H dx=some (.own a)/\fs.length<=1000/\dx≠a/\h.get? a=some (PySem.W.instObj C dx) /\
   ∃mA,h.Ns1 dx mA/\(∀f,RelO (fs.lookup f) (mA f))/\PySem.Within mA (fs.map (·.1))
 |.own _=>∃o,h.get? a=some o
 |.xd fs=>∃mA,h.Ns1 a mA/\∀f,RelO (fs.lookup f) (mA f)
 |.rng lo hi=>∃t u v,h.get? a=some { cls:=.type "range",data:=.fields #[.int lo t,.int hi u,.int 1 v] }
 |.frz o u=>h.get? a=some o/\ObjOk H h a u
 |.tbl ps=>h.get? a=some { cls:=.none,data:=.fields ps }
 |.met f x=>h.get? a=some (PySem.W.methodObj (.ref f) (.ref x))
 |.ext φ=>φ h/\(∃o,h.get? a=some o)/\∀h1 h2:Heap,φ h1->(∀o,h1.get? a=some o->h2.get? a=some o)->φ h2
def HOk (H:Hp) (h:Heap):Prop:=∀a o,H a=some o->ObjOk P w H h a o
end
section
variable {P:Program}{w:World}{H H':Hp}{h h':Heap}{a:Addr}{o:HO}
theorem ObjOk.lt (x:ObjOk P w H h a o):a<h.objs.size:=by
 cases o with
 |lst xs=>obtain⟨_,_,_,_,e⟩:=x;exact Zl e
 |tup xs=>obtain⟨_,_,_,p⟩:=x;exact (IsTupX.is p).lt
 |dK kvs=>obtain⟨_,_,_,_,o,_,_,e,_⟩:=x;exact Zl e
 |dT kvs=>obtain⟨_,_,_,_,o,_,_,e,_⟩:=x;exact Zl e
 |set S n=>obtain⟨o,_,_,_,e,_⟩:=x;exact Zl e
 |ins C dx fs=>obtain⟨_,_,_,e,_⟩:=x;exact Zl e
 |own y=>obtain⟨_,e⟩:=x;exact Zl e
 |xd fs=>obtain⟨_,⟨_,_,_,e,_⟩,_⟩:=x;exact Zl e
 |rng lo hi=>obtain⟨_,_,_,e⟩:=x;exact Zl e
 |frz ob u=>obtain⟨e,_⟩:=x;exact Zl e
 |tbl ps=>exact Zl (show h.get? a=some _ from x)
 |met f y=>exact Zl (show h.get? a=some _ from x)
 |ext φ=>obtain⟨_,⟨_,e⟩,_⟩:=x;exact Zl e
theorem Paired.mapP {α β:Type}{F G:α->β->Prop}:∀{l₁:List α}{l₂:List β},Paired F l₁ l₂->(∀a b,F a b->G a b)->Paired G l₁ l₂
 |_,_,.nil,_=>.nil
 |_,_,.cons r t,f=>.cons (f _ _ r) (Paired.mapP t f)
theorem ObjOk.stay (x:ObjOk P w H h a o) (k:∀b u,(b=a\/H b=some (.own a))->h.get? b=some u->h'.get? b=some u)
  (ho:∀b,H b=some (.own a)->H' b=some (.own a)) (ht:∀b xs,H b=some (.tup xs)->H' b=some (.tup xs)):ObjOk P w H' h' a o:=by
 induction o with
 |lst xs=>obtain⟨z,its,n,r,e⟩:=x;exact⟨z,its,n,r,k _ _ (.inl rfl) e⟩
 |tup xs=>obtain⟨z,its,r,ob,e,c⟩:=x;exact⟨z,its,r,ob,k _ _ (.inl rfl) e,c⟩
 |dK kvs=>obtain⟨z,y,vs,r,ob,es,ep,e,c⟩:=x;exact⟨z,y,vs,r,ob,es,ep,k _ _ (.inl rfl) e,c⟩
 |dT kvs=>
  obtain⟨z,y,xs,r,ob,es,ep,e,c⟩:=x;exact⟨z,y,xs,Paired.mapP r λp q z=>⟨z.1,ht _ _ z.2.1,z.2.2⟩,ob,es,ep,k _ _ (.inl rfl) e,c⟩
 |set S n=>obtain⟨ob,es,ep,t,e,c⟩:=x;exact⟨ob,es,ep,t,k _ _ (.inl rfl) e,c⟩
 |ins C dx fs=>
  obtain⟨d,z,ne,e,mA,⟨od,es,ep,e2,c⟩,r⟩:=x;exact⟨ho _ d,z,ne,k _ _ (.inl rfl) e,mA,⟨od,es,ep,k _ _ (.inr d) e2,c⟩,r⟩
 |own y=>obtain⟨ob,e⟩:=x;exact⟨ob,k _ _ (.inl rfl) e⟩
 |xd fs=>obtain⟨mA,⟨od,es,ep,e,c⟩,r⟩:=x;exact⟨mA,⟨od,es,ep,k _ _ (.inl rfl) e,c⟩,r⟩
 |rng lo hi=>obtain⟨t,u,v,e⟩:=x;exact⟨t,u,v,k _ _ (.inl rfl) e⟩
 |frz ob u ih=>obtain⟨e,q⟩:=x;exact⟨k _ _ (.inl rfl) e,ih q⟩
 |tbl ps=>
  have e:h.get? a=some { cls:=.none,data:=.fields ps }:=x;show h'.get? a=some { cls:=.none,data:=.fields ps };exact k a _ (.inl rfl) e
 |met f y=>
  have e:h.get? a=some (PySem.W.methodObj (.ref f) (.ref y)):=x;show h'.get? a=some (PySem.W.methodObj (.ref f) (.ref y));exact k a _ (.inl rfl) e
 |ext φ=>obtain⟨p,⟨o,e⟩,st⟩:=x;exact⟨st _ _ p λo q=>k _ _ (.inl rfl) q,⟨o,k _ _ (.inl rfl) e⟩,st⟩
theorem HOk.lt (x:HOk P w H h) (e:H a=some o):a<h.objs.size:=(x a o e).lt
theorem HOk.fresh (x:HOk P w H h) (e:h.objs.size<=a):H a=none:=by
 cases q:H a with
 |none=>rfl
 |some u=>exact absurd (ZQ (x.lt q) e) (Yk _)
theorem HOk.kept (x:HOk P w H h) (k:∀b u,h.get? b=some u->h'.get? b=some u):HOk P w H h':=λa o e=>
 (x a o e).stay (λb u _ q=>k b u q) (λ_ q=>q) λ_ _ q=>q
theorem HOk.laid (x:HOk P w H h) (k:∀b u,h.get? b=some u->h'.get? b=some u) (hp:h.objs.size<=a) (new:ObjOk P w (upd H a o) h' a o):HOk P w (upd H a o) h':=λb u e=>by
 have hn:=x.fresh hp;by_cases hb:b=a
 ·subst hb;rw[qa1] at e;cases e;exact new
 ·rw[qa7 hb] at e;exact (x b u e).stay (λc v _ q=>k c v q) (λc q=>by rw[qa7 (qa4 q hn)];exact q) λc xs q=>by rw[qa7 (qa4 q hn)];exact q
end
def Rd (H:Hp) (a:Addr) (u:HO):Prop:=H a=some u\/∃o,H a=some (.frz o u)
theorem Rd.ok {P:Program}{w:World}{H:Hp}{h:Heap}{a:Addr}{u:HO}(r:Rd H a u) (x:HOk P w H h):ObjOk P w H h a u:=by
 rcases r with r|⟨o,r⟩
 ·exact x a u r
 ·obtain⟨_,q⟩:=x a _ r;exact q
def Mut:Option HO->Prop
 |some (.lst _)=>True
 |some (.dK _)=>True
 |some (.dT _)=>True
 |some (.set _ _)=>True
 |some (.ins _ _ _)=>True
 |some (.ext _)=>True
 |_=>False
section
variable {P:Program}{w:World}{H:Hp}{h h':Heap}{x e:Addr}{o':HO}
theorem HOk.write (ok:HOk P w H h) (mu:Mut (H x)) (he:e=x\/H e=some (.own x)) (k:∀b u,b≠e->h.get? b=some u->h'.get? b=some u) (heo:∃u,h'.get? e=some u)
  (new:ObjOk P w (upd H x o') h' x o'):HOk P w (upd H x o') h':=λb u q=>by
 have nown:∀c y,H c=some (.own y)->c≠x:=λc y r z=>by subst z;rw[r] at mu;exact mu
 have ntup:∀c xs,H c=some (.tup xs)->c≠x:=λc xs r z=>by subst z;rw[r] at mu;exact mu
 by_cases hb:b=x
 ·subst hb;rw[qa1] at q;cases q;exact new
 ·rw[qa7 hb] at q;by_cases wM:b=e
  ·have q':H b=some (.own x):=by
    rcases he with z|z
    ·exact absurd (wM.trans z) hb
    ·rw[wM];exact z
   rw[q] at q';cases q';obtain⟨v,hv⟩:=heo;exact⟨v,by rw[wM];exact hv⟩
  ·refine (ok b u q).stay (λc v hc r=>k c v ?_ r) (λc r=>by rw[qa7 (nown c b r)];exact r) λc xs r=>by rw[qa7 (ntup c xs r)];exact r
   rcases hc with rfl|hc
   ·exact wM
   ·rintro rfl;rcases he with z|z
    ·exact nown c b hc z
    ·rw[hc] at z;cases z;exact hb rfl
end
structure Un (fs ex:List Addr) (H H':Hp) (h h':Heap):Prop where
 keep:∀b o,h.get? b=some o->H b=none->b∉fs->b∉ex->h'.get? b=some o
 slot:∀b o,h.get? b=some o->H b=none->b∈fs->b∉ex->∃sl,h'.get? b=some { o with slots:=sl }
 free:∀b o,h.get? b=some o->H b=none->b∉ex->H' b=none
 there:∀b o,h.get? b=some o->b∉ex->∃o',h'.get? b=some o'
 tups:∀b xs,H b=some (.tup xs)->H' b=some (.tup xs)
 frzs:∀b o u,H b=some (.frz o u)->H' b=some (.frz o u)
 tbls:∀b ps,H b=some (.tbl ps)->∃more,H' b=some (.tbl (ps++more))
section
variable {fs fs' ex ex':List Addr}{H H1 H2:Hp}{h h1 h2 h':Heap}{a x e:Addr}{o:HO}
theorem Un.any (u:Un fs ex H H1 h h1){b:Addr}{ob:Obj}(q:h.get? b=some ob) (n:H b=none) (hx:b∉ex):∃sl,h1.get? b=some { ob with slots:=sl }:=by
 by_cases hb:b∈fs
 ·exact u.slot b ob q n hb hx
 ·exact⟨ob.slots,u.keep b ob q n hb hx⟩
theorem Un.kept (k:∀b u,h.get? b=some u->h'.get? b=some u):Un fs ex H H h h':=
 ⟨λb ob q _ _ _=>k b ob q,λb ob q _ _ _=>⟨ob.slots,k b ob q⟩,λ_ _ _ n _=>n,λb ob q _=>⟨ob,k b ob q⟩,λ_ _ q=>q,λ_ _ _ q=>q,λ_ ps q=>⟨#[],by rw[q];simp⟩⟩
theorem Un.refl:Un fs ex H H h h:=Un.kept λ_ _ q=>q
theorem Un.laid (k:∀b u,h.get? b=some u->h'.get? b=some u) (hp:h.objs.size<=a) (hn:H a=none):Un fs ex H (upd H a o) h h' where
 keep:=λb u q _ _ _=>k b u q
 slot:=λb u q _ _ _=>⟨u.slots,k b u q⟩
 free:=λb u q n _=>by rw[qa7 (Zx (ZQ (Zl q) hp))];exact n
 there:=λb u q _=>⟨u,k b u q⟩
 tups:=λb xs q=>by rw[qa7 (qa4 q hn)];exact q
 frzs:=λb u xs q=>by rw[qa7 (qa4 q hn)];exact q
 tbls:=λb ps q=>⟨#[],by rw[qa7 (qa4 q hn),q];simp⟩
theorem Un.write (mu:Mut (H x)) (he:e=x\/H e=some (.own x)) (k:∀b u,b≠e->h.get? b=some u->h'.get? b=some u) (heo:∃u,h'.get? e=some u):Un fs ex H (upd H x o) h h':=by
 have hx:∀b,H b=none->b≠x:=λb n z=>by subst z;rw[n] at mu;exact mu
 have hb:∀b,H b=none->b≠e:=λb n z=>by
  subst z;rcases he with r|r
  ·exact hx b n r
  ·rw[n] at r;cases r
 have hm:∀b u,H b=some u->¬Mut (some u)->b≠x:=λb u q nm z=>by subst z;rw[q] at mu;exact nm mu
 refine⟨λb u q n _ _=>k b u (hb b n) q,λb u q n _ _=>⟨u.slots,k b u (hb b n) q⟩,λb u q n _=>by rw[qa7 (hx b n)];exact n,λb u q _=>?_,
  λb xs q=>by rw[qa7 (hm b _ q λz=>z)];exact q,λb u xs q=>by rw[qa7 (hm b _ q λz=>z)];exact q,λb ps q=>⟨#[],by rw[qa7 (hm b _ q λz=>z),q];simp⟩⟩
 by_cases wM:b=e
 ·subst wM;exact heo
 ·exact⟨u,k b u wM q⟩
end
def trk (h:Heap) (H:Hp):List Addr:=(List.range h.objs.size).filter λa=>(H a).isSome
def hidT (h:Heap) (H:Hp):Heap:=PySem.W.hideAll h (trk h H)
theorem q55 (h:Heap) (H:Hp):(hidT h H).objs.size=h.objs.size:=PySem.W.hideAll_size _ _
theorem xk3 {h:Heap}{H:Hp}{b:Addr}{o:Obj}(e:h.get? b=some o) (n:H b=none):(hidT h H).get? b=some o:=
 WR _ e λhm=>by
  have q:(H b).isSome=true:=(Xh.mp hm).2;rw[n] at q;simp at q
theorem xu7 {h:Heap}{H:Hp}{b:Addr}{o:Obj}(e:(hidT h H).get? b=some o):h.get? b=some o/\H b=none:=by
 have e':h.get? b=some o:=Wk (trk h H) e;refine⟨e',?_⟩;cases q:H b with
 |none=>rfl
 |some x=>
  have hm:b∈trk h H:=Xh.mpr ⟨ZW.mpr (Zl e'),by simp[q]⟩;have z:(hidT h H).get? b=none:=PySem.W.hideAll_none (trk h H) hm;rw[z] at e;cases e
structure Mod (K:PySem.W.Frag) (mg:Str->Option Value) (base:Heap):Prop where
 kin:K.In base
 glob:base.Ns mainGlobals mg
 blt:∃mb,base.Ns builtinsNs mb/\∀x:Str,x ≠ "__name__" -> mb x=bootBuiltins x
 nolimit:base.NoLimit
structure Cx where
 prog:Program
 w:World
 K:PySem.W.Frag
 mg:Str->Option Value
 base:Heap
 A:Around
 N:List Str
 s₀:Shared
 H₀:Hp
 env:Env
 outer:List Env
 stack:List Env
 ex:List Addr
 fn:Str->Bool
 calm:Bool
 pn:List (Addr×Obj)
 xe:Value->Shared->Prop
def frs (l:List Env):List Addr:=l.filterMap (·.frame)
abbrev Cx.fs (X:Cx):List Addr:=frs X.outer
def Vis (sc:Scope) (x:Str):Prop:=sc.names.lookup x=some .local\/sc.names.lookup x=some .cell\/sc.names.lookup x=some .free
def Loc (sc:Scope) (x:Str):Prop:=sc.names.lookup x=some .local\/sc.names.lookup x=some .cell
def Look (env:Env) (h:Heap) (m:Str->Option Value) (x:Str) (u:Value):Prop:=
 (env.kindOf x=some .local/\m x=some u)\/((env.kindOf x=some .cell\/env.kindOf x=some .free)/\∃c,env.cells.lookup x=some c/\h.IsCell c (some u))
structure Cx.Ok (X:Cx):Prop where
 mod:Mod X.K X.mg X.base
 kind:X.env.scope.kind=.function
 glob:X.env.globals=mainGlobals
 blt:X.env.builtins=builtinsNs
 above:X.s₀.heap.objs.size<=X.env.locals
 inj:∀x y c,X.env.cells.lookup x=some c->X.env.cells.lookup y=some c->x=y
 has:∀x,(X.env.kindOf x=some .cell\/X.env.kindOf x=some .free)->∃c,X.env.cells.lookup x=some c
 cab:∀x c,X.fn x=true->X.env.cells.lookup x=some c->X.s₀.heap.objs.size<=c
 hd:X.calm=true->X.A.handled=none
 frames:X.A.frames=some X.stack
 stk:X.stack=X.outer\/(X.stack=X.env::X.outer/\X.env.frame=some X.env.locals)
 exf:∀b∈X.ex,b≠X.env.locals/\∀x c,X.env.cells.lookup x=some c->c≠b
 bs:∀b o,X.base.get? b=some o->X.s₀.heap.get? b=some o/\X.H₀ b=none
 bsz:X.base.objs.size<=X.s₀.heap.objs.size
 noex:∀b o,X.base.get? b=some o->b∉X.ex
 exfs:∀b∈X.ex,b∉X.fs
 funs:X.s₀.heap.FunFrames X.base X.outer
 frf:∀b∈X.fs,X.H₀ b=none
structure Inv (X:Cx) (j4:List (Addr×Obj)) (σ:List (Option V)) (H:Hp) (s:Shared):Prop where
 ok:X.Ok
 os:s.os=X.s₀.os
 bare:AllBare s.gens
 base:Un X.fs X.ex X.H₀ H X.s₀.heap s.heap
 loc:∃m,s.heap.Ns X.env.locals m/\∀(i:Nat) (x:Str) (v:V),X.N[i]?=some x->σ[i]?=some (some v)->Vis X.env.scope x->∃u,RelV v u/\Look X.env s.heap m x u
 cell:∀x c,X.env.cells.lookup x=some c->∃v,s.heap.IsCell c v
 free:H X.env.locals=none
 freeC:∀x c,X.env.cells.lookup x=some c->H c=none
 pin:∀p∈X.pn++j4,s.heap.get? p.1=some p.2/\H p.1=none/\p.1≠X.env.locals/\p.1∉X.fs/\∀v,p.2.data≠.cell v
 hok:HOk X.prog X.w H s.heap
 len:σ.length=X.N.length
section
variable {X:Cx}{j4:List (Addr×Obj)}{σ:List (Option V)}{H H':Hp}{s:Shared}{h':Heap}
theorem Cx.Ok.nofr (ok:X.Ok){b:Addr}{o:Obj}(e:X.base.get? b=some o):b∉X.fs:=λhb=>by
 have:=(ok.funs.mem hb).1;rw[e] at this;cases this
theorem Inv.bs (I:Inv X j4 σ H s):∀b o,X.base.get? b=some o->s.heap.get? b=some o/\H b=none:=λb o e=>
 ⟨I.base.keep b o (I.ok.bs b o e).1 (I.ok.bs b o e).2 (I.ok.nofr e) (I.ok.noex b o e),I.base.free b o (I.ok.bs b o e).1 (I.ok.bs b o e).2 (I.ok.noex b o e)⟩
theorem Inv.bk (I:Inv X j4 σ H s):∀b o,X.base.get? b=some o->s.heap.get? b=some o:=λb o e=>(I.bs b o e).1
theorem Inv.mod (I:Inv X j4 σ H s):Mod X.K X.mg X.base:=I.ok.mod
theorem Inv.kIn (I:Inv X j4 σ H s):X.K.In s.heap:=I.ok.mod.kin.keeps I.bk
theorem Inv.fr (I:Inv X j4 σ H s):∃m,Fr X.base X.env.locals s.heap m:=
 let ⟨m,hn,_⟩:=I.loc
 ⟨m,hn,I.bk,ZE I.ok.bsz I.ok.above⟩
theorem Inv.lt (I:Inv X j4 σ H s):X.env.locals<s.heap.objs.size:=let ⟨_,hn,_⟩:=I.loc;hn.lt
theorem Inv.sz (I:Inv X j4 σ H s):X.s₀.heap.objs.size<=s.heap.objs.size:=ZE I.ok.above (ZT I.lt)
theorem Inv.nofs (I:Inv X j4 σ H s){a:Addr}(h:s.heap.objs.size<=a):a∉X.fs:=λhb=>by
 obtain⟨_,o,ho,_⟩:=I.ok.funs.mem hb;exact absurd (ZQ (Zl ho) (ZE I.sz h)) (Yk _)
theorem Inv.cne (I:Inv X j4 σ H s):∀x c,X.env.cells.lookup x=some c->c≠X.env.locals:=λx c e z=>by
 obtain⟨v,o,ho,hd⟩:=I.cell x c e;obtain⟨m,⟨o',es,ep,ho',hd',_⟩,_⟩:=I.loc;rw[z,ho'] at ho;cases ho;rw[hd'] at hd;cases hd
theorem Inv.funs (I:Inv X j4 σ H s):s.heap.FunFrames X.base X.outer:=by
 have all:∀(l:List Env),(∀b∈frs l,b∈X.fs)->X.s₀.heap.FunFrames X.base l->s.heap.FunFrames X.base l:=by
  intro l
  induction l with
  |nil=>intro _ _;trivial
  |cons env r ih=>
   intro hs hl;obtain⟨hk,⟨L,o,hf,hn,ho,hd⟩,hr⟩:=hl;have hL:L∈X.fs:=hs L (by unfold frs;rw[ZV,hf];exact Zh);obtain⟨sl,e⟩:=I.base.slot L o ho (I.ok.frf L hL) hL λz=>I.ok.exfs L z hL;exact⟨hk,⟨L,_,hf,hn,e,hd⟩,ih (λb hb=>hs b (by unfold frs;rw[ZV,hf];exact Ze _ hb)) hr⟩
 exact all X.outer (λ_ hb=>hb) I.ok.funs
theorem Inv.stack (I:Inv X j4 σ H s):s.heap.FunFrames X.base X.stack:=by
 rcases I.ok.stk with e|⟨e,hf⟩
 ·rw[e];exact I.funs
 ·rw[e];obtain⟨m,hn,_⟩:=I.loc;refine .cons (by rw[I.ok.kind];decide) hf hn ?_ I.funs;exact Heap.get?_none_of_le (ZE I.ok.bsz I.ok.above)
theorem Inv.stkSub (I:Inv X j4 σ H s):∀b∈frs X.stack,b∈X.env.locals::X.fs:=λb hb=>by
 rcases I.ok.stk with e|⟨e,hf⟩
 ·rw[e] at hb;exact Ze _ hb
 ·rw[e] at hb;unfold frs at hb;rw[ZV,hf] at hb;exact hb
theorem Inv.stkFree (I:Inv X j4 σ H s):∀b∈frs X.stack,H b=none:=λb hb=>by
 rcases ZC.mp (I.stkSub b hb) with e|hb
 ·rw[e];exact I.free
 ·obtain⟨_,o,ho,_⟩:=I.ok.funs.mem hb;exact I.base.free b o ho (I.ok.frf b hb) λz=>I.ok.exfs b z hb
theorem Inv.step {g':Array GenState}{t':Nat}{d':Drawn}{ch:List Addr}(I:Inv X j4 σ H s)
  (vY:∀b∈ch,(b∈X.ex\/X.s₀.heap.objs.size<=b)/\b≠X.env.locals/\(∀x c,X.env.cells.lookup x=some c->c≠b)/\∀p∈X.pn++j4,p.1≠b)
  (keep:∀b o,b≠X.env.locals->b∉X.fs->b∉ch->s.heap.get? b=some o->H b=none->h'.get? b=some o)
  (slot:∀b o,b≠X.env.locals->b∈X.fs->b∉ch->s.heap.get? b=some o->H b=none->∃sl,h'.get? b=some { o with slots:=sl }) (free:∀b o,b∉ch->s.heap.get? b=some o->H b=none->H' b=none)
  (there:∀b o,b∉ch->s.heap.get? b=some o->∃o',h'.get? b=some o')
  (tups:∀b xs,H b=some (.tup xs)->H' b=some (.tup xs)) (frzs:∀b o u,H b=some (.frz o u)->H' b=some (.frz o u)) (tbls:∀b ps,H b=some (.tbl ps)->∃more,H' b=some (.tbl (ps++more)))
  (ns:∀m,s.heap.Ns X.env.locals m->h'.Ns X.env.locals m) (hok:HOk X.prog X.w H' h') (hg:AllBare g') :
  Inv X j4 σ H' { s with heap:=h',gens:=g',drawn:=d',toks:=t' }:=by
 have neL:∀b o,X.s₀.heap.get? b=some o->b≠X.env.locals:=λb o e=>Zx (ZQ (Zl e) I.ok.above);have neC:∀b o,X.s₀.heap.get? b=some o->b∉X.ex->b∉ch:=λb o e hx hb=>by
  rcases (vY b hb).1 with z|z
  ·exact hx z
  ·exact absurd (ZQ (Zl e) z) (Yk _)
 have cellK:∀x c,X.env.cells.lookup x=some c->∀v,s.heap.IsCell c v->h'.IsCell c v:=λx c e v ⟨o,ho,hd⟩=>by
  have nch:c∉ch:=λz=>(vY c z).2.2.1 x c e rfl;by_cases hc:c∈X.fs
  ·obtain⟨sl,q⟩:=slot c o (I.cne x c e) hc nch ho (I.freeC x c e);exact⟨_,q,hd⟩
  ·exact⟨o,keep c o (I.cne x c e) hc nch ho (I.freeC x c e),hd⟩
 refine⟨I.ok,I.os,hg,⟨λb o e n hb hx=>?_,λb o e n hb hx=>?_,λb o e n hx=>?_,λb o e hx=>?_,λb xs e=>tups b xs (I.base.tups b xs e),λb o xs e=>frzs b o xs (I.base.frzs b o xs e),λb ps e=>?_⟩,?_,λx c e=>?_,?_,λx c e=>?_,λp hp=>?_,hok,I.len⟩
 ·exact keep b o (neL b o e) hb (neC b o e hx) (I.base.keep b o e n hb hx) (I.base.free b o e n hx)
 ·obtain⟨sl,e1⟩:=I.base.slot b o e n hb hx;obtain⟨sl',e2⟩:=slot b _ (neL b o e) hb (neC b o e hx) e1 (I.base.free b o e n hx);exact⟨sl',e2⟩
 ·obtain⟨o',e1⟩:=I.base.there b o e hx;exact free b o' (neC b o e hx) e1 (I.base.free b o e n hx)
 ·obtain⟨o',e1⟩:=I.base.there b o e hx;exact there b o' (neC b o e hx) e1
 ·obtain⟨m1,e1⟩:=I.base.tbls b ps e;obtain⟨m2,e2⟩:=tbls b _ e1;exact⟨m1++m2,by rw[e2,Array.append_assoc]⟩
 ·obtain⟨m,hn,hl⟩:=I.loc;refine⟨m,ns m hn,λi x v e1 e2 e3=>?_⟩;obtain⟨u,r,l⟩:=hl i x v e1 e2 e3;refine⟨u,r,?_⟩;rcases l with l|⟨k,c,e,z⟩
  ·exact .inl l
  ·exact .inr ⟨k,c,e,cellK x c e _ z⟩
 ·obtain⟨v,z⟩:=I.cell x c e;exact⟨v,cellK x c e v z⟩
 ·obtain⟨m,⟨o,_,_,ho,_⟩,_⟩:=I.loc;exact free _ o (λz=>(vY _ z).2.1 rfl) ho I.free
 ·obtain⟨v,o,ho,hd⟩:=I.cell x c e;exact free c o (λz=>(vY c z).2.2.1 x c e rfl) ho (I.freeC x c e)
 ·obtain⟨e,n,ne,nf,d⟩:=I.pin p hp;have nch:p.1∉ch:=λz=>(vY p.1 z).2.2.2 p hp rfl;exact⟨keep p.1 p.2 ne nf nch e n,free p.1 p.2 nch e n,ne,nf,d⟩
theorem Inv.un {t':Nat}(I:Inv X j4 σ H s) (u:Un X.fs [] H H' s.heap h') (hok:HOk X.prog X.w H' h'):Inv X j4 σ H' { s with heap:=h',toks:=t' }:=by
 obtain⟨m,⟨o,es,ep,ho,r⟩,_⟩:=id I.loc;obtain⟨sl,hL⟩:=u.any ho I.free (by simp);exact I.step (g':=s.gens) (d':=s.drawn) (ch:=[]) (λ_ z=>nomatch z) (λb o _ hb _ e n=>u.keep b o e n hb (by simp)) (λb o _ hb _ e n=>u.slot b o e n hb (by simp)) (λb o _ e n=>u.free b o e n (by simp)) (λb o _ e=>u.there b o e (by simp)) u.tups u.frzs u.tbls (λm' hm=>by
  obtain⟨o',es',ep',ho',r'⟩:=hm;rw[ho] at ho';cases ho';exact⟨_,es',ep',hL,r'⟩) hok I.bare
theorem Inv.call {g':Array GenState}{t':Nat}{d':Drawn}{ch:List Addr}(I:Inv X j4 σ H s) (u:Un (frs X.stack) ch H H' s.heap h') (hok:HOk X.prog X.w H' h') (hg:AllBare g')
  (vY:∀b∈ch,(b∈X.ex\/X.s₀.heap.objs.size<=b)/\b≠X.env.locals/\(∀x c,X.env.cells.lookup x=some c->c≠b)/\∀p∈X.pn++j4,p.1≠b) :
  Inv X j4 σ H' { s with heap:=h',gens:=g',drawn:=d',toks:=t' }:=by
 obtain⟨m,⟨o,es,ep,ho,r⟩,_⟩:=id I.loc;obtain⟨sl,hL⟩:=u.any ho I.free λz=>(vY _ z).2.1 rfl;exact I.step (ch:=ch) vY (λb o hL hb hc e n=>u.keep b o e n (λz=>(ZC.mp (I.stkSub b z)).elim hL hb) hc) (λb o _ _ hc e n=>u.any e n hc) (λb o hc e n=>u.free b o e n hc) (λb o hc e=>u.there b o e hc) u.tups u.frzs u.tbls (λm' hm=>by
  obtain⟨o',es',ep',ho',r'⟩:=hm;rw[ho] at ho';cases ho';exact⟨_,es',ep',hL,r'⟩) hok hg
theorem Inv.turned {t':Nat}{it:Addr}(I:Inv X j4 σ H s) (k:∀b o,b≠it->s.heap.get? b=some o->h'.get? b=some o) (hn:H it=none) (hL:it≠X.env.locals)
  (h1:it∈X.ex\/X.s₀.heap.objs.size<=it) (h2:∀x c,X.env.cells.lookup x=some c->c≠it) (h3:∀p∈X.pn++j4,p.1≠it):Inv X j4 σ H { s with heap:=h',toks:=t' }:=by
 have nit:∀b u,H b=some u->b≠it:=λb u e z=>by rw[z,hn] at e;cases e
 refine I.step (g':=s.gens) (d':=s.drawn) (ch:=[it]) (λb hb=>?_) (λb o _ _ hc e _=>k b o (λz=>hc (by simp[z])) e) (λb o _ _ hc e _=>⟨o.slots,k b o (λz=>hc (by simp[z])) e⟩) (λ_ _ _ _ n=>n)
  (λb o hc e=>⟨o,k b o (λz=>hc (by simp[z])) e⟩) (λ_ _ e=>e) (λ_ _ _ e=>e) (λb ps e=>⟨#[],by rw[e];simp⟩) (λm hm=>?_) (λb u e=>?_) I.bare
 ·have e:b=it:=by simpa using hb
  subst e;exact⟨h1,hL,h2,h3⟩
 ·obtain⟨o,es,ep,ho,r⟩:=hm;exact⟨o,es,ep,k _ o (Z0 hL) ho,r⟩
 ·refine (I.hok b u e).stay (λc v hc q=>k c v ?_ q) (λ_ q=>q) λ_ _ q=>q;rcases hc with z|z
  ·rw[z];exact nit b u e
  ·exact nit c _ z
theorem Inv.tok (I:Inv X j4 σ H s) (t:Nat):Inv X j4 σ H { s with toks:=t }:=I.un (h':=s.heap) (t':=t) Un.refl I.hok
theorem Inv.kept {t':Nat}(I:Inv X j4 σ H s) (k:∀b u,s.heap.get? b=some u->h'.get? b=some u):Inv X j4 σ H { s with heap:=h',toks:=t' }:=I.un (Un.kept k) (I.hok.kept k)
theorem Inv.laid {a:Addr}{o:HO}{t':Nat}(I:Inv X j4 σ H s) (k:∀b u,s.heap.get? b=some u->h'.get? b=some u) (hp:s.heap.objs.size<=a) (new:ObjOk X.prog X.w (upd H a o) h' a o) :
  Inv X j4 σ (upd H a o) { s with heap:=h',toks:=t' }:=I.un (Un.laid k hp (I.hok.fresh hp)) (I.hok.laid k hp new)
theorem Inv.write {x e:Addr}{o:HO}{t':Nat}(I:Inv X j4 σ H s) (mu:Mut (H x)) (he:e=x\/H e=some (.own x)) (k:∀b u,b≠e->s.heap.get? b=some u->h'.get? b=some u) (heo:∃u,h'.get? e=some u)
  (new:ObjOk X.prog X.w (upd H x o) h' x o):Inv X j4 σ (upd H x o) { s with heap:=h',toks:=t' }:=I.un (Un.write mu he k heo) (I.hok.write mu he k heo new)
theorem Inv.weak {σ':List (Option V)}(I:Inv X j4 σ H s) (hl:σ'.length=σ.length) (w:∀(i:Nat) v,σ'[i]?=some (some v)->σ[i]?=some (some v)):Inv X j4 σ' H s:=
 ⟨I.ok,I.os,I.bare,I.base,let ⟨m,hn,hl'⟩:=I.loc;⟨m,hn,λi x v e1 e2 e3=>hl' i x v e1 (w i v e2) e3⟩,I.cell,I.free,I.freeC,I.pin,I.hok,hl.trans I.len⟩
theorem Inv.pins_of {pins':List (Addr×Obj)}(I:Inv X j4 σ H s) (h:∀p∈pins',s.heap.get? p.1=some p.2/\H p.1=none/\p.1≠X.env.locals/\p.1∉X.fs/\∀v,p.2.data≠.cell v):Inv X pins' σ H s:=
 ⟨I.ok,I.os,I.bare,I.base,I.loc,I.cell,I.free,I.freeC,λp hp=>(Z1.mp hp).elim (λz=>I.pin p (YV _ z)) (h p),I.hok,I.len⟩
theorem qD4 {N:List Str}(hN:N.Nodup){i j:Nat}{x:Str}(a:N[i]?=some x) (b:N[j]?=some x):i=j:=by
 obtain⟨h1,e1⟩:=gS_ a;obtain⟨h2,e2⟩:=gS_ b;exact (List.getElem_inj hN).mp (e1.trans e2.symm)
theorem q56 {M:Model}{A:Around}{E:Value->Shared->Prop}{i:Nat}{x:Str}{v:V}{u:Value}{Q:Unit->Shared->Prop}(I:Inv X j4 σ H s) (hN:X.N.Nodup) (hi:X.N[i]?=some x) (hx:Loc X.env.scope x) (r:RelV v u)
  (h:∀s',Inv X j4 (σ.set i (some v)) H s'->(∃a,Heap.SameBut a s.heap s'.heap/\(a=X.env.locals\/X.env.cells.lookup x=some a))->Q () s') (hf:X.fn x=true\/X.env.scope.names.lookup x=some .local:=by first|exact .inl rfl|exact .inr rfl|assumption):wpAny M A (storeName X.env x u) Q E s:=by
 obtain⟨m,hn,hl⟩:=id I.loc;have hcls:(X.env.scope.kind==.class||(X.env.scope.kind==.module&&X.env.locals != X.env.globals))=false:=by rw[I.ok.kind];rfl
 have hiσ:i<σ.length:=by rw[I.len];exact (gS_ hi).1
 have cne:=I.cne;have tracked:∀{a:Addr}{h':Heap},(∃o,s.heap.get? a=some o/\H a=none)->Heap.SameBut a s.heap h'->HOk X.prog X.w H h':=λ{a h'} ha hs b ob e=>by
  obtain⟨_,_,hfree⟩:=ha;refine (I.hok b ob e).stay (λc w' hc q=>(hs.2 c ?_).trans q) (λ_ q=>q) λ_ _ q=>q;rintro rfl;rcases hc with rfl|hc
  ·rw[hfree] at e;cases e
  ·rw[hfree] at hc;cases hc
 rcases hx with hk|hk
 ·refine wpAny_storeName_local hk hn (λh' hn' hs=>?_) hcls;obtain⟨oL,_,_,hoL,_⟩:=id hn;refine h _ ⟨I.ok,I.os,I.bare,⟨λb o e n hb hx=>?_,λb o e n hb hx=>?_,I.base.free,λb o e hx=>?_,I.base.tups,I.base.frzs,I.base.tbls⟩,⟨_,hn',λj y v' e1 e2 e3=>?_⟩,λy c e=>?_,I.free,I.freeC,λp hp=>?_,tracked ⟨oL,hoL,I.free⟩ hs,by simpa using I.len⟩ ⟨_,hs,.inl rfl⟩
  ·exact (hs.2 b (Zx (ZQ (Zl e) I.ok.above))).trans (I.base.keep b o e n hb hx)
  ·obtain⟨sl,e1⟩:=I.base.slot b o e n hb hx;exact⟨sl,(hs.2 b (Zx (ZQ (Zl e) I.ok.above))).trans e1⟩
  ·obtain⟨o',e1⟩:=I.base.there b o e hx;exact⟨o',(hs.2 b (Zx (ZQ (Zl e) I.ok.above))).trans e1⟩
  ·by_cases hj:j=i
   ·subst hj;rw[hi] at e1;cases e1;rw[Wp hiσ] at e2;cases e2;exact⟨u,r,.inl ⟨hk,by simp⟩⟩
   ·rw[WH (Z0 hj)] at e2;obtain⟨u',r',q⟩:=hl j y v' e1 e2 e3;refine⟨u',r',?_⟩;rcases q with ⟨k,e⟩|⟨k,c,e,z⟩
    ·refine .inl ⟨k,?_⟩;have:y≠x:=λe=>hj (qD4 hN e1 (e▸hi));simp[this,e]
    ·exact .inr ⟨k,c,e,z.sameBut hs (cne y c e)⟩
  ·obtain⟨w',z⟩:=I.cell y c e;exact⟨w',z.sameBut hs (cne y c e)⟩
  ·obtain⟨e,n,ne,nf,d⟩:=I.pin p hp;exact⟨(hs.2 p.1 ne).trans e,n,ne,nf,d⟩
 ·have hfn:X.fn x=true:=by
   rcases hf with z|z
   ·exact z
   ·rw[z] at hk;cases hk
  obtain⟨c,hc⟩:=I.ok.has x (.inl hk);obtain⟨w',z⟩:=I.cell x c hc;refine wpAny_storeName_cell I.ok.kind hk hc z (λh' hc' hs=>?_);obtain⟨oc,hoc,hocd⟩:=id z;refine h { s with heap:=h' } ⟨I.ok,I.os,I.bare,⟨λb o e n hb hx=>?_,λb o e n hb hx=>?_,I.base.free,λb o e hx=>?_,I.base.tups,I.base.frzs,I.base.tbls⟩,⟨m,hn.sameBut hs (Z0 (cne x c hc)),λj y v' e1 e2 e3=>?_⟩,λy c' e=>?_,I.free,I.freeC,λp hp=>?_,tracked ⟨oc,hoc,I.freeC x c hc⟩ hs,by simpa using I.len⟩ ⟨c,hs,.inr hc⟩
  ·exact (hs.2 b (Zx (ZQ (Zl e) (I.ok.cab x c hfn hc)))).trans (I.base.keep b o e n hb hx)
  ·obtain⟨sl,e1⟩:=I.base.slot b o e n hb hx;exact⟨sl,(hs.2 b (Zx (ZQ (Zl e) (I.ok.cab x c hfn hc)))).trans e1⟩
  ·obtain⟨o',e1⟩:=I.base.there b o e hx;exact⟨o',(hs.2 b (Zx (ZQ (Zl e) (I.ok.cab x c hfn hc)))).trans e1⟩
  ·by_cases hj:j=i
   ·subst hj;rw[hi] at e1;cases e1;rw[Wp hiσ] at e2;cases e2;exact⟨u,r,.inr ⟨.inl hk,c,hc,hc'⟩⟩
   ·rw[WH (Z0 hj)] at e2;obtain⟨u',r',q⟩:=hl j y v' e1 e2 e3;refine⟨u',r',?_⟩;rcases q with q|⟨k,c',e,z'⟩
    ·exact .inl q
    ·refine .inr ⟨k,c',e,z'.sameBut hs ?_⟩;rintro rfl;exact hj (qD4 hN e1 (I.ok.inj _ _ _ e hc▸hi))
  ·by_cases hcc:c'=c
   ·subst hcc;exact⟨_,hc'⟩
   ·obtain⟨w2,z2⟩:=I.cell y c' e;exact⟨w2,z2.sameBut hs hcc⟩
  ·obtain⟨e,n,ne,nf,d⟩:=I.pin p hp;refine⟨(hs.2 p.1 ?_).trans e,n,ne,nf,d⟩;intro q;rw[q,hoc] at e;have q':oc=p.2:=Zw e;exact d w' (by rw[<- q'];exact hocd)
theorem qu7 {M:Model}{A:Around}{E:Value->Shared->Prop}{i:Nat}{x:Str}{v:V}{u:Value}{Q:Unit->Shared->Prop}(I:Inv X j4 σ H s) (hN:X.N.Nodup) (hi:X.N[i]?=some x) (hx:Loc X.env.scope x) (r:RelV v u)
  (h:∀s',Inv X j4 (σ.set i (some v)) H s'->Q () s') (hf:X.fn x=true\/X.env.scope.names.lookup x=some .local:=by first|exact .inl rfl|exact .inr rfl|assumption):wpAny M A (storeName X.env x u) Q E s:=
 q56 I hN hi hx r (λs' I' _=>h s' I') hf
theorem Inv.call' {s':Shared}{ch:List Addr}(I:Inv X j4 σ H s) (ho:s'.os=s.os) (u:Un (frs X.stack) ch H H' s.heap s'.heap) (hok:HOk X.prog X.w H' s'.heap) (hg:AllBare s'.gens)
  (vY:∀b∈ch,(b∈X.ex\/X.s₀.heap.objs.size<=b)/\b≠X.env.locals/\(∀x c,X.env.cells.lookup x=some c->c≠b)/\∀p∈X.pn++j4,p.1≠b):Inv X j4 σ H' s':=by
 obtain⟨h',g',d',t',o'⟩:=s';have e:o'=s.os:=ho;subst e;exact I.call (g':=g') (t':=t') (d':=d') u hok hg vY
end
abbrev XK:=Value->Option Addr->Hp->Prop
abbrev St:=List (Option V)
abbrev VK:=V->Hp->Prop
abbrev TE:=St->Hp->VK->Prop
abbrev TT:=St->Hp->(Bool->Hp->Prop)->Prop
abbrev TA:=St->Hp->(List V->Hp->Prop)->Prop
structure Ends where
 nx:St->Hp->Prop
 rt:VK
 bk:St->Hp->Prop:=λ_ _=>False
 ct:St->Hp->Prop:=λ_ _=>False
abbrev TS:=Ends->St->Hp->Prop
def EP (X:Cx) (j4:List (Addr×Obj)) (σ:St) (Q:VK) (u:Value) (s':Shared):Prop:=∃v H',Inv X j4 σ H' s'/\RelV v u/\Q v H'
def TP (X:Cx) (j4:List (Addr×Obj)) (σ:St) (Q:Bool->Hp->Prop) (b:Bool) (s':Shared):Prop:=∃H',Inv X j4 σ H' s'/\Q b H'
def AP (X:Cx) (j4:List (Addr×Obj)) (σ:St) (Q:List V->Hp->Prop) (us:List Value) (s':Shared):Prop:=∃vs H',Inv X j4 σ H' s'/\Vals vs us/\Q vs H'
def SP (X:Cx) (j4:List (Addr×Obj)) (D:Ends) (f:Flow) (s':Shared):Prop:=
 match f with
 |.next=>∃σ' H',Inv X j4 σ' H' s'/\D.nx σ' H'
 |.brk=>∃σ' H',Inv X j4 σ' H' s'/\D.bk σ' H'
 |.cont=>∃σ' H',Inv X j4 σ' H' s'/\D.ct σ' H'
 |.ret u=>∃v σ' H',Inv X j4 σ' H' s'/\RelV v u/\D.rt v H'
def PE (X:Cx) (e:Expr) (t:TE):Prop:=
 ∀(j4:List (Addr×Obj)) (s:Shared) (σ:St) (H:Hp) (Q:VK),Inv X j4 σ H s->t σ H Q->wpAny (model X.prog X.w) X.A (eval e X.env) (EP X j4 σ Q) X.xe s
def PT (X:Cx) (e:Expr) (t:TT):Prop:=
 ∀(j4:List (Addr×Obj)) (s:Shared) (σ:St) (H:Hp) (Q:Bool->Hp->Prop),Inv X j4 σ H s->t σ H Q->wpAny (model X.prog X.w) X.A (isTrue e X.env (eval e X.env)) (TP X j4 σ Q) X.xe s
def PW (X:Cx) (e:Expr) (t:TT):Prop:=
 ∀(whole:Sem Value) (j4:List (Addr×Obj)) (s:Shared) (σ:St) (H:Hp) (Q:Bool->Hp->Prop),Inv X j4 σ H s->t σ H Q->wpAny (model X.prog X.w) X.A (isTrue e X.env whole) (TP X j4 σ Q) X.xe s
theorem PW.pt {X:Cx}{e:Expr}{t:TT}(h:PW X e t):PT X e t:=h _
def PA (X:Cx) (es:List Expr) (t:TA):Prop:=
 ∀(pos:Pos) (j4:List (Addr×Obj)) (s:Shared) (σ:St) (H:Hp) (Q:List V->Hp->Prop),Inv X j4 σ H s->t σ H Q->wpAny (model X.prog X.w) X.A (spliced (backTo pos (starEach es X.env))) (AP X j4 σ Q) X.xe s
def PS (X:Cx) (st:Stmt) (t:TS):Prop:=
 ∀(j4:List (Addr×Obj)) (s:Shared) (σ:St) (H:Hp) (D:Ends),Inv X j4 σ H s->t D σ H->wpAny (model X.prog X.w) X.A (exec st X.env) (SP X j4 D) X.xe s
def PSs (X:Cx) (st:List Stmt) (t:TS):Prop:=
 ∀(j4:List (Addr×Obj)) (s:Shared) (σ:St) (H:Hp) (D:Ends),Inv X j4 σ H s->t D σ H->wpAny (model X.prog X.w) X.A (execs st X.env) (SP X j4 D) X.xe s
theorem thn {α:Type}{t:Sem α}{Q Q':α->Shared->Prop}{M:Model}{A:Around}{E:Value->Shared->Prop}{s:Shared}(h:wpAny M A t Q E s) (hQ:∀a s,Q a s->Q' a s):wpAny M A t Q' E s:=YA h hQ λ_ _ x=>x
section
variable {X:Cx}
def tVar (i:Nat):TE:=λσ H Q=>∃v,σ[i]?=some (some v)/\Q v H
def tC (v:V):TE:=λ_ H Q=>Q v H
theorem xB2 {i:Nat}{x:Str}{pos:Pos}(hN:X.N[i]?=some x) (hv:Vis X.env.scope x) (hd:(x==("__debug__" : Str))=false:=by decide) (kJ:(x==("__classdict__" : Str))=false:=by decide):PE X (.Name x pos) (tVar i):=by
 intro j4 s σ H Q I h;obtain⟨v,e,h⟩:=h;obtain⟨m,hn,hl⟩:=I.loc;obtain⟨u,r,l⟩:=hl i x v hN e hv;have fin:EP X j4 σ Q u s:=⟨v,H,I,r,h⟩;rcases l with ⟨hk,hm⟩|⟨hk,c,hc,j8⟩
 ·exact wpAny_Name (wpAny_loadName_local I.ok.kind hk hn hm fin) hd
 ·rcases hk with hk|hk
  ·exact wpAny_Name (wpAny_loadName_cell I.ok.kind hk hc j8 fin) hd
  ·exact wpAny_Name (wpAny_loadName_free I.ok.kind hk hc j8 fin kJ) hd
theorem qa5 {i j pos}:PE X (.Constant (.int i) j pos) (tC (.int i)):=λ_ _ _ H _ I h=>wpAny_Constant_int ⟨.int i,H,I.tok _,⟨_,rfl⟩,h⟩
theorem qk8 {b j pos}:PE X (.Constant (.bool b) j pos) (tC (.bl b)):=λ_ _ _ H _ I h=>Constant_bool ⟨.bl b,H,I,rfl,h⟩
theorem qU5 {j pos}:PE X (.Constant .none j pos) (tC .non):=λ_ _ _ H _ I h=>Constant_none ⟨.non,H,I,rfl,h⟩
theorem qc2 {x j pos}:PE X (.Constant (.str x) j pos) (tC (.str x)):=λ_ _ _ H _ I h=>Calls.Constant_str ⟨.str x,H,I.tok _,⟨_,rfl⟩,h⟩
def Gl (X:Cx) (x:Str):Prop:=X.env.kindOf x=some .globalImplicit
theorem qr6 {E:Value->Shared->Prop}{j4:List (Addr×Obj)}{s:Shared}{σ:St}{H:Hp}{x:Str}{u:Value}{pos:Pos}{Q:Value->Shared->Prop}(I:Inv X j4 σ H s) (hg:Gl X x) (hm:X.mg x=some u) (h:Q u s)
  (hd:(x==("__debug__" : Str))=false:=by decide):wpAny (model X.prog X.w) X.A (eval (.Name x pos) X.env) Q E s:=
 Calls.Name_function_global I.ok.kind hg (Calls.loadGlobal_global (by rw[I.ok.glob];exact I.mod.glob.keeps I.bk) hm h) hd
theorem qI8 {E:Value->Shared->Prop}{j4:List (Addr×Obj)}{s:Shared}{σ:St}{H:Hp}{x:Str}{u:Value}{pos:Pos}{Q:Value->Shared->Prop}(I:Inv X j4 σ H s) (hg:Gl X x) (hm:X.mg x=none) (hv:bootBuiltins x=some u) (h:Q u s)
  (hn:x ≠ "__name__":=by decide) (hd:(x==("__debug__" : Str))=false:=by decide):wpAny (model X.prog X.w) X.A (eval (.Name x pos) X.env) Q E s:=by
 obtain⟨mb,h1,h2⟩:=I.mod.blt;exact Calls.Name_function_global I.ok.kind hg (Calls.loadGlobal_builtin (by rw[I.ok.glob];exact I.mod.glob.keeps I.bk) hm (by rw[I.ok.blt];exact h1.keeps I.bk) ((h2 x hn).trans hv) h) hd
theorem qc6 {x:Str}{v:V}{u:Value}{pos:Pos}(hg:Gl X x) (hm:X.mg x=some u) (r:RelV v u) (hd:(x==("__debug__" : Str))=false:=by decide):PE X (.Name x pos) (tC v):=
 λ_ _ _ H _ I h=>qr6 I hg hm ⟨v,H,I,r,h⟩ hd
theorem qh0 {x:Str}{v:V}{u:Value}{pos:Pos}(hg:Gl X x) (hm:X.mg x=none) (hv:bootBuiltins x=some u) (r:RelV v u) (hn:x ≠ "__name__":=by decide) (hd:(x==("__debug__" : Str))=false:=by decide):PE X (.Name x pos) (tC v):=
 λ_ _ _ H _ I h=>qI8 I hg hm hv ⟨v,H,I,r,h⟩ hn hd
variable {a b:Expr}{ta tb:TE}{pos:Pos}
def PC (X:Cx) (op:CmpOp) (a b:Expr) (t:TE):Prop:=
 ∀(j4:List (Addr×Obj)) (s:Shared) (σ:St) (H:Hp) (Q:VK),Inv X j4 σ H s->t σ H Q ->
  wpAny (model X.prog X.w) X.A (eval a X.env) (λv s₁=>wpAny (model X.prog X.w) X.A (eval b X.env) (λu s₂=>wpAny (model X.prog X.w) X.A (compareOp op v u) (EP X j4 σ Q) X.xe s₂) X.xe s₁) X.xe s
def tB (t:TE):TT:=λσ H Q=>t σ H λx H1=>∃c,x=.bl c/\Q c H1
theorem qA7 {op:CmpOp}{t:TE}(h:PC X op a b t) (h1:behindInMarks op b=false:=by first|exact nobehind _ (by decide) (by decide)|rfl):PT X (.Compare a [op] [b] pos) (tB t):=by
 intro j4 s σ H Q I hw;refine wpAny_isTrue_Compare1 (thn (h j4 s σ H _ I hw) λv s1 h1=>thn h1 λu s2 h2=>thn h2 λc s3 ⟨x,H1,I1,r1,q1⟩=>?_) h1;obtain⟨d,rfl,q⟩:=q1;cases r1;exact YQ ⟨H1,I1,q⟩
theorem qe3 {e:Expr}{t:TE}(h:PE X e t) (he:∀whole,isTrue e X.env whole=(do let v <- whole;standAt e.pos;holding [v] (truthy v)):=by intro _;rfl):PT X e (tB t):=by
 intro j4 s σ H Q I hw;refine isTrue_plain (thn (h j4 s σ H _ I hw) λv s1 ⟨x,H1,I1,r1,q1⟩=>?_) (he _);obtain⟨d,rfl,q⟩:=q1;cases r1;exact YQ ⟨H1,I1,q⟩
variable {tA tB':TT}{rest:List Expr}
def tAnd (t u:TT):TT:=λσ H Q=>t σ H λc H1=>if c=true then u σ H1 Q else Q false H1
def tOr (t u:TT):TT:=λσ H Q=>t σ H λc H1=>if c=true then Q true H1 else u σ H1 Q
def tNot (t:TT):TT:=λσ H Q=>t σ H λc H1=>Q (!c) H1
theorem q57 (ha:PT X a tA):PW X (.BoolOp .And [a] pos) tA:=by
 intro wh j4 s σ H Q I h;refine isTrue_and (thn (ha j4 s σ H Q I h) λc s1 e=>?_);cases c with
 |true=>exact isTrue_and_nil e
 |false=>exact e
theorem qg7 (ha:PT X a tA):PW X (.BoolOp .Or [a] pos) tA:=by
 intro wh j4 s σ H Q I h;refine isTrue_or (thn (ha j4 s σ H Q I h) λc s1 e=>?_);cases c with
 |false=>exact isTrue_or_nil e
 |true=>exact e
theorem xq4 (ha:PT X a tA) (hb:PW X (.BoolOp .And (b::rest) pos) tB'):PW X (.BoolOp .And (a::b::rest) pos) (tAnd tA tB'):=by
 intro wh j4 s σ H Q I h;refine isTrue_and (thn (ha j4 s σ H _ I h) λc s1 ⟨H1,I1,q1⟩=>?_);cases c with
 |true=>exact hb wh j4 s1 σ H1 Q I1 q1
 |false=>exact⟨H1,I1,q1⟩
theorem qj6 (ha:PT X a tA) (hb:PW X (.BoolOp .Or (b::rest) pos) tB'):PW X (.BoolOp .Or (a::b::rest) pos) (tOr tA tB'):=by
 intro wh j4 s σ H Q I h;refine isTrue_or (thn (ha j4 s σ H _ I h) λc s1 ⟨H1,I1,q1⟩=>?_);cases c with
 |true=>exact⟨H1,I1,q1⟩
 |false=>exact hb wh j4 s1 σ H1 Q I1 q1
theorem qh2 (ha:PT X a tA):PT X (.UnaryOp .Not a pos) (tNot tA):=by
 intro j4 s σ H Q I h;exact isTrue_not (ha j4 s σ H (λc H1=>Q (!c) H1) I h)
def xH8 (ta tb:TE):TE:=λσ H Q=>ta σ H λx H1=>∃c,x=.bl c/\if c=true then tb σ H1 Q else Q (.bl false) H1
def xH9 (ta:TE):TE:=λσ H Q=>ta σ H λx H1=>∃c,x=.bl c/\Q (.bl (!c)) H1
theorem qj3 {op}{t:TE}(h:PE X a t):PE X (.BoolOp op [a] pos) t:=λj4 s σ H Q I hw=>BoolOp_one (h j4 s σ H Q I hw)
theorem qi4 (ha:PE X a ta) (hb:PE X (.BoolOp .And (b::rest) pos) tb):PE X (.BoolOp .And (a::b::rest) pos) (xH8 ta tb):=by
 intro j4 s σ H Q I h;refine BoolOp_and (thn (ha j4 s σ H _ I h) λv s1 ⟨x,H1,I1,r1,q1⟩=>?_);obtain⟨c,rfl,q1⟩:=q1;cases r1;refine YQ ?_;cases c with
 |true=>exact hb j4 s1 σ H1 Q I1 q1
 |false=>exact⟨.bl false,H1,I1,rfl,q1⟩
theorem xq5 (ha:PE X a ta):PE X (.UnaryOp .Not a pos) (xH9 ta):=by
 intro j4 s σ H Q I h;refine UnaryOp_ (thn (ha j4 s σ H _ I h) λv s1 ⟨x,H1,I1,r1,q1⟩=>?_);obtain⟨c,rfl,q1⟩:=q1;cases r1;exact not_of (YQ ⟨.bl (!c),H1,I1,rfl,q1⟩)
end
def SqL (K:PySem.W.Frag) (H:Hp) (a:Addr) (xs:List V):Prop:=
 Rd H a (.lst xs) \/
  ∃(o:Obj) (its:Array Value) (n:Nat),K.lookup a=some o/\o.cls=.type "list" /\ o.dict=none/\o.data=.seq its n/\its.size<=sizeLine/\Vals xs its.toList
def SqT (K:PySem.W.Frag) (H:Hp) (a:Addr) (xs:List V):Prop:=
 Rd H a (.tup xs) \/
  ∃(o:Obj) (its:Array Value) (n:Nat),K.lookup a=some o/\o.cls=.type "tuple" /\ o.data=.seq its n/\its.size<=sizeLine/\Vals xs its.toList
def absV:Value->Option V
 |.none=>some .non
 |.bool b=>some (.bl b)
 |.int i _=>some (.int i)
 |.str x _=>some (.str x)
 |.bytes b _=>some (.byt b)
 |.float b _=>some (.flt b)
 |.ref a=>some (.ref a)
 |.type n=>some (.ty n)
 |_=>none
theorem RelV.abs {x:V}{u:Value}(r:RelV x u):absV u=some x:=by
 cases x with
 |non=>cases r;rfl
 |bl _=>cases r;rfl
 |int _=>obtain⟨t,rfl⟩:=r;rfl
 |str _=>obtain⟨t,rfl⟩:=r;rfl
 |byt _=>obtain⟨t,rfl⟩:=r;rfl
 |flt _=>obtain⟨t,rfl⟩:=r;rfl
 |ref _=>cases r;rfl
 |ty _=>cases r;rfl
theorem RelV.inj {x y:V}{u:Value}(r:RelV x u) (q:RelV y u):x=y:=Zw (r.abs.symm.trans q.abs)
theorem Vals.inj:∀{xs ys:List V}{us:List Value},Vals xs us->Vals ys us->xs=ys
 |_,_,_,.nil,.nil=>rfl
 |_,_,_,.cons r t,.cons r' t'=>by rw[r.inj r',Vals.inj t t']
section
variable {X:Cx}{j4:List (Addr×Obj)}{σ:St}{H:Hp}{s:Shared}{a:Addr}{xs ys:List V}
theorem SqL.of {K:PySem.W.Frag}(h:H a=some (.lst xs)):SqL K H a xs:=.inl (.inl h)
theorem SqT.of {K:PySem.W.Frag}(h:H a=some (.tup xs)):SqT K H a xs:=.inl (.inl h)
theorem Inv.list (I:Inv X j4 σ H s) (h:SqL X.K H a xs):∃its:List Value,Vals xs its/\PlainL s.heap a its.toArray/\xs.length<=sizeLine:=by
 rcases h with h|⟨o,its,n,hk,hc,hd,hs,hz,r⟩
 ·obtain⟨z,its,n,r,e⟩:=h.ok I.hok;exact⟨its,r,⟨_,n,e,rfl,rfl,rfl⟩,z⟩
 ·refine⟨its.toList,r,⟨o,n,I.kIn a o hk,hc,hd,by simpa using hs⟩,?_⟩;have e:=r.length;simp only[ZZ] at e;lia
theorem Inv.tuple (I:Inv X j4 σ H s) (h:SqT X.K H a xs):∃its:List Value,Vals xs its/\IsTup s.heap a its.toArray/\xs.length<=sizeLine:=by
 rcases h with h|⟨o,its,n,hk,hc,hs,hz,r⟩
 ·obtain⟨z,its,r,p⟩:=h.ok I.hok;exact⟨its,r,p,z⟩
 ·refine⟨its.toList,r,⟨o,I.kIn a o hk,hc,n,by simpa using hs⟩,?_⟩;have e:=r.length;simp only[ZZ] at e;lia
theorem Inv.list_inj (I:Inv X j4 σ H s) (h:SqL X.K H a xs) (h':SqL X.K H a ys):xs=ys:=by
 obtain⟨its,r,⟨o,n,e,_,_,d⟩,_⟩:=I.list h;obtain⟨its',r',⟨o',n',e',_,_,d'⟩,_⟩:=I.list h';rw[e] at e';cases e';rw[d] at d';injection d' with d1 _
 have:its=its':=by simpa using Yi Array.toList d1
 subst this;exact r.inj r'
theorem Inv.tuple_inj (I:Inv X j4 σ H s) (h:SqT X.K H a xs) (h':SqT X.K H a ys):xs=ys:=by
 obtain⟨its,r,⟨o,e,_,n,d⟩,_⟩:=I.tuple h;obtain⟨its',r',⟨o',e',_,n',d'⟩,_⟩:=I.tuple h';rw[e] at e';cases e';rw[d] at d';injection d' with d1 _
 have:its=its':=by simpa using Yi Array.toList d1
 subst this;exact r.inj r'
end
abbrev Cx.wish (X:Cx) (E:Value->Shared->Prop):Cx:={ X with xe:=E }
abbrev Cx.nox (X:Cx):Cx:=X.wish λ_ _=>False
theorem Cx.Ok.wish {X:Cx}(ok:X.Ok) (E:Value->Shared->Prop):(X.wish E).Ok:=
 ⟨ok.mod,ok.kind,ok.glob,ok.blt,ok.above,ok.inj,ok.has,ok.cab,ok.hd,ok.frames,ok.stk,ok.exf,ok.bs,ok.bsz,ok.noex,ok.exfs,ok.funs,ok.frf⟩
theorem Cx.Ok.unwish {X:Cx}{E:Value->Shared->Prop}(ok:(X.wish E).Ok):X.Ok:=
 ⟨ok.mod,ok.kind,ok.glob,ok.blt,ok.above,ok.inj,ok.has,ok.cab,ok.hd,ok.frames,ok.stk,ok.exf,ok.bs,ok.bsz,ok.noex,ok.exfs,ok.funs,ok.frf⟩
section
variable {X:Cx}{j4:List (Addr×Obj)}{σ:St}{H:Hp}{s:Shared}{E:Value->Shared->Prop}
theorem Inv.wish (I:Inv X j4 σ H s) (E:Value->Shared->Prop):Inv (X.wish E) j4 σ H s:=⟨I.ok.wish E,I.os,I.bare,I.base,I.loc,I.cell,I.free,I.freeC,I.pin,I.hok,I.len⟩
theorem Inv.unwish (I:Inv (X.wish E) j4 σ H s):Inv X j4 σ H s:=⟨I.ok.unwish,I.os,I.bare,I.base,I.loc,I.cell,I.free,I.freeC,I.pin,I.hok,I.len⟩
theorem SP.unwish {D:Ends}{f:Flow}{s':Shared}(h:SP (X.wish E) j4 D f s'):SP X j4 D f s':=by
 cases f with
 |next=>obtain⟨σ',H',I,q⟩:=h;exact⟨σ',H',I.unwish,q⟩
 |brk=>obtain⟨σ',H',I,q⟩:=h;exact⟨σ',H',I.unwish,q⟩
 |cont=>obtain⟨σ',H',I,q⟩:=h;exact⟨σ',H',I.unwish,q⟩
 |ret u=>obtain⟨v,σ',H',I,r,q⟩:=h;exact⟨v,σ',H',I.unwish,r,q⟩
theorem PSs.nox {st:List Stmt}{t:TS}(h:PSs X.nox st t):PSs X st t:=λj4 s σ H D I hw=>
 YA (h j4 s σ H D (I.wish _) hw) (λ_ _ q=>q.unwish) λ_ _ z=>False.elim z
end
section
variable {X:Cx}{st:Stmt}{rest:List Stmt}{t u:TS}{e:Expr}{te:TE}{pos:Pos}
def xI0:TS:=λD σ H=>D.nx σ H
def tSeq (t u:TS):TS:=λD σ H=>t { D with nx:=u D } σ H
theorem qb1:PSs X [] xI0:=λ_ _ σ H _ I h=>WM ⟨σ,H,I,h⟩
theorem qb6 (h1:PS X st t) (h2:PSs X rest u):PSs X (st::rest) (tSeq t u):=by
 intro j4 s σ H D I h;refine wpAny_execs_cons (thn (h1 j4 s σ H { D with nx:=u D } I h) λf s1 q=>?_);cases f with
 |next=>
  obtain⟨σ',H',I',q⟩:=q;exact h2 j4 s1 σ' H' D I' q
 |ret v=>exact q
 |brk=>exact q
 |cont=>exact q
theorem qa8 (h1:PS X st t):PSs X [st] t:=by
 intro j4 s σ H D I h;refine wpAny_execs_cons (thn (h1 j4 s σ H D I h) λf s1 q=>?_);cases f with
 |next=>exact WM q
 |ret v=>exact q
 |brk=>exact q
 |cont=>exact q
theorem Inv.quiet {j4:List (Addr×Obj)}{σ:St}{H:Hp}{s:Shared}(I:Inv X j4 σ H s):interactive X.env=false:=by simp[interactive,I.ok.kind]
def xB3 (te:TE):TS:=λD σ H=>te σ H λ_ H1=>D.nx σ H1
theorem qf0 (he:PE X e te) (hs:swapsWith e none pos.line X.env=pure false:=by rfl):PS X (.Expr e pos) (xB3 te):=by
 intro j4 s σ H D I h;exact wpAny_Expr_any (thn (he j4 s σ H _ I h) λv s1 ⟨x,H1,I1,r1,q1⟩=>⟨σ,H1,I1,q1⟩) I.quiet hs
def tRet (te:TE):TS:=λD σ H=>te σ H D.rt
theorem qa9 (he:PE X e te):PS X (.Return (some e) pos) (tRet te):=by
 intro j4 s σ H D I h;exact wpAny_Return_some (thn (he j4 s σ H _ I h) λv s1 ⟨x,H1,I1,r1,q1⟩=>⟨x,σ,H1,I1,r1,q1⟩)
def xI1:TS:=λD _ H=>D.rt .non H
theorem q58:PS X (.Return none pos) xI1:=λ_ _ σ H _ I h=>wpAny_Return_none ⟨.non,σ,H,I,rfl,h⟩
def tIfS (c:TT) (t u:TS):TS:=λD σ H=>c σ H λb H1=>if b=true then t D σ H1 else u D σ H1
theorem qc9 {c:Expr}{a b:List Stmt}{tc:TT}(hc:PT X c tc) (ha:PSs X a t) (hb:PSs X b u):PS X (.If c a b pos) (tIfS tc t u):=by
 intro j4 s σ H D I h;refine wpAny_If (thn (hc j4 s σ H _ I h) λd s1 ⟨H1,I1,q1⟩=>?_);cases d with
 |true=>exact ha j4 s1 σ H1 D I1 q1
 |false=>exact hb j4 s1 σ H1 D I1 q1
def xB4:TS:=λ_ _ _=>False
theorem qc3 {sts:List Stmt}:PSs X sts xB4:=λ_ _ _ _ _ _ h=>h.elim
end
abbrev TG:=V->St->Hp->(St->Hp->Prop)->Prop
abbrev TGs:=List V->St->Hp->(St->Hp->Prop)->Prop
def PG (X:Cx) (target:Expr) (t:TG):Prop:=
 ∀(j4:List (Addr×Obj)) (s:Shared) (σ:St) (H:Hp) (v:V) (u:Value) (Q:St->Hp->Prop),Inv X j4 σ H s->RelV v u->t v σ H Q ->
  wpAny (model X.prog X.w) X.A (assign target X.env u) (λ_ s'=>∃σ' H',Inv X j4 σ' H' s'/\Q σ' H') X.xe s
def PGs (X:Cx) (ts:List Expr) (t:TGs):Prop:=
 ∀(j4:List (Addr×Obj)) (s:Shared) (σ:St) (H:Hp) (vs:List V) (us:List Value) (Q:St->Hp->Prop),Inv X j4 σ H s->Vals vs us->t vs σ H Q ->
  wpAny (model X.prog X.w) X.A (assignInOrder ((assignEach ts X.env).map (·.2)) us) (λ_ s'=>∃σ' H',Inv X j4 σ' H' s'/\Q σ' H') X.xe s
abbrev TSet:=V->V->V->Hp->(Hp->Prop)->Prop
def PSet (X:Cx) (t:TSet):Prop:=
 ∀(j4:List (Addr×Obj)) (s:Shared) (σ:St) (H:Hp) (o i v:V) (ov iv u:Value) (Q:Hp->Prop),Inv X j4 σ H s->RelV o ov->RelV i iv->RelV v u->t o i v H Q ->
  wpAny (model X.prog X.w) X.A (setItem ov iv u) (λ_ s'=>∃H',Inv X j4 σ H' s'/\Q H') X.xe s
section
variable {X:Cx}{pos:Pos}
def qg8 (i:Nat):TG:=λv σ H Q=>Q (σ.set i (some v)) H
theorem qr7 {i:Nat}{x:Str}(hN:X.N.Nodup) (hi:X.N[i]?=some x) (hx:Loc X.env.scope x) (hf:X.fn x=true\/X.env.scope.names.lookup x=some .local:=by first|exact .inl rfl|exact .inr rfl|assumption):PG X (.Name x pos) (qg8 i):=by
 intro j4 s σ H v u Q I r h;exact wpAny_assign_Name (qu7 I hN hi hx r (λs' I'=>⟨_,H,I',h⟩) hf)
def gNil:TGs:=λvs σ H Q=>vs=[]/\Q σ H
def qD5 (t:TG) (u:TGs):TGs:=λvs σ H Q=>∃v r,vs=v::r/\t v σ H λσ' H'=>u r σ' H' Q
theorem qj7:PGs X [] gNil:=by
 intro j4 s σ H vs us Q I r h;obtain⟨e,h⟩:=h;subst e;cases r;exact assignInOrder_nil ⟨σ,H,I,h⟩
theorem qb8 {e:Expr}{es:List Expr}{t:TG}{u:TGs}(h1:PG X e t) (h2:PGs X es u)
  (hs:(assignEach (e::es) X.env).map (·.2)=assign e X.env::(assignEach es X.env).map (·.2):=by rfl):PGs X (e::es) (qD5 t u):=by
 intro j4 s σ H vs us Q I r h;obtain⟨v,vr,e1,h⟩:=h;subst e1;cases r with
 |cons r rr=>
  rw[hs];refine assignInOrder_cons (thn (h1 j4 s σ H _ _ _ I r h) λ_ s1 ⟨σ1,H1,I1,q1⟩=>?_);exact h2 j4 s1 σ1 H1 _ _ Q I1 rr q1
def gTup (K:PySem.W.Frag) (n:Nat) (t:TGs):TG:=λv σ H Q=>∃a xs,v=.ref a/\SqT K H a xs/\xs.length=n/\t xs σ H Q
theorem qo5 {es:List Expr}{k:Nat}{t:TGs}{n:Nat}(hc:X.calm=true) (h:PGs X es t)
  (hn:(assignEach es X.env).length=n:=by rfl) (kP:(assignEach es X.env).findIdx? (·.1)=none:=by rfl):PG X (.Tuple es k pos) (gTup X.K n t):=by
 intro j4 s σ H v u Q I r hw;obtain⟨a,xs,e1,hq,hl,hw⟩:=hw;subst e1;cases r;obtain⟨its,rv,ht,hz⟩:=I.tuple hq;refine assign_Tuple_tuple (I.ok.hd hc) ht (by simp[hn,<- hl,rv.length]) kP λh' hx=>?_;have I1:Inv X j4 σ H { s with heap:=h' }:=I.kept (t':=s.toks) λb o e=>hx b o (Zx (Zl e)) e;exact h j4 _ σ H xs _ Q I1 (by simpa using rv) hw
def gSub (to ti:TE) (t:TSet):TG:=λv σ H Q=>to σ H λo H1=>ti σ H1 λi H2=>t o i v H2 λH3=>Q σ H3
theorem qI9 {o i:Expr}{to ti:TE}{t:TSet}(ho:PE X o to) (hi:PE X i ti) (hs:PSet X t)
  (ha:∀v,assign (.Subscript o i pos) X.env v=(do
   let ov <- holding [v] (eval o X.env)
   let iv <- holding [v,ov] (eval i X.env)
   standAt pos
   holding [v,ov,iv] (setItem ov iv v)
   release [v,ov,iv] []):=by intro _;rfl):PG X (.Subscript o i pos) (gSub to ti t):=by
 intro j4 s σ H v u Q I r h;rw[ha];refine Za (Yu (thn (ho j4 s σ H _ I h) λov s1 ⟨x,H1,I1,r1,q1⟩=>?_));refine Za (Yu (thn (hi j4 s1 σ H1 _ I1 q1) λiv s2 ⟨y,H2,I2,r2,q2⟩=>?_));refine Za (wpAny_standAt (Za (Yu (thn (hs j4 s2 σ H2 x y v ov iv u _ I2 r1 r2 r q2) λ_ s3 ⟨H3,I3,q3⟩=>?_))));exact wpAny_release ⟨σ,H3,I3,q3⟩
def tAsg (te:TE) (g:TG):TS:=λD σ H=>te σ H λx H1=>g x σ H1 D.nx
theorem qk5 {tg e:Expr}{te:TE}{g:TG}(he:PE X e te) (hg:PG X tg g) (hs:swapsWithSole [tg] e pos.line X.env=pure false:=by rfl) (hw:swappedStores [tg] e X.env=pure none:=by rfl)
  (h1:(assignEach [tg] X.env).map (·.2)=[assign tg X.env]:=by rfl):PS X (.Assign [tg] e pos) (tAsg te g):=by
 intro j4 s σ H D I h;refine wpAny_Assign_stores (thn (he j4 s σ H _ I h) λv s1 ⟨x,H1,I1,r1,q1⟩=>?_) hs hw;rw[h1];exact thn (hg j4 s1 σ H1 x v _ I1 r1 q1) λ_ s2 q=>q
theorem xq6 {i:Nat}{x:Str}{e:Expr}{te:TE}{pos':Pos}(hN:X.N.Nodup) (hi:X.N[i]?=some x) (hx:Loc X.env.scope x) (he:PE X e te) (hs:swapsWith e (some (.Name x pos')) pos.line X.env=pure false:=by rfl) (hf:X.fn x=true\/X.env.scope.names.lookup x=some .local:=by first|exact .inl rfl|exact .inr rfl|assumption) :
  PS X (.Assign [.Name x pos'] e pos) (tAsg te (qg8 i)):=by
 intro j4 s σ H D I h;refine wpAny_Assign_Name (thn (he j4 s σ H _ I h) λv s1 ⟨y,H1,I1,r1,q1⟩=>?_) hs;exact qu7 I1 hN hi hx r1 (λs2 I2=>⟨_,H1,I2,q1⟩) hf
end
section
variable {X:Cx}{pos:Pos}
end
structure It where
 go:Nat->Hp->Prop
 yld:Nat->Hp->V->Hp->Prop
 stop:Nat->Hp->Prop
def FpOk (X:Cx) (j4:List (Addr×Obj)) (H:Hp) (b:Addr):Prop:=
 H b=none/\b≠X.env.locals/\b∉X.fs/\(b∈X.ex\/X.s₀.heap.objs.size<=b)/\(∀x c,X.env.cells.lookup x=some c->c≠b)/\∀p∈X.pn++j4,p.1≠b
theorem Inv.fpOk {X:Cx}{j4:List (Addr×Obj)}{σ:St}{H H':Hp}{s:Shared}{b:Addr}(I:Inv X j4 σ H s) (hb:s.heap.objs.size<=b) (hn:H' b=none):FpOk X j4 H' b:=by
 refine⟨hn,XZ (ZQ I.lt hb),I.nofs hb,.inr (ZE I.sz hb),λx c e z=>?_,λp hp z=>?_⟩
 ·obtain⟨v,q⟩:=I.cell x c e;exact absurd (ZQ q.lt (by rw[z];exact hb)) (Yk _)
 ·exact absurd (ZQ (Zl (I.pin p hp).1) (by rw[z];exact hb)) (Yk _)
structure Turn (P:Program) (w:World) (K:PySem.W.Frag) (tg:Expr) (J:It) (fp:List Addr) (it:Addr) (tn:Nat->Heap->Prop):Prop where
 mem:it∈fp
 obj:∀i h,tn i h->∀b∈fp,∃o,h.get? b=some o/\∀v,o.data≠.cell v
 keep:∀i h h',tn i h->(∀b∈fp,∀o,h.get? b=some o->h'.get? b=some o)->tn i h'
 item:∀(X:Cx),X.prog=P->X.w=w->X.K=K->X.calm=true->∀(i:Nat) (j4:List (Addr×Obj)) (s:Shared) (σ:St) (H:Hp) (E:Value->Shared->Prop),Inv X j4 σ H s->(∀b∈fp,FpOk X j4 H b)->tn i s.heap->J.go i H ->
  wpAny (model P w) X.A (pyNext (.ref it)) (λr s1=>∃u,r=some u /\
   wpAny (model P w) X.A (letOwnedTupleGo tg (.ref it) u) (λ_ s2=>∃x H',Inv X j4 σ H' s2/\RelV x u/\J.yld i H x H'/\tn (i+1) s2.heap/\∀b∈fp,H' b=none) E s1) E s
 done:∀(X:Cx),X.prog=P->X.w=w->X.K=K->X.calm=true->∀(i:Nat) (j4:List (Addr×Obj)) (s:Shared) (σ:St) (H:Hp) (E:Value->Shared->Prop),Inv X j4 σ H s->(∀b∈fp,FpOk X j4 H b)->tn i s.heap->J.stop i H ->
  wpAny (model P w) X.A (pyNext (.ref it)) (λr s1=>r=none/\Inv X j4 σ H s1) E s
 self:∀(A:Around) (i:Nat) (s:Shared) (Q:Value->Shared->Prop) (E:Value->Shared->Prop),tn i s.heap->Q (.ref it) s->wpAny (model P w) A (pyIter (.ref it)) Q E s
abbrev TI:=St->Hp->(It->Hp->Prop)->Prop
def PIE (X:Cx) (j4:List (Addr×Obj)) (σ:St) (tg:Expr) (R:It->Hp->Prop) (itv:Value) (s2:Shared):Prop:=
 ∃(it:Addr) (fp:List Addr) (tn:Nat->Heap->Prop) (J:It) (H':Hp),itv=.ref it/\Inv X j4 σ H' s2/\Turn X.prog X.w X.K tg J fp it tn/\tn 0 s2.heap/\(∀b∈fp,FpOk X j4 H' b)/\R J H'
def PI (X:Cx) (tg iter:Expr) (wi:TI):Prop:=
 ∀(j4:List (Addr×Obj)) (s:Shared) (σ:St) (H:Hp) (R:It->Hp->Prop),Inv X j4 σ H s->wi σ H R ->
  wpAny (model X.prog X.w) X.A (eval iter X.env) (λv s1=>wpAny (model X.prog X.w) X.A (pyIter v) (PIE X j4 σ tg R) X.xe s1) X.xe s
theorem xu8 {M:Model}{A:Around}{E:Value->Shared->Prop}{s:Shared}{tg:Expr}{it:Addr}{u:Value}{o:Obj}{n:String}{vs:Array Value}{Q:Unit->Shared->Prop}(ho:s.heap.get? it=some o) (hc:o.cls=.type n) (hd:o.data=.fields vs)
  (hn:["enumerate", "zip", "dict_itemiterator", "dict_reverseitemiterator", "odict_iterator", "itertools.zip_longest", "itertools.pairwise"].contains n=false) (hQ:Q () s):wpAny M A (letOwnedTupleGo tg (.ref it) u) Q E s:=by
 unfold letOwnedTupleGo;cases tg<;>first
  |exact Zf hQ
  |(cases u<;>first
    |exact Zf hQ
    |(refine Za (wpAny_load ho ?_)
      rw[hc,hd];show wpAny M A (if (["enumerate", "zip", "dict_itemiterator", "dict_reverseitemiterator", "odict_iterator", "itertools.zip_longest", "itertools.pairwise"].contains n&&vs[0]?==some (rawInt _))=true then _ else _) Q E s;rw[Zm (by intro h;rw[hn,Vz] at h;cases h)];exact Zf hQ))
def Itl (K:PySem.W.Frag) (a:Addr):It:=
 ⟨λi H=>∃xs x,SqL K H a xs/\xs[i]?=some x,λi H x H'=>H'=H/\∀xs,SqL K H a xs->xs[i]?=some x,λi H=>∃xs,SqL K H a xs/\xs.length<=i⟩
def Itt (K:PySem.W.Frag) (a:Addr):It:=
 ⟨λi H=>∃xs x,SqT K H a xs/\xs[i]?=some x,λi H x H'=>H'=H/\∀xs,SqT K H a xs->xs[i]?=some x,λi H=>∃xs,SqT K H a xs/\xs.length<=i⟩
def Itr (lo:Int) (n:Nat):It:=⟨λi _=>i<n,λi H x H'=>H'=H/\x=.int (lo+i),λi _=>n<=i⟩
theorem q59 {P:Program}{w:World}{K:PySem.W.Frag}{tg:Expr}(a it:Addr):Turn P w K tg (Itl K a) [it] it (λi h=>h.IsListIter it a i) where
 mem:=by simp
 obj:=λi h st b hb=>by
  have e:b=it:=by simpa using hb
  subst e;obtain⟨o,e,c,d⟩:=st;exact⟨o,e,λv z=>by rw[d] at z;cases z⟩
 keep:=λi h h' st k=>st.at λo e=>k it (by simp) o e
 item:=by
  intro X hP hw hK hc i j4 s σ H E I hf st hg;subst hP hw hK;obtain⟨xs,x,hq,hx⟩:=hg;obtain⟨its,rv,p,hz⟩:=I.list hq;obtain⟨u,hu,ru⟩:=rv.get hx;obtain⟨f0,f1,f2,f3,f4,f5⟩:=hf it (by simp);refine wpAny_pyNext_list_item st p.isList (x:=u) (by simpa using hu) λh' st' sb=>?_;have I1:Inv X j4 σ H { s with heap:=h' }:=I.turned (t':=s.toks) (λb o hb e=>(sb.2 b hb).trans e) f0 f1 f3 f4 f5;obtain⟨o,e,c,d⟩:=id st';exact⟨u,rfl,xu8 (s:={ s with heap:=h' }) e c d (by decide) ⟨x,H,I1,ru,⟨rfl,λys hy=>by rw[I.list_inj hy hq];exact hx⟩,st',λb hb=>(hf b hb).1⟩⟩
 done:=by
  intro X hP hw hK hc i j4 s σ H E I hf st hg;subst hP hw hK;obtain⟨xs,hq,hx⟩:=hg;obtain⟨its,rv,p,hz⟩:=I.list hq;obtain⟨f0,f1,f2,f3,f4,f5⟩:=hf it (by simp);have hl:=rv.length;exact wpAny_pyNext_list_end (I.ok.hd hc) st p.isList (by simp;lia) λh' eb=>⟨rfl,I.turned (t':=s.toks) (λb o hb e=>eb b o hb e) f0 f1 f3 f4 f5⟩
 self:=λ_ _ _ _ _ st h=>wpAny_pyIter_listiter st h
theorem q08 {P:Program}{w:World}{K:PySem.W.Frag}{tg:Expr}(a it:Addr):Turn P w K tg (Itt K a) [it] it (λi h=>h.IsTupleIter it a i) where
 mem:=by simp
 obj:=λi h st b hb=>by
  have e:b=it:=by simpa using hb
  subst e;obtain⟨o,e,c,d⟩:=st;exact⟨o,e,λv z=>by rw[d] at z;cases z⟩
 keep:=λi h h' st k=>st.at λo e=>k it (by simp) o e
 item:=by
  intro X hP hw hK hc i j4 s σ H E I hf st hg;subst hP hw hK;obtain⟨xs,x,hq,hx⟩:=hg;obtain⟨its,rv,p,hz⟩:=I.tuple hq;obtain⟨u,hu,ru⟩:=rv.get hx;obtain⟨f0,f1,f2,f3,f4,f5⟩:=hf it (by simp);refine wpAny_pyNext_tuple_item st (show s.heap.IsTuple a its.toArray from p) (x:=u) (by simpa using hu) λh' st' sb=>?_;have I1:Inv X j4 σ H { s with heap:=h' }:=I.turned (t':=s.toks) (λb o hb e=>(sb.2 b hb).trans e) f0 f1 f3 f4 f5;obtain⟨o,e,c,d⟩:=id st';exact⟨u,rfl,xu8 (s:={ s with heap:=h' }) e c d (by decide) ⟨x,H,I1,ru,⟨rfl,λys hy=>by rw[I.tuple_inj hy hq];exact hx⟩,st',λb hb=>(hf b hb).1⟩⟩
 done:=by
  intro X hP hw hK hc i j4 s σ H E I hf st hg;subst hP hw hK;obtain⟨xs,hq,hx⟩:=hg;obtain⟨its,rv,p,hz⟩:=I.tuple hq;obtain⟨f0,f1,f2,f3,f4,f5⟩:=hf it (by simp);have hl:=rv.length;exact wpAny_pyNext_tuple_end (I.ok.hd hc) st (show s.heap.IsTuple a its.toArray from p) (by simp;lia) λh' eb=>⟨rfl,I.turned (t':=s.toks) (λb o hb e=>eb b o hb e) f0 f1 f3 f4 f5⟩
 self:=λ_ _ _ _ _ st h=>wpAny_pyIter_tupleiter st h
theorem q09 {P:Program}{w:World}{K:PySem.W.Frag}{tg:Expr}(it:Addr) (lo:Int) (n:Nat):Turn P w K tg (Itr lo n) [it] it (λi h=>IsRangeIter h it (lo+(i:Nat)*1) ((n:Int)-(i:Nat)) 1) where
 mem:=by simp
 obj:=λi h st b hb=>by
  have e:b=it:=by simpa using hb
  subst e;exact⟨_,st,λv z=>by
   have z':Data.fields _=Data.cell v:=z;cases z'⟩
 keep:=λi h h' st k=>k it (by simp) _ st
 item:=by
  intro X hP hw hK hc i j4 s σ H E I hf st hg;subst hP hw hK;obtain⟨f0,f1,f2,f3,f4,f5⟩:=hf it (by simp);have W:=Walks.range (prog:=X.prog) (w:=X.w) (I.ok.hd hc) it lo 1 n;refine W.item i s _ _ hg st λv h' tk hv st' kk=>?_;obtain⟨t,rfl⟩:=hv;have I1:Inv X j4 σ H { s with heap:=h',toks:=tk }:=I.turned (λb o hb e=>kk b o (by simpa using hb) e) f0 f1 f3 f4 f5;refine⟨_,rfl,xu8 (s:={ s with heap:=h',toks:=tk }) (n:= "range_iterator") st' rfl rfl (by decide) ⟨.int (lo+i),H,I1,⟨t,?_⟩,⟨rfl,rfl⟩,st',λb hb=>(hf b hb).1⟩⟩;rw[Int.mul_one]
 done:=by
  intro X hP hw hK hc i j4 s σ H E I hf st hg;subst hP hw hK;obtain⟨f0,f1,f2,f3,f4,f5⟩:=hf it (by simp);exact wpAny_pyNext_range_end (I.ok.hd hc) st (by have:n<=i:=hg;lia) λh' eb=>⟨rfl,I.turned (t':=s.toks) (λb o hb e=>eb b o hb e) f0 f1 f3 f4 f5⟩
 self:=λ_ _ _ _ _ st h=>wpAny_pyIter_rangeiter st h
section
variable {X:Cx}{tg:Expr}
def xI2 (K:PySem.W.Frag) (tl:TE):TI:=λσ H R=>tl σ H λx H1=>∃a,x=.ref a/\(∃xs,SqL K H1 a xs)/\R (Itl K a) H1
def iTup (K:PySem.W.Frag) (tl:TE):TI:=λσ H R=>tl σ H λx H1=>∃a,x=.ref a/\(∃xs,SqT K H1 a xs)/\R (Itt K a) H1
theorem qD6 {l:Expr}{tl:TE}(hl:PE X l tl):PI X tg l (xI2 X.K tl):=by
 intro j4 s σ H R I h;refine thn (hl j4 s σ H _ I h) λv s1 ⟨x,H1,I1,r1,q1⟩=>?_;obtain⟨a,e,⟨xs,hq⟩,q⟩:=q1;subst e;cases r1;obtain⟨its,rv,p,hz⟩:=I1.list hq;refine XS p.isList ?_;refine⟨s1.heap.objs.size,[s1.heap.objs.size],_,_,H1,rfl,I1.kept (t':=s1.toks) λb o e=>Zc _ e,q59 a _,⟨_,Zk _ rfl,rfl,rfl⟩,λb hb=>?_,q⟩;have e:b=s1.heap.objs.size:=by simpa using hb
 subst e;exact I1.fpOk (Zd _) (I1.hok.fresh (Zd _))
theorem qw4 {l:Expr}{tl:TE}(hl:PE X l tl):PI X tg l (iTup X.K tl):=by
 intro j4 s σ H R I h;refine thn (hl j4 s σ H _ I h) λv s1 ⟨x,H1,I1,r1,q1⟩=>?_;obtain⟨a,e,⟨xs,hq⟩,q⟩:=q1;subst e;cases r1;obtain⟨its,rv,p,hz⟩:=I1.tuple hq;refine Wl (show s1.heap.IsTuple a its.toArray from p) ?_;refine⟨s1.heap.objs.size,[s1.heap.objs.size],_,_,H1,rfl,I1.kept (t':=s1.toks) λb o e=>Zc _ e,q08 a _,⟨_,Zk _ rfl,rfl,rfl⟩,λb hb=>?_,q⟩;have e:b=s1.heap.objs.size:=by simpa using hb
 subst e;exact I1.fpOk (Zd _) (I1.hok.fresh (Zd _))
theorem range_it {j4:List (Addr×Obj)}{σ:St}{H:Hp}{s:Shared}{R:It->Hp->Prop}{E:Value->Shared->Prop}{lo hi:Int}{t u v:Tok}{tk:Nat}(I:Inv X j4 σ H s) (h1:-(2^62)<=lo) (h2:lo<2^62) (h3:-(2^62)<=hi) (h4:hi<2^62)
  (q:R (Itr lo (hi-lo).toNat) H):wpAny (model X.prog X.w) X.A (pyIter (.ref s.heap.objs.size)) (PIE X j4 σ tg R) E { s with heap:=s.heap.push { cls:=.type "range",data:=.fields #[.int lo t,.int hi u,.int 1 v] },toks:=tk }:=by
 refine wpAny_pyIter_range (IsRange.new ..) (small_one h1 h2 h3 h4) ?_;have I1:Inv X j4 σ H { s with heap:=s.heap.push { cls:=.type "range",data:=.fields #[.int lo t,.int hi u,.int 1 v] },toks:=tk }:=I.kept λb o e=>Zc _ e;refine⟨(s.heap.push { cls:=.type "range",data:=.fields #[.int lo t,.int hi u,.int 1 v] }).objs.size,[(s.heap.push { cls:=.type "range",data:=.fields #[.int lo t,.int hi u,.int 1 v] }).objs.size],_,_,H,rfl,
  I1.kept (t':=tk) λb o e=>Zc _ e,q09 _ lo (hi-lo).toNat,?_,λb hb=>?_,q⟩
 ·have e1:lo+((0:Nat):Int)*1=lo:=by simp
  have e2:(((hi-lo).toNat:Nat):Int)-((0:Nat):Int)=Builtin.Range.rangeSize lo hi 1:=by rw[rangeSize_one];split<;>lia
  show IsRangeIter _ _ (lo+((0:Nat):Int)*1) ((((hi-lo).toNat:Nat):Int)-((0:Nat):Int)) 1;rw[e1,e2];exact Zk _ rfl
 ·have e:b=(s.heap.push { cls:=.type "range",data:=.fields #[.int lo t,.int hi u,.int 1 v] }).objs.size:=by simpa using hb
  subst e;exact I1.fpOk (Zd _) (I1.hok.fresh (Zd _))
def xB5 (ta:TA):TI:=λσ H R=>ta σ H λvs H1=>∃j:Int,vs=[.int j]/\-(2^62)<=j/\j<2^62/\R (Itr 0 j.toNat) H1
theorem qh7 {a:Expr}{ta:TA}{p pos:Pos}(hg:Gl X "range") (hm:X.mg "range" = none) (ha:PA X [a] ta) (hs:starEach [a] X.env=[(false,eval a X.env)]:=by rfl):PI X tg (.Call (.Name "range" p) [a] [] pos) (xB5 ta):=by
 intro j4 s σ H R I h;refine Call_ (qI8 I hg hm boot_range (XU (thn (ha pos j4 s σ H _ I h) λus s1 ⟨vs,H1,I1,r1,q1⟩=>?_) hs rfl));obtain⟨j,e,q1,q2,q⟩:=q1;subst e;cases r1 with
 |cons r rr=>
  cases rr;obtain⟨t,rfl⟩:=r;exact call_range_1 (range_it I1 (by lia) (by lia) q1 q2 (by simpa using q))
def tFor (wi:TI) (g:TG) (tb:TS):TS:=λD σ H=>wi σ H λJ H1=>∃W:Nat->Nat->St->Hp->Prop,(∃m,W 0 m σ H1)/\∀i m σ H,W i m σ H ->
 (J.stop i H/\D.nx σ H)\/(J.go i H/\∃N:St->Hp->Prop,(∀σ' H',N σ' H'->∃m',m'<m/\W (i+1) m' σ' H')/\∀x H',J.yld i H x H'->g x σ H' λσ2 H2=>tb { D with nx:=N,ct:=N,bk:=D.nx } σ2 H2)
def qA8 (fp:List Addr) (h:Heap):List (Addr×Obj):=fp.filterMap λb=>(h.get? b).map λo=>(b,o)
theorem qj4 {fp:List Addr}{h:Heap}{b:Addr}{o:Obj}(hb:b∈fp) (e:h.get? b=some o):(b,o)∈qA8 fp h:=Wm.mpr ⟨b,hb,by rw[e];rfl⟩
theorem q60 {fp:List Addr}{h:Heap}{p:Addr×Obj}(hp:p∈qA8 fp h):p.1∈fp/\h.get? p.1=some p.2:=by
 obtain⟨b,hb,e⟩:=Wm.mp hp;cases q:h.get? b with
 |none=>rw[q] at e;cases e
 |some o=>
  rw[q] at e;have e':(b,o)=p:=Zw e;subst e';exact⟨hb,q⟩
theorem Inv.pinned {j4:List (Addr×Obj)}{σ:St}{H:Hp}{s:Shared}{fp:List Addr}(I:Inv X j4 σ H s) (hf:∀b∈fp,FpOk X j4 H b) (ho:∀b∈fp,∃o,s.heap.get? b=some o/\∀v,o.data≠.cell v):Inv X (j4++qA8 fp s.heap) σ H s:=
 I.pins_of λp hp=>(Z1.mp hp).elim (λz=>I.pin p (ZN _ z)) λz=>by
  obtain⟨hb,e⟩:=q60 z;obtain⟨f0,f1,f2,_⟩:=hf p.1 hb;obtain⟨o,e',d⟩:=ho p.1 hb;rw[e] at e';cases e';exact⟨e,f0,f1,f2,d⟩
theorem Inv.unpinned {j4 pl:List (Addr×Obj)}{σ:St}{H:Hp}{s:Shared}(I:Inv X (j4++pl) σ H s):Inv X j4 σ H s:=I.pins_of λp hp=>I.pin p (ZN _ (YV _ hp))
theorem qo6 {iter:Expr}{body:List Stmt}{wi:TI}{g:TG}{tb:TS}{pos:Pos}(hp:PassesOwn (model X.prog X.w) X.A X.env X.xe) (hc:X.calm=true) (hi:PI X tg iter wi) (hg:PG X tg g) (hb:PSs X body tb)
  (hs:∀x,foldedSetIterable iter X.env x=pure x:=by intro _;rfl):PS X (.For tg iter body [] pos) (tFor wi g tb):=by
 intro j4 s σ H D I h;refine wpAny_For (thn (hi j4 s σ H _ I h) λv s1 h1=>thn h1 λitv s2 h2=>?_) hs;obtain⟨it,fp,tn,J,H2,e,I2,T,st2,f2,W,⟨m0,w0⟩,turn⟩:=h2;subst e;have stat:∀{H':Hp},(∀b∈fp,H' b=none)->∀b∈fp,FpOk X j4 H' b:=λhn b hb=>⟨hn b hb,(f2 b hb).2⟩;refine codeAny_forLoop_any (λn s'=>∃i σ' H',Inv X j4 σ' H' s'/\tn i s'.heap/\(∀b∈fp,H' b=none)/\W i n σ' H') ?_ m0 ⟨0,σ,H2,I2,st2,λb hb=>(f2 b hb).1,w0⟩;rintro n s3 ⟨i,σ3,H3,I3,st3,fr3,w3⟩;rcases turn i n σ3 H3 w3 with ⟨stop,qn⟩|⟨go,N,hN,step⟩
 ·refine Wf hp (thn (T.done X rfl rfl rfl hc i j4 s3 σ3 H3 X.xe I3 (stat fr3) st3 stop) λr s4 ⟨hr,I4⟩=>?_);subst hr;exact WM ⟨σ3,H3,I4,qn⟩
 ·refine Wf hp (thn (T.item X rfl rfl rfl hc i j4 s3 σ3 H3 X.xe I3 (stat fr3) st3 go) λr s4 ⟨u,hr,h4⟩=>?_);subst hr;refine Wf hp (thn h4 λ_ s5 ⟨x,H5,I5,r5,y5,st5,fr5⟩=>?_);have I5':=I5.pinned (stat fr5) (T.obj _ _ st5);refine Wf hp (thn (hg _ s5 σ3 H5 x u _ I5' r5 (step x H5 y5)) λ_ s6 ⟨σ6,H6,I6,q6⟩=>?_);refine Wf hp (thn (hb _ s6 σ6 H6 _ I6 q6) λf s7 q7=>?_);have again:∀{σ7:St}{H7:Hp},Inv X (j4++qA8 fp s5.heap) σ7 H7 s7->N σ7 H7->∃m,m<n/\∃i σ' H',Inv X j4 σ' H' s7/\tn i s7.heap/\(∀b∈fp,H' b=none)/\W i m σ' H':=λ{σ7 H7} I7 n7=>by
   obtain⟨m',hm,w7⟩:=hN σ7 H7 n7;refine⟨m',hm,i+1,σ7,H7,I7.unpinned,T.keep _ _ _ st5 λb hb o e=>(I7.pin (b,o) (ZN _ (ZN _ (qj4 hb e)))).1,λb hb=>?_,w7⟩;obtain⟨o,e,d⟩:=T.obj _ _ st5 b hb;exact (I7.pin (b,o) (ZN _ (ZN _ (qj4 hb e)))).2.1
  cases f with
  |next=>obtain⟨σ7,H7,I7,n7⟩:=q7;exact again I7 n7
  |cont=>obtain⟨σ7,H7,I7,n7⟩:=q7;exact again I7 n7
  |brk=>obtain⟨σ7,H7,I7,q7⟩:=q7;exact⟨σ7,H7,I7.unpinned,q7⟩
  |ret v=>obtain⟨x7,σ7,H7,I7,r7,q7⟩:=q7;exact⟨x7,σ7,H7,I7.unpinned,r7,q7⟩
end
theorem qU6 {K:PySem.W.Frag}{a:Addr}{xs:List V}{g:TG}{tb:TS}{D:Ends}{σ:St}{H:Hp}(Pv:Nat->St->Hp->Prop) (h0:Pv 0 σ H) (hl:∀i σ H,i<=xs.length->Pv i σ H->SqL K H a xs)
  (hs:∀i x σ H,xs[i]?=some x->Pv i σ H->g x σ H λσ2 H2=>tb { D with nx:=Pv (i+1),ct:=Pv (i+1),bk:=D.nx } σ2 H2) (hd:∀σ H,Pv xs.length σ H->D.nx σ H) :
  ∃W:Nat->Nat->St->Hp->Prop,(∃m,W 0 m σ H)/\∀i m σ H,W i m σ H ->
   ((Itl K a).stop i H/\D.nx σ H)\/((Itl K a).go i H/\∃N:St->Hp->Prop,(∀σ' H',N σ' H'->∃m',m'<m/\W (i+1) m' σ' H')/\∀x H',(Itl K a).yld i H x H'->g x σ H' λσ2 H2=>tb { D with nx:=N,ct:=N,bk:=D.nx } σ2 H2):=by
 refine⟨λi m σ H=>m=xs.length-i/\i<=xs.length/\Pv i σ H,⟨xs.length,by simp,ZB _,h0⟩,?_⟩;rintro i m σ H ⟨rfl,hi,p⟩;have q:=hl i σ H hi p;by_cases j7:i<xs.length
 ·refine .inr ⟨⟨xs,xs[i],q,by simp[j7]⟩,Pv (i+1),λσ' H' p'=>⟨xs.length-(i+1),by lia,rfl,j7,p'⟩,λx H' y=>?_⟩;obtain⟨e,y⟩:=y;subst e;exact hs i x σ _ (y xs q) p
 ·have e:i=xs.length:=by lia
  subst e;exact .inl ⟨⟨xs,q,Zd _⟩,hd σ H p⟩
theorem qQ5 {K:PySem.W.Frag}{a:Addr}{xs:List V}{g:TG}{tb:TS}{D:Ends}{σ:St}{H:Hp}(Pv:Nat->St->Hp->Prop) (h0:Pv 0 σ H) (hl:∀i σ H,i<=xs.length->Pv i σ H->SqT K H a xs)
  (hs:∀i x σ H,xs[i]?=some x->Pv i σ H->g x σ H λσ2 H2=>tb { D with nx:=Pv (i+1),ct:=Pv (i+1),bk:=D.nx } σ2 H2) (hd:∀σ H,Pv xs.length σ H->D.nx σ H) :
  ∃W:Nat->Nat->St->Hp->Prop,(∃m,W 0 m σ H)/\∀i m σ H,W i m σ H ->
   ((Itt K a).stop i H/\D.nx σ H)\/((Itt K a).go i H/\∃N:St->Hp->Prop,(∀σ' H',N σ' H'->∃m',m'<m/\W (i+1) m' σ' H')/\∀x H',(Itt K a).yld i H x H'->g x σ H' λσ2 H2=>tb { D with nx:=N,ct:=N,bk:=D.nx } σ2 H2):=by
 refine⟨λi m σ H=>m=xs.length-i/\i<=xs.length/\Pv i σ H,⟨xs.length,by simp,ZB _,h0⟩,?_⟩;rintro i m σ H ⟨rfl,hi,p⟩;have q:=hl i σ H hi p;by_cases j7:i<xs.length
 ·refine .inr ⟨⟨xs,xs[i],q,by simp[j7]⟩,Pv (i+1),λσ' H' p'=>⟨xs.length-(i+1),by lia,rfl,j7,p'⟩,λx H' y=>?_⟩;obtain⟨e,y⟩:=y;subst e;exact hs i x σ _ (y xs q) p
 ·have e:i=xs.length:=by lia
  subst e;exact .inl ⟨⟨xs,q,Zd _⟩,hd σ H p⟩
theorem qJ0 {lo:Int}{n:Nat}{g:TG}{tb:TS}{D:Ends}{σ:St}{H:Hp}(Pv:Nat->St->Hp->Prop) (h0:Pv 0 σ H)
  (hs:∀i σ H,i<n->Pv i σ H->g (.int (lo+i)) σ H λσ2 H2=>tb { D with nx:=Pv (i+1),ct:=Pv (i+1),bk:=D.nx } σ2 H2) (hd:∀σ H,Pv n σ H->D.nx σ H) :
  ∃W:Nat->Nat->St->Hp->Prop,(∃m,W 0 m σ H)/\∀i m σ H,W i m σ H ->
   ((Itr lo n).stop i H/\D.nx σ H)\/((Itr lo n).go i H/\∃N:St->Hp->Prop,(∀σ' H',N σ' H'->∃m',m'<m/\W (i+1) m' σ' H')/\∀x H',(Itr lo n).yld i H x H'->g x σ H' λσ2 H2=>tb { D with nx:=N,ct:=N,bk:=D.nx } σ2 H2):=by
 refine⟨λi m σ H=>m=n-i/\i<=n/\Pv i σ H,⟨n,by simp,ZB _,h0⟩,?_⟩;rintro i m σ H ⟨rfl,hi,p⟩;by_cases j7:i<n
 ·refine .inr ⟨j7,Pv (i+1),λσ' H' p'=>⟨n-(i+1),by lia,rfl,j7,p'⟩,λx H' y=>?_⟩;obtain⟨e,y⟩:=y;subst e y;exact hs i σ _ j7 p
 ·have e:i=n:=by lia
  subst e;exact .inl ⟨Zd _,hd σ H p⟩
abbrev R2:=V->V->Hp->VK->Prop
def OpR (X:Cx) (f:Value->Value->Sem Value) (r:R2):Prop:=
 ∀(j4:List (Addr×Obj)) (s:Shared) (σ:St) (H:Hp) (x y:V) (v u:Value) (Q:VK),Inv X j4 σ H s->RelV x v->RelV y u->r x y H Q ->
  wpAny (model X.prog X.w) X.A (f v u) (EP X j4 σ Q) X.xe s
def qg3 (X:Cx) (f:Value) (r:List V->Hp->VK->Prop):Prop:=
 ∀(j4:List (Addr×Obj)) (s:Shared) (σ:St) (H:Hp) (xs:List V) (us:List Value) (Q:VK),Inv X j4 σ H s->Vals xs us->r xs H Q ->
  wpAny (model X.prog X.w) X.A (call f us) (EP X j4 σ Q) X.xe s
def tOp (r:R2) (ta tb:TE):TE:=λσ H Q=>ta σ H λx H1=>tb σ H1 λy H2=>r x y H2 Q
def rI (C:Int->Int->Prop) (g:Int->Int->V):R2:=λx y H Q=>∃i j,x=.int i/\y=.int j/\C i j/\Q (g i j) H
def rI0 (g:Int->Int->V):R2:=λx y H Q=>∃i j,x=.int i/\y=.int j/\Q (g i j) H
section
variable {X:Cx}{a b c:Expr}{ta tb tc:TE}{pos:Pos}
theorem binT (ha:PE X a ta) (hb:PE X b tb){j4:List (Addr×Obj)}{s:Shared}{σ:St}{H:Hp}{R:V->V->Hp->Prop}(I:Inv X j4 σ H s)
  (h:ta σ H λx H1=>tb σ H1 λy H2=>R x y H2){Q:Value->Shared->Prop}{f:Value->Value->Sem Value}
  (hf:∀v u s2 x y H2,Inv X j4 σ H2 s2->RelV x v->RelV y u->R x y H2->wpAny (model X.prog X.w) X.A (f v u) Q X.xe s2) :
  wpAny (model X.prog X.w) X.A (eval a X.env) (λv s₁=>wpAny (model X.prog X.w) X.A (eval b X.env) (λu s₂=>wpAny (model X.prog X.w) X.A (f v u) Q X.xe s₂) X.xe s₁) X.xe s:=by
 refine thn (ha j4 s σ H _ I h) λv s1 ⟨x,H1,I1,r1,q1⟩=>?_;refine thn (hb j4 s1 σ H1 _ I1 q1) λu s2 ⟨y,H2,I2,r2,q2⟩=>?_;exact hf v u s2 x y H2 I2 r1 r2 q2
theorem qb0 {op:Operator}{r:R2}(ho:OpR X (binaryOp op) r) (ha:PE X a ta) (hb:PE X b tb):PE X (.BinOp a op b pos) (tOp r ta tb):=by
 intro j4 s σ H Q I h;exact wpAny_BinOp (binT ha hb I h λv u s2 x y H2 I2 rx ry q=>ho j4 s2 σ H2 x y v u Q I2 rx ry q)
theorem opI {f:Value->Value->Sem Value}{C:Int->Int->Prop}{g:Int->Int->Int}
  (rule:∀(i j:Int) (t u:Tok) (s:Shared) (Q:Value->Shared->Prop) (E:Value->Shared->Prop),C i j->Q (.int (g i j) s.toks) { s with toks:=s.toks+1 }->wpAny (model X.prog X.w) X.A (f (.int i t) (.int j u)) Q E s) :
  OpR X f (rI C λi j=>.int (g i j)):=by
 intro j4 s σ H x y v u Q I rx ry h;obtain⟨i,j,rfl,rfl,hc,q⟩:=h;obtain⟨t,rfl⟩:=rx;obtain⟨t',rfl⟩:=ry;exact rule i j t t' s _ _ hc ⟨.int (g i j),H,I.tok _,⟨_,rfl⟩,q⟩
theorem opI0 {f:Value->Value->Sem Value}{g:Int->Int->Int}
  (rule:∀(i j:Int) (t u:Tok) (s:Shared) (Q:Value->Shared->Prop) (E:Value->Shared->Prop),Q (.int (g i j) s.toks) { s with toks:=s.toks+1 }->wpAny (model X.prog X.w) X.A (f (.int i t) (.int j u)) Q E s) :
  OpR X f (rI0 λi j=>.int (g i j)):=by
 intro j4 s σ H x y v u Q I rx ry h;obtain⟨i,j,rfl,rfl,q⟩:=h;obtain⟨t,rfl⟩:=rx;obtain⟨t',rfl⟩:=ry;exact rule i j t t' s _ _ ⟨.int (g i j),H,I.tok _,⟨_,rfl⟩,q⟩
theorem opB0 {f:Value->Value->Sem Value}{g:Int->Int->Bool}
  (rule:∀(i j:Int) (t u:Tok) (s:Shared) (Q:Value->Shared->Prop) (E:Value->Shared->Prop),Q (.bool (g i j)) s->wpAny (model X.prog X.w) X.A (f (.int i t) (.int j u)) Q E s) :
  OpR X f (rI0 λi j=>.bl (g i j)):=by
 intro j4 s σ H x y v u Q I rx ry h;obtain⟨i,j,rfl,rfl,q⟩:=h;obtain⟨t,rfl⟩:=rx;obtain⟨t',rfl⟩:=ry;exact rule i j t t' s _ _ ⟨.bl (g i j),H,I,rfl,q⟩
def CDiv (i j:Int):Prop:=0<j/\j<1073741824
def CPow (i j:Int):Prop:=0<=j/\j<=1000000/\i.natAbs<2^64
def CMul (i j:Int):Prop:=(-(2^64)<i/\i<2^64)\/(-(2^64)<j/\j<2^64)
theorem CMul.ok {i j:Int}(h:CMul i j):IntMulOk i j:=by
 rcases h with ⟨h1,h2⟩|⟨h1,h2⟩
 ·exact .of_left (intBits_le_64 h1 h2)
 ·exact .of_right (intBits_le_64 h1 h2)
theorem qc4:OpR X (binaryOp .Add) (rI0 λi j=>.int (i+j)):=opI0 λ_ _ _ _ _ _ _ q=>add_int q
theorem qe0:OpR X (binaryOp .Sub) (rI0 λi j=>.int (i-j)):=opI0 λ_ _ _ _ _ _ _ q=>sub_int q
theorem qJ1:OpR X (binaryOp .Mult) (rI CMul λi j=>.int (i*j)):=opI λ_ _ _ _ _ _ _ hc q=>mul_int q hc.ok
theorem qr8:OpR X (binaryOp .FloorDiv) (rI CDiv λi j=>.int (i/j)):=opI λi j _ _ _ _ _ hc q=>by
 have h1:(0:Int)<j:=hc.1;have h2:j<1073741824:=hc.2;exact floordiv_int (by lia) (by rw[Int.fdiv_eq_ediv_of_nonneg i (by lia)];exact q) (.inl (PyProof.noPylong_small (by lia)))
theorem qt3:OpR X (binaryOp .Mod) (rI (λ_ j=>0<j) λi j=>.int (i%j)):=opI λi j _ _ _ _ _ hc q=>by
 have h1:(0:Int)<j:=hc;exact mod_int' (by lia) (by rw[Int.fmod_eq_emod_of_nonneg i (by lia)];exact q)
theorem xB6:OpR X (binaryOp .Pow) (rI CPow λi j=>.int (i^j.toNat)):=opI λ_ _ _ _ _ _ _ hc q=>pow_int_small hc.1 hc.2.1 hc.2.2 q
theorem qn5:OpR X (binaryOp .LShift) (rI CPow λi j=>.int (i*2^j.toNat)):=opI λ_ _ _ _ _ _ _ hc q=>lshift_int_small hc.1 hc.2.1 hc.2.2 q
end
def scal:V->V->Bool
 |.non,.non=>true|.non,.int _=>true|.int _,.non=>true|.non,.bl _=>true|.bl _,.non=>true|.non,.str _=>true|.str _,.non=>true
 |.int _,.int _=>true|.bl _,.bl _=>true|.str _,.str _=>true|.byt _,.byt _=>true
 |.int _,.str _=>true|.str _,.int _=>true|.bl _,.str _=>true|.str _,.bl _=>true
 |_,_=>false
def rEq:R2:=λx y H Q=>scal x y=true/\Q (.bl (decide (x=y))) H
def rNe:R2:=λx y H Q=>scal x y=true/\Q (.bl (!decide (x=y))) H
theorem q61 {i j:Int}:decide (V.int i=V.int j)=(i==j):=by
 rw[YI];simp
theorem xq7 {i j:Bool}:decide (V.bl i=V.bl j)=(i==j):=by
 rw[YI];simp
theorem q62 {i j:Str}:decide (V.str i=V.str j)=(i==j):=by
 rw[YI];simp
theorem q63 {i j:Array UInt8}:decide (V.byt i=V.byt j)=(i.toList==j.toList):=by
 rw[YI];cases i;cases j;simp
section
variable {X:Cx}{a b c:Expr}{ta tb tc:TE}{pos:Pos}
theorem qc8 {j4:List (Addr×Obj)}{σ:St}{H:Hp}{s:Shared}{Q:VK}{k k':Bool}(I:Inv X j4 σ H s) (q:Q (.bl k) H) (e:k=k'):EP X j4 σ Q (.bool k') s:=by
 subst e;exact⟨.bl k,H,I,rfl,q⟩
theorem qw5:OpR X (compareOp .Eq) rEq:=by
 intro j4 s σ H x y v u Q I rx ry h;obtain⟨hs,q⟩:=h;cases x with
 |non=>
  cases rx;cases y with
  |non=>cases ry;exact PySem.EqNone.eq_none_none (qc8 I q (by simp))
  |bl j=>cases ry;exact PySem.EqNone.eq_none_bool (qc8 I q (by simp))
  |int j=>obtain⟨t',rfl⟩:=ry;exact PySem.EqNone.eq_none_int (qc8 I q (by simp))
  |str j=>obtain⟨t',rfl⟩:=ry;exact PySem.EqNone.eq_none_str (qc8 I q (by simp))
  |_=>exact absurd (show false=true from hs) ZD
 |bl i=>
  cases rx;cases y with
  |non=>cases ry;exact PySem.EqNone.eq_bool_none (qc8 I q (by simp))
  |bl j=>cases ry;exact eq_bool (qc8 I q xq7)
  |str j=>obtain⟨t',rfl⟩:=ry;exact PySem.EqMixed.eq_bool_str (qc8 I q (by simp))
  |_=>exact absurd (show false=true from hs) ZD
 |int i=>
  obtain⟨t,rfl⟩:=rx;cases y with
  |non=>cases ry;exact PySem.EqNone.eq_int_none (qc8 I q (by simp))
  |int j=>obtain⟨t',rfl⟩:=ry;exact eq_int (qc8 I q q61)
  |str j=>obtain⟨t',rfl⟩:=ry;exact PySem.EqMixed.eq_int_str (qc8 I q (by simp))
  |_=>exact absurd (show false=true from hs) ZD
 |str i=>
  obtain⟨t,rfl⟩:=rx;cases y with
  |non=>cases ry;exact PySem.EqNone.eq_str_none (qc8 I q (by simp))
  |bl j=>cases ry;exact PySem.EqMixed.eq_str_bool (qc8 I q (by simp))
  |int j=>obtain⟨t',rfl⟩:=ry;exact PySem.EqMixed.eq_str_int (qc8 I q (by simp))
  |str j=>obtain⟨t',rfl⟩:=ry;exact eq_str (qc8 I q q62)
  |_=>exact absurd (show false=true from hs) ZD
 |byt i=>
  obtain⟨t,rfl⟩:=rx;cases y with
  |byt j=>obtain⟨t',rfl⟩:=ry;exact PySem.W.eq_bytes (qc8 I q q63)
  |_=>exact absurd (show false=true from hs) ZD
 |_=>cases y<;>exact absurd (show false=true from hs) ZD
theorem qw6:OpR X (compareOp .NotEq) rNe:=by
 intro j4 s σ H x y v u Q I rx ry h;obtain⟨hs,q⟩:=h;cases x with
 |non=>
  cases rx;cases y with
  |non=>cases ry;exact PySem.EqNone.ne_none_none (qc8 I q (by simp))
  |bl j=>cases ry;exact PySem.EqNone.ne_none_bool (qc8 I q (by simp))
  |int j=>obtain⟨t',rfl⟩:=ry;exact PySem.EqNone.ne_none_int (qc8 I q (by simp))
  |str j=>obtain⟨t',rfl⟩:=ry;exact PySem.EqNone.ne_none_str (qc8 I q (by simp))
  |_=>exact absurd (show false=true from hs) ZD
 |bl i=>
  cases rx;cases y with
  |non=>cases ry;exact PySem.EqNone.ne_bool_none (qc8 I q (by simp))
  |bl j=>cases ry;exact ne_bool (qc8 I q (Yi not xq7))
  |str j=>obtain⟨t',rfl⟩:=ry;exact PySem.EqMixed.ne_bool_str (qc8 I q (by simp))
  |_=>exact absurd (show false=true from hs) ZD
 |int i=>
  obtain⟨t,rfl⟩:=rx;cases y with
  |non=>cases ry;exact PySem.EqNone.ne_int_none (qc8 I q (by simp))
  |int j=>obtain⟨t',rfl⟩:=ry;exact ne_int (qc8 I q (Yi not q61))
  |str j=>obtain⟨t',rfl⟩:=ry;exact PySem.EqMixed.ne_int_str (qc8 I q (by simp))
  |_=>exact absurd (show false=true from hs) ZD
 |str i=>
  obtain⟨t,rfl⟩:=rx;cases y with
  |non=>cases ry;exact PySem.EqNone.ne_str_none (qc8 I q (by simp))
  |bl j=>cases ry;exact PySem.EqMixed.ne_str_bool (qc8 I q (by simp))
  |int j=>obtain⟨t',rfl⟩:=ry;exact PySem.EqMixed.ne_str_int (qc8 I q (by simp))
  |str j=>obtain⟨t',rfl⟩:=ry;exact ne_str (qc8 I q (Yi not q62))
  |_=>exact absurd (show false=true from hs) ZD
 |byt i=>
  obtain⟨t,rfl⟩:=rx;cases y with
  |byt j=>obtain⟨t',rfl⟩:=ry;exact PySem.W.ne_bytes (qc8 I q (Yi not q63))
  |_=>exact absurd (show false=true from hs) ZD
 |_=>cases y<;>exact absurd (show false=true from hs) ZD
theorem qn8:OpR X (compareOp .Lt) (rI0 λi j=>.bl (decide (i<j))):=opB0 λ_ _ _ _ _ _ _ q=>lt_int q
theorem qr9:OpR X (compareOp .LtE) (rI0 λi j=>.bl (decide (i<=j))):=opB0 λ_ _ _ _ _ _ _ q=>le_int q
theorem xB7:OpR X (compareOp .Gt) (rI0 λi j=>.bl (decide (j<i))):=opB0 λ_ _ _ _ _ _ _ q=>gt_int q
theorem qw7:OpR X (compareOp .In) (λx y H Q=>∃i j,x=.str i/\y=.str j/\Q (.bl (!(Builtin.Str.occurrences j i 0 j.length 1).isEmpty)) H):=by
 intro j4 s σ H x y v u Q I rx ry h;obtain⟨i,j,rfl,rfl,q⟩:=h;obtain⟨t,rfl⟩:=rx;obtain⟨t',rfl⟩:=ry;exact in_str (qc8 I q rfl)
theorem xu9:OpR X (compareOp .IsNot) (λx y H Q=>y=.non/\Q (.bl (!decide (x=.non))) H):=by
 intro j4 s σ H x y v u Q I rx ry h;obtain⟨rfl,q⟩:=h;cases ry;refine isnot_none_gen (qc8 I q ?_);cases x<;>first
  |(cases rx;rfl)
  |(obtain⟨t,rfl⟩:=rx;rfl)
theorem qb4 (b:Expr){op:CmpOp}(h:op≠.In:=by decide) (h2:op≠.NotIn:=by decide):behindInMarks op b=false:=by
 have e1:(op==CmpOp.In)=false:=by cases op<;>first|rfl|exact absurd rfl h
 have e2:(op==CmpOp.NotIn)=false:=by cases op<;>first|rfl|exact absurd rfl h2
 cases b<;>simp[behindInMarks,e1,e2]
theorem qf7 {op:CmpOp}{r:R2}(ho:OpR X (compareOp op) r) (ha:PE X a ta) (hb:PE X b tb) (hm:behindInMarks op b=false):PE X (.Compare a [op] [b] pos) (tOp r ta tb):=by
 intro j4 s σ H Q I h;exact wpAny_Compare1 (binT ha hb I h λv u s2 x y H2 I2 rx ry q=>ho j4 s2 σ H2 x y v u Q I2 rx ry q) hm
def xI3 (t:TE):TT:=λσ H Q=>t σ H λx H'=>∃k,x=.bl k/\Q k H'
theorem qb2 {op:CmpOp}{r:R2}(ho:OpR X (compareOp op) r) (ha:PE X a ta) (hb:PE X b tb) (hm:behindInMarks op b=false):PT X (.Compare a [op] [b] pos) (xI3 (tOp r ta tb)):=by
 intro j4 s σ H Q I h;refine wpAny_isTrue_Compare1 (thn (ha j4 s σ H _ I h) λv s1 ⟨x,H1,I1,r1,q1⟩=>thn (hb j4 s1 σ H1 _ I1 q1) λu s2 ⟨y,H2,I2,r2,q2⟩=>
  thn (ho j4 s2 σ H2 x y v u _ I2 r1 r2 q2) λc s3 ⟨z,H3,I3,r3,k,e,q3⟩=>?_) hm
 subst e;cases r3;exact YQ ⟨H3,I3,q3⟩
def xB8 (r r':R2) (ta tb tc:TE):TE:=λσ H Q=>ta σ H λx H1=>tb σ H1 λy H2=>r x y H2 λz H3=>∃k,z=.bl k /\
 (if k=true then tc σ H3 λw' H4=>r' y w' H4 Q else Q (.bl false) H3)
theorem qu8 {op op':CmpOp}{r r':R2}(ho:OpR X (compareOp op) r) (ho':OpR X (compareOp op') r') (ha:PE X a ta) (hb:PE X b tb) (hc:PE X c tc)
  (hm:lastMarks [op,op'] [b,c]=false:=by with_unfolding_all rfl):PE X (.Compare a [op,op'] [b,c] pos) (xB8 r r' ta tb tc):=by
 intro j4 s σ H Q I h;refine Compare_chain (thn (ha j4 s σ H _ I h) λv s1 ⟨x,H1,I1,r1,q1⟩=>chain_link (thn (hb j4 s1 σ H1 _ I1 q1) λu s2 ⟨y,H2,I2,r2,q2⟩=>
  thn (ho j4 s2 σ H2 x y v u _ I2 r1 r2 q2) λd s3 ⟨z,H3,I3,r3,k,e,q3⟩=>?_)) hm
 subst e;cases r3;refine YQ ?_;cases k with
 |false=>exact ite_ff ⟨.bl false,H3,I3,rfl,q3⟩
 |true=>exact ite_tt (chain_last (thn (hc j4 s3 σ H3 _ I3 q3) λw' s4 ⟨z',H4,I4,r4,q4⟩=>ho' j4 s4 σ H4 y z' u w' Q I4 r2 r4 q4))
theorem qA9:(sizeLine:Nat)<2^63:=by rw[Xj];decide
theorem qs0:OpR X (binaryOp .Add) (λx y H Q=>∃i j,x=.str i/\y=.str j/\i.length+j.length<=sizeLine/\Q (.str (i++j)) H):=by
 intro j4 s σ H x y v u Q I rx ry h;obtain⟨i,j,rfl,rfl,hz,q⟩:=h;obtain⟨t,rfl⟩:=rx;obtain⟨t',rfl⟩:=ry;exact add_str (λt' tk=>⟨.str (i++j),H,I.tok _,⟨_,rfl⟩,q⟩) hz
theorem qi3 {x:V}{us:List Value}(r:Vals [x] us):∃u,us=[u]/\RelV x u:=by
 cases r with
 |cons r1 r2=>cases r2;exact⟨_,rfl,r1⟩
theorem xk4 {x y:V}{us:List Value}(r:Vals [x,y] us):∃u w',us=[u,w']/\RelV x u/\RelV y w':=by
 cases r with
 |cons r1 r2=>
  cases r2 with
  |cons r3 r4=>cases r4;exact⟨_,_,rfl,r1,r3⟩
theorem qU7:qg3 X (.builtin "abs") (λxs H Q=>∃i,xs=[.int i]/\Q (.int (if i<0 then -i else i)) H):=by
 intro j4 s σ H xs us Q I r h;obtain⟨i,rfl,q⟩:=h;obtain⟨u,rfl,t,rfl⟩:=qi3 r;exact call_abs_int λu tk=>⟨.int (if i<0 then -i else i),H,I.tok _,⟨_,rfl⟩,q⟩
theorem qo7 (hc:X.calm=true):qg3 X (.builtin "max") (λxs H Q=>∃i j,xs=[.int i,.int j]/\Q (.int (if j>i then j else i)) H):=by
 intro j4 s σ H xs us Q I r h;obtain⟨i,j,rfl,q⟩:=h;obtain⟨u,w',rfl,⟨t,rfl⟩,⟨t',rfl⟩⟩:=xk4 r;refine max_two_ints (I.ok.hd hc) λh' tk k=>⟨_,H,I.kept k,?_,q⟩;by_cases hj:j>i
 ·rw[Zt hj,Zt hj];exact⟨_,rfl⟩
 ·rw[Zm hj,Zm hj];exact⟨_,rfl⟩
theorem qk9 (hc:X.calm=true):qg3 X (.builtin "min") (λxs H Q=>∃i j,xs=[.int i,.int j]/\Q (.int (if j<i then j else i)) H):=by
 intro j4 s σ H xs us Q I r h;obtain⟨i,j,rfl,q⟩:=h;obtain⟨u,w',rfl,⟨t,rfl⟩,⟨t',rfl⟩⟩:=xk4 r;refine min_two_ints (I.ok.hd hc) λh' tk k=>⟨_,H,I.kept k,?_,q⟩;by_cases hj:j<i
 ·rw[Zt hj,Zt hj];exact⟨_,rfl⟩
 ·rw[Zm hj,Zm hj];exact⟨_,rfl⟩
theorem q64:qg3 X (.type "int") (λxs H Q=>(∃i,xs=[.int i]/\Q (.int i) H)\/∃k,xs=[.bl k]/\Q (.int (if k then 1 else 0)) H):=by
 intro j4 s σ H xs us Q I r h;rcases h with ⟨i,rfl,q⟩|⟨k,rfl,q⟩
 ·obtain⟨u,rfl,t,rfl⟩:=qi3 r;exact call_int_int ⟨.int i,H,I,⟨_,rfl⟩,q⟩
 ·obtain⟨u,rfl,r1⟩:=qi3 r;cases r1;exact call_int_bool ⟨.int (if k then 1 else 0),H,I.tok _,⟨_,rfl⟩,q⟩
theorem qJ2:qg3 X (.type "str") (λxs H Q=>∃i,xs=[.int i]/\i.natAbs.log2<1920/\Q (.str (toString i)) H):=by
 intro j4 s σ H xs us Q I r h;obtain⟨i,rfl,hz,q⟩:=h;obtain⟨u,rfl,t,rfl⟩:=qi3 r;exact PySem.P.str_of_int hz ⟨.str _,H,I.tok _,⟨_,rfl⟩,q⟩
end
structure ObjM (h:Heap) (x dx C:Addr) (mA:Str->Option Value):Prop where
 obj:h.get? x=some (PySem.W.instObj C dx)
 ns:h.Ns1 dx mA
 ne:dx≠x
theorem q65 {h:Heap}{dx:Addr}{mA:Str->Option Value}(n:h.Ns1 dx mA):∃od,h.get? dx=some od/\∀name,PySem.W.lookIn name od=some (mA name):=by
 obtain⟨o,es,ep,ho,hd,hk,_,hm⟩:=n;refine⟨o,ho,λname=>?_⟩;have e:=hm name;unfold nsFind findBy at e;rw[<- Array.find?_toList] at e;unfold PySem.W.lookIn;rw[hd];dsimp only;split
 ·rename_i y q;rw[q] at e;exact Yi some e
 ·rename_i q;rw[q] at e;have a:es.toList.any (·.refKey)=false:=by
   rw[Vc];intro y hy;obtain⟨z,t,hkey⟩:=hk y (Array.mem_toList_iff.mp hy);simp[DictEntry.refKey,hkey]
  have a':¬es.toList.any (·.refKey)=true:=by rw[a];exact ZD
  rw[Zm a'];exact Yi some e
theorem ObjM.look {h:Heap}{x dx C:Addr}{mA:Str->Option Value}(I:ObjM h x dx C mA):∃od,PySem.W.InstAt h x (PySem.W.instObj C dx) C (some od)/\∀name,PySem.W.lookIn name od=some (mA name):=
 let ⟨od,ho,hl⟩:=q65 I.ns
 ⟨od,⟨I.obj,rfl,rfl,ho⟩,hl⟩
section
variable {prog:Program}{w:World}{A:Around}{E:Value->Shared->Prop}{s:Shared}{K:PySem.W.Frag}{x dx C f:Addr}{mA:Str->Option Value}{name:Str}{v:Value}
theorem xv0 {expr:Bool}{Q:Value->Shared->Prop}(X:K.In s.heap) (I:ObjM s.heap x dx C mA) (hg:PySem.W.plainGet K C name=true) (hh:PySem.W.hasDictIn K C=true)
  (ha:PySem.W.findIn K (.ref C) name=some none) (hv:mA name=some v) (hv':PySem.W.handedIn v=true) (h:Q v { s with toks:=s.toks+1 }) :
  wpAny (model prog w) A (getAttr (.ref x) name expr) Q E s:=by
 obtain⟨od,J,hl⟩:=I.look;exact PySem.W.get_value X J (WS hg).1 (PySem.W.findObj_own hh ha rfl (by rw[hl,hv])) hv' h
theorem xk5 {pl:Sem Bool}{Q:Value×List Value->Shared->Prop}(X:K.In s.heap) (I:ObjM s.heap x dx C mA) (hg:PySem.W.plainGet K C name=true)
  (hf:PySem.W.findIn K (.ref C) name=some (some (.ref f))) (ht:PySem.W.isFn K (.ref f)=true) (hv:mA name=none) (h:Q (.ref f,[.ref x]) s) :
  wpAny (model prog w) A (getMethod (.ref x) name pl) Q E s:=by
 obtain⟨od,J,hl⟩:=I.look;exact PySem.W.method_fn X J (WS hg).1 (WS hg).2 hf (XB.mp ht) (by show (PySem.W.lookIn name od).map (·.isSome)=some false;rw[hl,hv];rfl) h
theorem xv1 {ns:List Str}{Q:Unit->Shared->Prop}(X:K.In s.heap) (I:ObjM s.heap x dx C mA)
  (hs:PySem.W.findIn K (.ref C) "__setattr__" = some (some (.builtin "object.__setattr__"))) (hp:PySem.W.plainOver K C=true) (ht:PySem.W.takerIn K C name=some none) (hh:PySem.W.hasDictIn K C=true)
  (hw:PySem.Within mA ns) (hsz:ns.length<=sizeLine)
  (h:∀h',ObjM h' x dx C (λy=>if y=name then some v else mA y)->Heap.SameBut dx s.heap h'->Q () { s with heap:=h',toks:=s.toks+2 }) :
  wpAny (model prog w) A (setAttr (.ref x) name v) Q E s:=by
 obtain⟨od,J,hl⟩:=I.look;refine PySem.W.set_plain X J hs (PySem.W.osa_open (s:={ s with toks:=s.toks+1 }) (r:=none) X J hp ht λb=>?_);obtain⟨cd,hc,hd'⟩:=PySem.W.any_some hh;have hx:s.heap.get? x=some ⟨.ref C,some dx,.plain,#[]⟩:=I.obj;refine Za (Zf (Za (Za (wpAny_loadPart hx (Za (PySem.W.Looks.here (s:={ s with toks:=s.toks+1 }) (PySem.W.looks_clsIn X hc) ?_))))));rw[hd'];refine Zf (a:=some dx) (Za (Zf (Za ?_)));refine wpAny_nsSet1 (s:={ s with toks:=s.toks+1 }) I.ns λh' hn2 hs2=>?_;obtain⟨oD,esD,epD,hoD,hdD,hcD⟩:=hn2.count (PySem.Within.cons name v hw);refine Za (wpAny_lookBehind hoD (by rw[hdD];exact pastItsLine_dict (ZE hcD (by rw[Zy];lia))) ?_);exact Zf (h _ ⟨(hs2.2 _ (Z0 I.ne)).trans I.obj,hn2,I.ne⟩ hs2)
theorem xk6 {R:Result->Shared->Prop}{vs:List Value}{kw:List (Str×Value)}(X:K.In s.heap) (hm:PySem.W.makesIn K C=true)
  (hi:PySem.W.findIn K (.ref C) "__init__" = some (some (.ref f))) (hf:PySem.W.typeIn K (.ref f)=some (.type "function"))
  (h:codeAny (model prog w) (A.under (.builtin "type.__call__" ⟨.ref C::vs,kw⟩)) (.call (.ref f) ⟨.ref (s.heap.objs.size+1)::vs,kw⟩) (PySem.W.InitBack (s.heap.objs.size+1) R)
   { s with heap:=(s.heap.push PySem.W.emptyDict).push (PySem.W.instObj C s.heap.objs.size) }) :
  codeAny (model prog w) A (.call (.ref C) ⟨vs,kw⟩) R s:=by
 obtain⟨hh,g,d,t,os⟩:=s;exact PySem.W.make_core (PySem.W.makes_of X hm) (PySem.W.looks_findIn X hi) (λself=>PySem.W.bind_fn X self hf) (.inl rfl) h
end
def putF (f:Str) (v:V):List (Str×V)->List (Str×V)
 |[]=>[(f,v)]
 |(g,x)::r=>if g=f then (g,v)::r else (g,x)::putF f v r
theorem qf1 (f g:Str) (v:V):∀fs:List (Str×V),(putF f v fs).lookup g=if g=f then some v else fs.lookup g
 |[]=>by
  show List.lookup g [(f,v)]=_;by_cases h:g=f
  ·have hb:(g==f)=true:=XB.mpr h;simp only[List.lookup,hb,Zt h]
  ·have hb:(g==f)=false:=Yz.mpr h;simp only[List.lookup,hb,Zm h]
 |(k,x)::r=>by
  have ih:=qf1 f g v r;rw[show putF f v ((k,x)::r)=(if k=f then (k,v)::r else (k,x)::putF f v r) from rfl];by_cases hk:k=f
  ·rw[Zt hk];by_cases h:g=k
   ·have hb:(g==k)=true:=XB.mpr h;simp only[List.lookup,hb,Zt (h.trans hk)]
   ·have hb:(g==k)=false:=Yz.mpr h;simp only[List.lookup,hb,Zm (λe:g=f=>h (e.trans hk.symm))]
  ·rw[Zm hk];by_cases h:g=k
   ·have hb:(g==k)=true:=XB.mpr h;simp only[List.lookup,hb,Zm (λe:g=f=>hk (h.symm.trans e))]
   ·have hb:(g==k)=false:=Yz.mpr h;simp only[List.lookup,hb];exact ih
theorem qw8 (f:Str) (v:V):∀fs:List (Str×V),f∈(putF f v fs).map (·.1)/\∀g,g∈fs.map (·.1)->g∈(putF f v fs).map (·.1)
 |[]=>⟨by simp[putF],λg h=>by simp at h⟩
 |(k,x)::r=>by
  obtain⟨i1,i2⟩:=qw8 f v r;rw[show putF f v ((k,x)::r)=(if k=f then (k,v)::r else (k,x)::putF f v r) from rfl];by_cases hk:k=f
  ·rw[Zt hk];subst hk;exact⟨by simp,λg h=>by simpa using h⟩
  ·rw[Zm hk];refine⟨?_,λg h=>?_⟩
   ·rw[Zz];exact Ze _ i1
   ·rw[Zz] at h ⊢;rcases ZC.mp h with e|e
    ·exact ZC.mpr (.inl e)
    ·exact Ze _ (i2 g e)
theorem qw9 (f:Str) (v:V):∀fs:List (Str×V),(putF f v fs).length<=fs.length+1
 |[]=>by simp[putF]
 |(k,x)::r=>by
  have ih:=qw9 f v r;rw[show putF f v ((k,x)::r)=(if k=f then (k,v)::r else (k,x)::putF f v r) from rfl];by_cases hk:k=f
  ·rw[Zt hk,Zy,Zy];lia
  ·rw[Zm hk,Zy,Zy];lia
theorem RelO.some_of {v:V}{o:Option Value}(r:RelO (some v) o):∃u,o=some u/\RelV v u:=by
 cases o with
 |none=>exact (show False from r).elim
 |some u=>exact⟨u,rfl,r⟩
theorem RelO.none_of {o:Option Value}(r:RelO none o):o=none:=by
 cases o with
 |none=>rfl
 |some u=>exact (show False from r).elim
theorem q66 {v:V}{u:Value}(r:RelV v u):PySem.W.handedIn u=true:=by
 cases v with
 |non=>cases (show u=Value.none from r);rfl
 |bl b=>cases (show u=Value.bool b from r);rfl
 |int i=>obtain⟨t,e⟩:=(show ∃t,u=Value.int i t from r);cases e;rfl
 |str x=>obtain⟨t,e⟩:=(show ∃t,u=Value.str x t from r);cases e;rfl
 |byt b=>obtain⟨t,e⟩:=(show ∃t,u=Value.bytes b t from r);cases e;rfl
 |flt b=>obtain⟨t,e⟩:=(show ∃t,u=Value.float b t from r);cases e;rfl
 |ref a=>cases (show u=Value.ref a from r);rfl
 |ty n=>cases (show u=Value.type n from r);rfl
section
variable {P:Program}{w:World}{H H':Hp}{h h':Heap}{a C dx:Addr}{fs fs':List (Str×V)}
theorem qD7 (hok:HOk P w H h) (e:H a=some (.ins C dx fs)):∃mA,ObjM h a dx C mA/\(∀f,RelO (fs.lookup f) (mA f))/\PySem.Within mA (fs.map (·.1))/\fs.length<=1000/\H dx=some (.own a):=by
 obtain⟨d,z,ne,ob,mA,n,r,q⟩:=(show ObjOk P w H h a (.ins C dx fs) from hok a _ e);exact⟨mA,⟨ob,n,ne⟩,r,q,z,d⟩
end
structure Cls (K:PySem.W.Frag) (C:Addr):Prop where
 pg:PySem.W.plainGet K C Str.empty=true
 hd:PySem.W.hasDictIn K C=true
 po:PySem.W.plainOver K C=true
 sa:PySem.W.findIn K (.ref C) "__setattr__" = some (some (.builtin "object.__setattr__"))
theorem Cls.get {K:PySem.W.Frag}{C:Addr}(c:Cls K C) (f:Str):PySem.W.plainGet K C f=true:=c.pg
def NoAttr (K:PySem.W.Frag) (C:Addr) (f:Str):Prop:=PySem.W.findIn K (.ref C) f=some none
theorem NoAttr.taker {K:PySem.W.Frag}{C:Addr}{f:Str}(n:NoAttr K C f):PySem.W.takerIn K C f=some none:=by
 unfold PySem.W.takerIn;rw[show PySem.W.findIn K (.ref C) f=some none from n]
 rfl
structure Meth (K:PySem.W.Frag) (C:Addr) (m:Str) (f:Addr):Prop where
 at_:PySem.W.findIn K (.ref C) m=some (some (.ref f))
 fn:PySem.W.isFn K (.ref f)=true
 kp:PySem.W.keepIn K (.ref f)=true
section
variable {X:Cx}{j4:List (Addr×Obj)}{σ:St}{H:Hp}{s:Shared}{a C dx:Addr}{fs:List (Str×V)}{f:Str}{v:V}{A:Around}{E:Value->Shared->Prop}
theorem q10 {b:Bool}{Q:Value->Shared->Prop}(I:Inv X j4 σ H s) (e:H a=some (.ins C dx fs)) (c:Cls X.K C) (n:NoAttr X.K C f) (l:fs.lookup f=some v)
  (h:∀u s',Inv X j4 σ H s'->RelV v u->Q u s'):wpAny (model X.prog X.w) A (getAttr (.ref a) f b) Q E s:=by
 obtain⟨mA,O,r,_,_,_⟩:=qD7 I.hok e;obtain⟨u,hu,ru⟩:=RelO.some_of (v:=v) (o:=mA f) (by rw[<- l];exact r f);exact xv0 I.kIn O (c.get f) c.hd n hu (q66 ru) (h u _ (I.tok _) ru)
theorem q11 {m:Str}{g:Addr}{pl:Sem Bool}{Q:Value×List Value->Shared->Prop}(I:Inv X j4 σ H s) (e:H a=some (.ins C dx fs)) (c:Cls X.K C) (k:Meth X.K C m g) (l:fs.lookup m=none)
  (h:Q (.ref g,[.ref a]) s):wpAny (model X.prog X.w) A (getMethod (.ref a) m pl) Q E s:=by
 obtain⟨mA,O,r,_,_,_⟩:=qD7 I.hok e;have hn:mA m=none:=RelO.none_of (by rw[<- l];exact r m);exact xk5 I.kIn O (c.get m) k.at_ k.fn hn h
theorem q12 {y:V}{u:Value}{Q:Unit->Shared->Prop}(I:Inv X j4 σ H s) (e:H a=some (.ins C dx fs)) (c:Cls X.K C) (n:NoAttr X.K C f) (hl:fs.length<1000) (ry:RelV y u)
  (h:∀s',Inv X j4 σ (upd H a (.ins C dx (putF f y fs))) s'->Q () s'):wpAny (model X.prog X.w) A (setAttr (.ref a) f u) Q E s:=by
 obtain⟨mA,O,r,wi,_,ho⟩:=qD7 I.hok e;have hz:(fs.map (·.1)).length<=sizeLine:=by rw[Zi,Xj];lia
 refine xv1 I.kIn O c.sa c.po n.taker c.hd wi hz λh' O' sb=>h _ ?_;have hd:∃o,h'.get? dx=some o:=let ⟨o,_,_,e',_⟩:=O'.ns;⟨o,e'⟩;refine I.write (x:=a) (e:=dx) (by rw[e];exact True.intro) (.inr ho) (λb q hb z=>(sb.2 b hb).trans z) hd ?_;refine⟨by rw[qa7 O.ne];exact ho,?_,O.ne,O'.obj,_,O'.ns,λg=>?_,λg hg=>?_⟩
 ·have:=qw9 f y fs;lia
 ·show RelO ((putF f y fs).lookup g) (if g=f then some u else mA g);rw[qf1];by_cases q:g=f
  ·rw[Zt q,Zt q];exact ry
  ·rw[Zm q,Zm q];exact r g
 ·by_cases q:g=f
  ·rw[q];exact (qw8 f y fs).1
  ·refine (qw8 f y fs).2 g (wi g λz=>hg ?_);show (if g=f then some u else mA g)=none;rw[Zm q];exact z
theorem Inv.made (I:Inv X j4 σ H s):Inv X j4 σ (upd (upd H s.heap.objs.size (.own (s.heap.objs.size+1))) (s.heap.objs.size+1) (.ins C s.heap.objs.size []))
  { s with heap:=(s.heap.push PySem.W.emptyDict).push (PySem.W.instObj C s.heap.objs.size) }:=by
 have e1:(s.heap.push PySem.W.emptyDict).get? s.heap.objs.size=some PySem.W.emptyDict:=Zk s.heap rfl;have e2:((s.heap.push PySem.W.emptyDict).push (PySem.W.instObj C s.heap.objs.size)).get? (s.heap.objs.size+1)=some (PySem.W.instObj C s.heap.objs.size):=by
  have:=Zk (s.heap.push PySem.W.emptyDict) (o:=PySem.W.instObj C s.heap.objs.size) rfl
  rwa [Yp] at this
 have e3:(s.heap.push PySem.W.emptyDict).Ns s.heap.objs.size (λ_=>none):=⟨PySem.W.emptyDict,#[],_,e1,rfl,(λe he=>absurd he (by simp)),λ_=>rfl⟩;have I1:=I.laid (a:=s.heap.objs.size) (o:=.own (s.heap.objs.size+1)) (h':=s.heap.push PySem.W.emptyDict) (t':=s.toks) (λb u q=>Zc _ q) (Zd _) ⟨_,e1⟩;refine I1.laid (a:=s.heap.objs.size+1) (o:=.ins C s.heap.objs.size []) (t':=s.toks) (λb u q=>Zc _ q) (WX (Yp _ _)) ?_;have ne:s.heap.objs.size≠s.heap.objs.size+1:=Zx (Z2 _);refine⟨by rw[qa7 ne,qa1],ZB _,ne,e2,λ_=>none,(Heap.Ns1.of_empty e3).at λo q=>Zc _ q,λ_=>True.intro,λy hy=>absurd rfl hy⟩
theorem xv2 {prog:Program}{w:World}{env:Env}{e:Expr}{f:Str}{pos:Pos}{s:Shared}{Q:Value->Shared->Prop}(hb:attributeBase e f env (eval e env)=eval e env)
  (h:wpAny (model prog w) A (eval e env) (λo s₁=>wpAny (model prog w) A (getAttr o f true) Q E s₁) E s):wpAny (model prog w) A (eval (.Attribute e f pos) env) Q E s:=
 Attribute_any_ h (by rw[arm_eval_Attribute,hb])
end
def tFld (K:PySem.W.Frag) (ta:TE) (f:Str):TE:=λσ H Q=>ta σ H λx H1=>∃a C dx fs v,x=.ref a/\H1 a=some (.ins C dx fs)/\Cls K C/\NoAttr K C f/\fs.lookup f=some v/\Q v H1
def sFld (K:PySem.W.Frag) (ta tv:TE) (f:Str):TS:=λD σ H=>tv σ H λy H1=>ta σ H1 λx H2=>∃a C dx fs,x=.ref a/\H2 a=some (.ins C dx fs)/\Cls K C/\NoAttr K C f/\fs.length<1000 /\
 D.nx σ (upd H2 a (.ins C dx (putF f y fs)))
section
variable {X:Cx}{o e value:Expr}{f:Str}{pos pos' tpos:Pos}{ta tv:TE}
theorem qx0 (he:PE X e ta) (hb:attributeBase e f X.env (eval e X.env)=eval e X.env):PE X (.Attribute e f pos) (tFld X.K ta f):=by
 intro j4 s σ H Q I h;refine xv2 hb (thn (he j4 s σ H _ I h) λu s1 ⟨x,H1,I1,rx,a,C,dx,fs,v,ex,ea,c,n,l,q⟩=>?_);subst ex;obtain rfl:u=Value.ref a:=rx;exact q10 I1 ea c n l λu' s2 I2 ru=>⟨v,H1,I2,ru,q⟩
theorem xq8 (ha:PE X o ta) (hv:PE X value tv) (hs:swapsWith value (some (.Attribute o f pos')) pos.line X.env=pure false):PS X (.Assign [.Attribute o f pos'] value pos) (sFld X.K ta tv f):=by
 intro j4 s σ H D I h;refine plainObj_wpAny_Assign_Attribute (thn (hv j4 s σ H _ I h) λu s1 ⟨y,H1,I1,ry,q⟩=>thn (ha j4 s1 σ H1 _ I1 q) λov s2 ⟨x,H2,I2,rx,a,C,dx,fs,ex,ea,c,n,l,q2⟩=>?_) hs;subst ex;obtain rfl:ov=Value.ref a:=rx;exact q12 I2 ea c n l ry λs3 I3=>⟨σ,_,I3,q2⟩
end
section
variable {X:Cx}{j4:List (Addr×Obj)}{σ:St}{H:Hp}{s:Shared}{A:Around}{E:Value->Shared->Prop}{Q:Value->Shared->Prop}{c:Value}{b:Bool}
inductive TyOf (K:PySem.W.Frag) (H:Hp):V->Value->Prop where
 |non:TyOf K H .non (.type "NoneType")
 |bl (x:Bool):TyOf K H (.bl x) (.type "bool")
 |int (i:Int):TyOf K H (.int i) (.type "int")
 |str (x:Str):TyOf K H (.str x) (.type "str")
 |flt (x:UInt64):TyOf K H (.flt x) (.type "float")
 |lst {a:Addr}{xs:List V}(e:H a=some (.lst xs)):TyOf K H (.ref a) (.type "list")
 |frz {a:Addr}{o:Obj}{xs:List V}(e:H a=some (.frz o (.lst xs))):TyOf K H (.ref a) (.type "list")
 |tup {a:Addr}{xs:List V}(e:H a=some (.tup xs)):TyOf K H (.ref a) (.type "tuple")
 |dK {a:Addr}{kvs:List (Key×V)}(e:H a=some (.dK kvs)):TyOf K H (.ref a) (.type "dict")
 |dT {a:Addr}{kvs:List (List Key×V)}(e:H a=some (.dT kvs)):TyOf K H (.ref a) (.type "dict")
 |ins {a C dx:Addr}{fs:List (Str×V)}(e:H a=some (.ins C dx fs)) (cl:Cls K C) (ha:PySem.W.findIn K (.ref C) "__class__" = some (some (.builtin "object.__class__")))
   (hn:PySem.W.specialIn K (.builtin "object.__class__") "__get__" = some (some (.builtin "getset_descriptor.__get__"))) (htk:PySem.W.takesIn K (.builtin "object.__class__")=some true)
   (hm:PySem.W.mroIn K C (.type "object")=some true):TyOf K H (.ref a) (.ref C)
theorem q67 {x:V}{u t:Value}(I:Inv X j4 σ H s) (rx:RelV x u) (ty:TyOf X.K H x t) (e:PySem.W.kitOne X.K t c=some b) (h:∀tk,Q (.bool b) { s with toks:=tk }) :
  wpAny (model X.prog X.w) A (call (.builtin "isinstance") [u,c]) Q E s:=by
 cases ty with
 |non=>cases (show u=Value.none from rx);exact Yv PySem.W.kitx_none I.kIn True.intro e (λz=>nomatch z) h
 |bl y=>cases (show u=Value.bool y from rx);exact Yv PySem.W.kitx_bool I.kIn True.intro e (λz=>nomatch z) h
 |int i=>obtain⟨t,q⟩:=(show ∃t,u=Value.int i t from rx);cases q;exact Yv PySem.W.kitx_int I.kIn True.intro e (λz=>nomatch z) h
 |str y=>obtain⟨t,q⟩:=(show ∃t,u=Value.str y t from rx);cases q;exact Yv PySem.W.kitx_str I.kIn True.intro e (λz=>nomatch z) h
 |flt y=>obtain⟨t,q⟩:=(show ∃t,u=Value.float y t from rx);cases q;exact Yv PySem.W.kitx_float I.kIn True.intro e (λz=>nomatch z) h
 |@lst a xs ea=>
  cases (show u=Value.ref a from rx);obtain⟨_,_,n,_,h1⟩:=(show ObjOk X.prog X.w H s.heap a (.lst xs) from I.hok a _ ea);exact Yv PySem.W.kitx_list I.kIn ⟨_,h1,rfl⟩ e (λz=>nomatch z) h
 |@frz a ob xs ea=>
  cases (show u=Value.ref a from rx);obtain⟨_,_,_,n,_,h1⟩:=(show ObjOk X.prog X.w H s.heap a (.frz ob (.lst xs)) from I.hok a _ ea);exact Yv PySem.W.kitx_list I.kIn ⟨_,h1,rfl⟩ e (λz=>nomatch z) h
 |@tup a xs ea=>
  cases (show u=Value.ref a from rx);obtain⟨_,_,_,p⟩:=(show ObjOk X.prog X.w H s.heap a (.tup xs) from I.hok a _ ea);obtain⟨o,h1,h2,_⟩:=p;exact Yv PySem.W.kitx_tuple I.kIn ⟨o,h1,h2⟩ e (λz=>nomatch z) h
 |@dK a kvs ea=>
  cases (show u=Value.ref a from rx);obtain⟨_,_,vs,_,p⟩:=(show ObjOk X.prog X.w H s.heap a (.dK kvs) from I.hok a _ ea);obtain⟨o,es,ep,h1,h2,_⟩:=p;exact Yv PySem.W.kitx_dict I.kIn ⟨o,h1,h2.1⟩ e (λz=>nomatch z) h
 |@dT a kvs ea=>
  cases (show u=Value.ref a from rx);obtain⟨_,_,xs,_,o,es,ep,h1,h2,_⟩:=(show ObjOk X.prog X.w H s.heap a (.dT kvs) from I.hok a _ ea);exact Yv PySem.W.kitx_dict I.kIn ⟨o,h1,h2.1⟩ e (λz=>nomatch z) h
 |@ins a C dx fs ea cl ha hn htk hm=>
  cases (show u=Value.ref a from rx);obtain⟨mA,O,_⟩:=qD7 I.hok ea;obtain⟨od,J,_⟩:=O.look;exact Yv (PySem.W.kitx_own (cl.get _) cl.hd ha hn htk hm) I.kIn J e (λz=>nomatch z) h
end
structure Room (k:Nat) (A:Around):Prop where
 hd:A.handled=none
 dp:A.depth+3*k+5<recursionLimit
 un:A.units+16*k+200<cLine
 gd:A.guards=some []
theorem Room.mono {j k:Nat}{A:Around}(r:Room k A) (h:j<=k):Room j A:=⟨r.hd,by have:=r.dp;lia,by have:=r.un;lia,r.gd⟩
theorem Room.deeper {k:Nat}{A:Around}(r:Room (k+1) A) (env:Env):Room k (A.deeper env):=
 ⟨r.hd,by have:=r.dp;show A.depth+1+3*k+5<_;lia,by have:=r.un;show A.units+3+16*k+200<_;lia,r.gd⟩
theorem q13 {A:Around}{C:Addr}{us:List Value}{kw:List (Str×Value)}:(A.under (.builtin "type.__call__" ⟨.ref C::us,kw⟩)).depth=A.depth+1:=by
 first|rfl|simp[Around.under,Code.weight,Code.isCreation,Code.isGuard,Code.isCaller,Code.frames,Code.isFrame,guardIds]
theorem q14 {A:Around}{C:Addr}{us:List Value}{kw:List (Str×Value)}:(A.under (.builtin "type.__call__" ⟨.ref C::us,kw⟩)).units=A.units+1:=by
 first|rfl|simp[Around.under,Code.cUnits,Code.frames,Code.isFrame]
theorem qQ6 {A:Around}{C:Addr}{us:List Value}{kw:List (Str×Value)}:(A.under (.builtin "type.__call__" ⟨.ref C::us,kw⟩)).guards=A.guards:=by
 first|rfl|(unfold Around.under;simp[Code.guards,Code.isGuard,guardIds,pushGuards])|(cases h:A.guards<;>simp[Around.under,Code.guards,Code.isGuard,guardIds,pushGuards,h])
theorem Room.make {k:Nat}{A:Around}(r:Room (k+1) A) (C:Addr) (us:List Value) (kw:List (Str×Value)):Room k (A.under (.builtin "type.__call__" ⟨.ref C::us,kw⟩)):=
 ⟨r.hd,by have:=r.dp;rw[q13];lia,by have:=r.un;rw[q14];lia,by rw[qQ6];exact r.gd⟩
theorem Room.depth {k:Nat}{A:Around}(r:Room k A):A.depth<recursionLimit:=by have:=r.dp;lia
theorem Room.units {k:Nat}{A:Around}(r:Room k A):A.units+64<cLine:=by have:=r.un;lia
def tNil:TA:=λ_ H Q=>Q [] H
def qn3 (ta:TE) (tr:TA):TA:=λσ H Q=>ta σ H λx H1=>tr σ H1 λxs H2=>Q (x::xs) H2
section
variable {X:Cx}{e:Expr}{es:List Expr}{te:TE}{t:TA}{pos:Pos}
theorem qa2:PA X [] tNil:=λ_ _ _ _ H Q I h=>Calls.spliced_nil ⟨[],H,I,.nil,h⟩
theorem qa0 (ha:PE X e te) (hr:PA X es t) (hs:starEach (e::es) X.env=(false,eval e X.env)::starEach es X.env:=by rfl):PA X (e::es) (qn3 te t):=by
 intro pos j4 s σ H Q I h;rw[hs];show wpAny _ _ (spliced ((false,eval e X.env)::backTo pos (starEach es X.env))) _ _ s;refine Calls.spliced_cons (thn (ha j4 s σ H _ I h) λu s1 ⟨x,H1,I1,r1,q1⟩=>?_);exact thn (hr pos j4 s1 σ H1 _ I1 q1) λus s2 ⟨xs,H2,I2,r2,q2⟩=>⟨x::xs,H2,I2,.cons r1 r2,q2⟩
def tTup (t:TA):TE:=λσ H Q=>t σ H λxs H1=>xs.length<=sizeLine/\∀p,H1 p=none->Q (.ref p) (upd H1 p (.tup xs))
def tLst (t:TA):TE:=λσ H Q=>t σ H λxs H1=>xs.length<=sizeLine/\∀p,H1 p=none->Q (.ref p) (upd H1 p (.lst xs))
theorem qg0 {x1} (h:PA X es t):PE X (.Tuple es x1 pos) (tTup t):=by
 intro j4 s σ H Q I hq;refine wpAny_Tuple_spliced (thn (h pos j4 s σ H _ I hq) λus s1 ⟨xs,H1,I1,r,z,q⟩=>⟨by rw[<- r.length];exact z,?_⟩);have hf:H1 s1.heap.objs.size=none:=I1.hok.fresh (Zd _);refine⟨.ref s1.heap.objs.size,upd H1 s1.heap.objs.size (.tup xs),I1.laid (t':=s1.toks) (λb u e=>Zc _ e) (Zd _) ?_,rfl,q _ hf⟩;exact⟨z,us,r,⟨_,Zk _ rfl,rfl,⟨_,rfl⟩,rfl⟩⟩
theorem qg1 (h:PA X es t):PE X (.List es pos) (tLst t):=by
 intro j4 s σ H Q I hq;refine wpAny_List_spliced (thn (h pos j4 s σ H _ I hq) λus s1 ⟨xs,H1,I1,r,z,q⟩=>⟨by rw[<- r.length];exact z,?_⟩);have hf:H1 s1.heap.objs.size=none:=I1.hok.fresh (Zd _);refine⟨.ref s1.heap.objs.size,upd H1 s1.heap.objs.size (.lst xs),I1.laid (t':=s1.toks) (λb u e=>Zc _ e) (Zd _) ?_,rfl,q _ hf⟩;exact⟨z,us,0,r,Zk _ rfl⟩
end
abbrev Sp:=List V->Hp->VK->XK->Prop
abbrev CXT:=List Env->Hp->Shared->XK->Value->Shared->Prop
structure Env0 (P:Program) (w:World) (K:PySem.W.Frag) (mg:Str->Option Value) (base:Heap) (A:Around) (outer:List Env) (s:Shared) (H:Hp):Prop where
 frames:A.frames=some outer
 mod:Mod K mg base
 bs:∀b o,base.get? b=some o->s.heap.get? b=some o/\H b=none
 bsz:base.objs.size<=s.heap.objs.size
 funs:s.heap.FunFrames base outer
 frf:∀b∈frs outer,H b=none
 hok:HOk P w H s.heap
 bare:AllBare s.gens
def CE (outer:List Env) (P:Program) (w:World) (H:Hp) (s:Shared) (Q:VK) (u:Value) (s':Shared):Prop:=
 ∃v H',s'.os=s.os/\AllBare s'.gens/\Un (frs outer) [] H H' s.heap s'.heap/\HOk P w H' s'.heap/\RelV v u/\Q v H'
def CR (CX:CXT) (outer:List Env) (P:Program) (w:World) (H:Hp) (s:Shared) (Q:VK) (E:XK) (r:Result) (s':Shared):Prop:=
 match r with
 |.ok (.ret u)=>CE outer P w H s Q u s'
 |.ok _=>False
 |.error e=>CX outer H s E e s'
structure FnOk (P:Program) (w:World) (K:PySem.W.Frag) (mg:Str->Option Value) (base:Heap) (CX:CXT) (k:Nat) (f:Addr) (fd:FuncData) (ps:List Str) (sp:Sp):Prop where
 len:∀vs H Q E,sp vs H Q E->vs.length=ps.length
 run:∀(A:Around) (outer:List Env) (s:Shared) (H:Hp) (args:Args) (us:List Value) (vs:List V) (Q:VK) (E:XK),Room k A->Env0 P w K mg base A outer s H->BindsTo s fd args (ps.zip us)->Vals vs us->sp vs H Q E ->
  codeAny (model P w) A (.call (.ref f) args) (CR CX outer P w H s Q E) s
theorem FnOk.imp {P:Program}{w:World}{K:PySem.W.Frag}{mg:Str->Option Value}{base:Heap}{CX:CXT}{k:Nat}{f:Addr}{fd:FuncData}{ps:List Str}{sp sp':Sp}(F:FnOk P w K mg base CX k f fd ps sp)
  (h:∀vs H Q E,sp' vs H Q E->sp vs H Q E):FnOk P w K mg base CX k f fd ps sp':=
 ⟨λvs H Q E q=>F.len vs H Q E (h _ _ _ _ q),λA outer s H args us vs Q E hr he hb hv hs=>F.run A outer s H args us vs Q E hr he hb hv (h _ _ _ _ hs)⟩
theorem Env0.make {P:Program}{w:World}{K:PySem.W.Frag}{mg:Str->Option Value}{base:Heap}{A:Around}{outer:List Env}{s:Shared}{H:Hp}(e:Env0 P w K mg base A outer s H) (C:Addr) (us:List Value) (kw:List (Str×Value)) :
  Env0 P w K mg base (A.under (.builtin "type.__call__" ⟨.ref C::us,kw⟩)) outer s H:=⟨by first|exact e.frames|(simpa [Around.under,Code.envs,Code.isFrame,pushEnvs] using e.frames),e.mod,e.bs,e.bsz,e.funs,e.frf,e.hok,e.bare⟩
section
variable {X:Cx}{j4:List (Addr×Obj)}{σ:St}{H:Hp}{s s':Shared}
theorem Inv.env0 (I:Inv X j4 σ H s):Env0 X.prog X.w X.K X.mg X.base X.A X.stack s H:=
 ⟨I.ok.frames,I.ok.mod,I.bs,ZE I.ok.bsz I.sz,I.stack,I.stkFree,I.hok,I.bare⟩
theorem Inv.after {Q:VK}{u:Value}(I:Inv X j4 σ H s) (h:CE X.stack X.prog X.w H s Q u s'):EP X j4 σ Q u s':=by
 obtain⟨v,H',os,bare,un,hok,r,q⟩:=h;obtain⟨hh,g,d,t,os'⟩:=s';obtain rfl:os'=s.os:=os;exact⟨v,H',I.call (h':=hh) (g':=g) (d':=d) (t':=t) (ch:=[]) un hok bare (λb z=>absurd z (by simp)),r,q⟩
end
def xk7 (sp:Sp) (dvs:List V) (E:XK) (t:TA):TE:=λσ H Q=>t σ H λvs H1=>sp (vs++dvs) H1 Q E
def xI4 (C:Addr) (m:Str) (sp:Sp) (dvs:List V) (E:XK) (ta:TE) (t:TA):TE:=λσ H Q=>ta σ H λx H1=>∃a dx fs,x=.ref a/\H1 a=some (.ins C dx fs)/\fs.lookup m=none /\
 t σ H1 λvs H2=>sp (x::(vs++dvs)) H2 Q E
def xI5 (C:Addr) (sp:Sp) (dvs:List V) (E:XK) (t:TA):TE:=λσ H Q=>t σ H λvs H1=>∀x dx,H1 x=none->H1 dx=none->dx≠x ->
 sp (.ref x::(vs++dvs)) (upd (upd H1 dx (.own x)) x (.ins C dx [])) (λv H2=>v=.non/\Q (.ref x) H2) E
def Binds (K:PySem.W.Frag) (fd:FuncData) (ps:List Str) (ds:List Value):Prop:=
 ∀(s:Shared) (us:List Value),K.In s.heap->(us++ds).length=ps.length->BindsTo s fd ⟨us,[]⟩ (ps.zip (us++ds))
theorem Binds.all {K:PySem.W.Frag}{fd:FuncData}{ps:List Str}(h:∀us:List Value,us.length=ps.length->bindArgs fd ⟨us,[]⟩=pure (ps.zip us)):Binds K fd ps []:=λs us _ hl=>by
 rw[Wg] at hl ⊢;exact .of_eq (h us hl)
def qt4 (CX:CXT) (X:Cx) (E:XK):Prop:=∀(j4:List (Addr×Obj)) (σ:St) (H:Hp) (s:Shared) (e:Value) (s':Shared),Inv X j4 σ H s->CX X.stack H s E e s'->X.xe e s'
section
variable {X:Cx}{CX:CXT}{k:Nat}{f C:Addr}{fd:FuncData}{ps:List Str}{sp:Sp}{dvs:List V}{ds:List Value}{E:XK}{x m:Str}{p pos apos:Pos}{e o:Expr}{es:List Expr}{ta:TE}{t:TA}
theorem xq9 {j4:List (Addr×Obj)}{σ:St}{H:Hp}{s:Shared}{Q:VK}{us:List Value}{vs:List V}(F:FnOk X.prog X.w X.K X.mg X.base CX k f fd ps sp) (hr:Room k X.A) (hb:Binds X.K fd ps ds) (hd:Vals dvs ds) (hx:qt4 CX X E)
  (I:Inv X j4 σ H s) (r:Vals vs us) (h:sp (vs++dvs) H Q E):wpAny (model X.prog X.w) X.A (call (.ref f) us) (EP X j4 σ Q) X.xe s:=by
 have r2:Vals (vs++dvs) (us++ds):=r.append hd;have hl:(us++ds).length=ps.length:=by rw[<- r2.length];exact F.len _ _ _ _ h
 refine wpAny_call (X6 (F.run X.A X.stack s H ⟨us,[]⟩ (us++ds) (vs++dvs) Q E hr I.env0 (hb s us I.kIn hl) r2 h) λr s' hq=>?_);cases r with
 |error e=>exact hx j4 σ H s e s' I hq
 |ok fl=>
  cases fl with
  |ret u=>exact I.after hq
  |next=>exact False.elim hq
  |brk=>exact False.elim hq
  |cont=>exact False.elim hq
theorem qh8 (F:FnOk X.prog X.w X.K X.mg X.base CX k f fd ps sp) (hr:Room k X.A) (hg:Gl X x) (hm:X.mg x=some (.ref f)) (hk:PySem.W.keepIn X.K (.ref f)=true) (hb:Binds X.K fd ps ds) (hd:Vals dvs ds) (hx:qt4 CX X E)
  (ha:PA X (e::es) t) (vR:(x==("__debug__" : Str))=false:=by decide) (he:starEach (e::es) X.env=(false,eval e X.env)::starEach es X.env:=by rfl) (jF:(backTo pos (starEach es X.env)).any (·.1)=false:=by rfl) :
  PE X (.Call (.Name x p) (e::es) [] pos) (xk7 sp dvs E t):=by
 intro j4 s σ H Q I h;refine XC (qr6 I hg hm ?_ vR);refine W0 (h₀:=X.base) I.ok.mod.kin hk (thn (ha pos j4 s σ H _ I h) λus s1 ⟨vs,H1,I1,r,q⟩=>⟨I1.kIn,?_⟩) he jF;exact xq9 F hr hb hd hx I1 r q
theorem qD8 {pl:Sem Bool}(he:PE X o ta) (c:Cls X.K C) (hm:Meth X.K C m f) (F:FnOk X.prog X.w X.K X.mg X.base CX k f fd ps sp) (hr:Room k X.A) (hb:Binds X.K fd ps ds) (hd:Vals dvs ds) (hx:qt4 CX X E) (ha:PA X (e::es) t)
  (kP:starEach (e::es) X.env=(false,eval e X.env)::starEach es X.env:=by rfl) (jF:(backTo pos (starEach es X.env)).any (·.1)=false:=by rfl)
  (ht:eval (.Call (.Attribute o m apos) (e::es) [] pos) X.env=(do
   let ov <- eval o X.env
   standAt apos.atName
   let (f,first) <- holding [ov] (getMethod ov m pl)
   callWith pos f first (backTo pos (starEach (e::es) X.env)) (backToKw pos (keywordEach [] X.env))):=by rfl) :
  PE X (.Call (.Attribute o m apos) (e::es) [] pos) (xI4 C m sp dvs E ta t):=by
 intro j4 s σ H Q I h;refine PySem.W.methodCall_KW (pl:=pl) (thn (he j4 s σ H _ I h) λu s1 ⟨x,H1,I1,rx,a,dx,fs,ex,ea,l,q⟩=>?_) ht;subst ex;obtain rfl:u=Value.ref a:=rx;refine q11 I1 ea c hm l ?_;refine W0 (first:=[.ref a]) (h₀:=X.base) I.ok.mod.kin hm.kp (thn (ha pos j4 s1 σ H1 _ I1 q) λus s2 ⟨vs,H2,I2,r,q2⟩=>⟨I2.kIn,?_⟩) kP jF;exact xq9 (us:=.ref a::us) (vs:=.ref a::vs) F hr hb hd hx I2 (.cons rfl r) q2
structure Mk (K:PySem.W.Frag) (C f:Addr):Prop where
 makes:PySem.W.makesIn K C=true
 init:PySem.W.findIn K (.ref C) "__init__" = some (some (.ref f))
 fn:PySem.W.isFn K (.ref f)=true
 kp:PySem.W.keepIn K (.ref C)=true
theorem xk8 {j4:List (Addr×Obj)}{σ:St}{H:Hp}{s:Shared}{Q:VK}{us:List Value}{vs:List V}(M:Mk X.K C f) (F:FnOk X.prog X.w X.K X.mg X.base CX k f fd ps sp) (hr:Room (k+1) X.A) (hb:Binds X.K fd ps ds) (hd:Vals dvs ds)
  (hx:qt4 CX X E) (I:Inv X j4 σ H s) (r:Vals vs us)
  (h:∀x dx,H x=none->H dx=none->dx≠x->sp (.ref x::(vs++dvs)) (upd (upd H dx (.own x)) x (.ins C dx [])) (λv H2=>v=.non/\Q (.ref x) H2) E) :
  wpAny (model X.prog X.w) X.A (call (.ref C) us) (EP X j4 σ Q) X.xe s:=by
 have hq:=h (s.heap.objs.size+1) s.heap.objs.size (I.hok.fresh (Nat.le_succ _)) (I.hok.fresh (Zd _)) (Zx (Z2 _));have I2:=Inv.made (C:=C) I;have r2:Vals (V.ref (s.heap.objs.size+1)::(vs++dvs)) (Value.ref (s.heap.objs.size+1)::(us++ds)):=.cons rfl (r.append hd);have hl:(Value.ref (s.heap.objs.size+1)::us++ds).length=ps.length:=by
  have e:=r2.length;rw[F.len _ _ _ _ hq] at e;exact e.symm
 refine wpAny_call (xk6 (f:=f) I.kIn M.makes M.init (XB.mp M.fn) (X6 (F.run _ X.stack _ _ ⟨Value.ref (s.heap.objs.size+1)::us,[]⟩ (Value.ref (s.heap.objs.size+1)::(us++ds)) _ _ E (hr.make C us [])
  (I2.env0.make C us []) (hb _ (Value.ref (s.heap.objs.size+1)::us) I2.kIn hl) r2 hq) λr s' hq'=>?_))
 cases r with
 |error e=>exact hx j4 σ _ _ e s' I2 hq'
 |ok fl=>
  cases fl with
  |ret u=>
   obtain⟨v,H',I3,rv,ev,q3⟩:=I2.after hq';subst ev;exact⟨rv,⟨V.ref (s.heap.objs.size+1),H',I3,rfl,q3⟩⟩
  |next=>exact False.elim hq'
  |brk=>exact False.elim hq'
  |cont=>exact False.elim hq'
theorem xk9 (M:Mk X.K C f) (F:FnOk X.prog X.w X.K X.mg X.base CX k f fd ps sp) (hr:Room (k+1) X.A) (hg:Gl X x) (hm:X.mg x=some (.ref C)) (hb:Binds X.K fd ps ds) (hd:Vals dvs ds) (hx:qt4 CX X E)
  (vR:(x==("__debug__" : Str))=false:=by decide):PE X (.Call (.Name x p) [] [] pos) (xI5 C sp dvs E tNil):=by
 intro j4 s σ H Q I h;refine XC (qr6 I hg hm ?_ vR);exact PySem.W.callWith_K0 I.kIn M.kp (xk8 (us:=[]) M F hr hb hd hx I .nil h)
end
section
variable {X:Cx}{CX:CXT}{k:Nat}{f C:Addr}{fd:FuncData}{ps ks:List Str}{sp:Sp}{E:XK}{x m:Str}{p pos apos kpos:Pos}{e o:Expr}{es:List Expr}{kws:List Keyword}{te ta:TE}{t tk:TA}{nm:Option Str}
variable {g:List Value->List Value->List Value}{gV:List V->List V->List V}
end
structure FnScope (N P:List Str) (sc:Scope):Prop where
 kind:sc.kind=.function
 co:sc.isCoroutine=false
 gen:sc.isGenerator=false
 nd:N.Nodup
 pre:N.take P.length=P
 par:∀x∈P,sc.names.lookup x=some .local\/sc.names.lookup x=some .cell
 nofree:∀y∈sc.names,y.2≠.free
theorem qJ3 {kindOf:Str->Option NameKind}{x:Str}:∀{binds:List (Str×Value)}{m:Str->Option Value},(∀v,(x,v)∉binds)->bindL kindOf binds m x=m x
 |[],_,_=>rfl
 |(n,v)::r,m,h=>by
  unfold bindL;rw[qJ3 λw hw=>h w (Ze _ hw)];split
  ·have:x≠n:=by rintro rfl;exact h v Zh
   simp[this]
  ·rfl
theorem qJ4 {kindOf:Str->Option NameKind}{x:Str}:∀{binds:List (Str×Value)}{m:Str->Option Value},(∀v,(x,v)∉binds)->bindC kindOf binds m x=m x
 |[],_,_=>rfl
 |(n,v)::r,m,h=>by
  unfold bindC;rw[qJ4 λw hw=>h w (Ze _ hw)];split
  ·rfl
  ·have:x≠n:=by rintro rfl;exact h v Zh
   simp[this]
theorem qx1 {kindOf:Str->Option NameKind}{x:Str}{v:Value}:∀{P:List Str}{vs:List Value}{i:Nat}{m:Str->Option Value},P.Nodup->P[i]?=some x->vs[i]?=some v->kindOf x=some .local ->
  bindL kindOf (P.zip vs) m x=some v
 |[],_,_,_,_,h,_,_=>by simp at h
 |_::_,[],_,_,_,_,h,_=>by simp at h
 |p::P,w::vs,0,m,nd,h1,h2,hk=>by
  simp at h1 h2;subst h1;subst h2;show bindL kindOf ((p,w)::P.zip vs) m p=_;unfold bindL;rw[qJ3 λv hv=>(YJ.mp nd).1 (WN hv).1,Zt hk];simp
 |p::P,w::vs,i+1,m,nd,h1,h2,hk=>by
  show bindL kindOf ((p,w)::P.zip vs) m x=_;unfold bindL;exact qx1 (i:=i) (YJ.mp nd).2 (by simpa using h1) (by simpa using h2) hk
theorem qx2 {kindOf:Str->Option NameKind}{x:Str}{v:Value}:∀{P:List Str}{vs:List Value}{i:Nat}{m:Str->Option Value},P.Nodup->P[i]?=some x->vs[i]?=some v->kindOf x≠some .local ->
  bindC kindOf (P.zip vs) m x=some v
 |[],_,_,_,_,h,_,_=>by simp at h
 |_::_,[],_,_,_,_,h,_=>by simp at h
 |p::P,w::vs,0,m,nd,h1,h2,hk=>by
  simp at h1 h2;subst h1;subst h2;show bindC kindOf ((p,w)::P.zip vs) m p=_;unfold bindC;rw[qJ4 λv hv=>(YJ.mp nd).1 (WN hv).1,Zm hk];simp
 |p::P,w::vs,i+1,m,nd,h1,h2,hk=>by
  show bindC kindOf ((p,w)::P.zip vs) m x=_;unfold bindC;exact qx2 (i:=i) (YJ.mp nd).2 (by simpa using h1) (by simpa using h2) hk
def start (N:List Str) (vs:List V):St:=vs.map some++List.replicate (N.length-vs.length) none
def cxOf (CX:CXT) (P:Program) (w:World) (K:PySem.W.Frag) (mg:Str->Option Value) (base:Heap) (N:List Str) (qual:Str) (scope:Scope) (f:Addr) (cd:Value) (A:Around) (outer:List Env) (s:Shared) (H:Hp) (E:XK):Cx where
 prog:=P
 w:=w
 K:=K
 mg:=mg
 base:=base
 A:=A.deeper (envOfC qual scope s.heap.objs.size f cd)
 N:=N
 s₀:=s
 H₀:=H
 env:=envOfC qual scope s.heap.objs.size f cd
 outer:=outer
 stack:=envOfC qual scope s.heap.objs.size f cd::outer
 ex:=[]
 calm:=true
 fn:=λ_=>true
 pn:=[]
 xe:=λe s'=>wpAny (model P w) (A.deeper (envOfC qual scope s.heap.objs.size f cd)) (leaving (envOfC qual scope s.heap.objs.size f cd) e) (λ_ s''=>CX outer H s E e s'') (λe' s''=>CX outer H s E e' s'') s'
theorem qu9 {sc:Scope}{n:Nat}{x:Str}(h:sc.names.lookup x=some .cell):∃c,(cellsFrom n sc.names []).lookup x=some c:=by
 have q:=Wq sc.names n [] (.inl h);exact Xp.mp q
theorem q68 {CX:CXT}{P:Program}{w:World}{K:PySem.W.Frag}{mg:Str->Option Value}{base:Heap}{N ps:List Str}{qual:Str}{scope:Scope}{f:Addr}{cd:Value}{A:Around}{outer:List Env}{s s1:Shared}{H:Hp}{E:XK}{us:List Value}{vs:List V}
  (S:FnScope N ps scope) (hd:A.handled=none) (e0:Env0 P w K mg base A outer s H) (hl:vs.length=ps.length) (r:Vals vs us)
  (x:InCallC s s.heap.objs.size (bindL (envOfC qual scope s.heap.objs.size f cd).kindOf (ps.zip us) λ_=>none) (cellsFrom (s.heap.objs.size+1) scope.names []) (bindC (envOfC qual scope s.heap.objs.size f cd).kindOf (ps.zip us) λ_=>none) s1) :
  Inv (cxOf CX P w K mg base N qual scope f cd A outer s H E) [] (start N vs) H s1:=by
 have jF:ps.length<=N.length:=by have:=Yi List.length S.pre;rw[ZS] at this;lia
 obtain⟨h1,tk,rfl,hk⟩:=x.done;have noA:∀b:Addr,b∉(cxOf CX P w K mg base N qual scope f cd A outer s H E).ex:=λb z=>absurd (show b∈([]:List Addr) from z) (by simp);refine⟨⟨e0.mod,S.kind,rfl,rfl,Zd _,λy z c h1 h2=>?_,λy hy=>?_,λy c _ h=>?_,λ_=>hd,Around.frames_deeper e0.frames,.inr ⟨rfl,rfl⟩,λb z=>absurd z (noA b),e0.bs,e0.bsz,λb _ _=>noA b,λb z=>absurd z (noA b),e0.funs,e0.frf⟩,
  rfl,e0.bare,Un.kept hk,⟨_,x.toInCall.ns,λi y v h1 h2 h3=>?_⟩,λy c h=>⟨_,x.cell y c h⟩,e0.hok.fresh (Zd _),λy c h=>?_,λp hp=>absurd (show p∈([]:List (Addr×Obj)) from hp) (by simp),e0.hok.kept hk,?_⟩
 ·exact name_of_addr x.apart (Z9 h1) (Z9 h2)
 ·have hy:scope.names.lookup y=some .cell\/scope.names.lookup y=some .free:=hy;rcases hy with hy|hy
  ·exact qu9 hy
  ·exact absurd rfl (S.nofree _ (Z9 hy))
 ·exact ZT (x.above y c (Z9 h))
 ·have hi:i<vs.length:=by
   unfold start at h2;by_cases hi:i<vs.length
   ·exact hi
   ·rw[Zv (by simpa using hi)] at h2;rw[Xy] at h2;split at h2<;>cases h2
  have ha:vs[i]?=some v:=by
   unfold start at h2;rw[Zo (by simpa using hi),Zg] at h2;cases e:vs[i]? with
   |none=>rw[e] at h2;cases h2
   |some a=>rw[e] at h2;cases h2;rfl
  obtain⟨u,hu,rv⟩:=r.get ha;have hp:ps[i]?=some y:=by
   rw[<- S.pre,List.getElem?_take_of_lt (by lia)];exact h1
  have ndP:ps.Nodup:=by rw[<- S.pre];exact S.nd.sublist (List.take_sublist _ _)
  refine⟨u,rv,?_⟩;rcases S.par y (Zs hp) with k|k
  ·exact .inl ⟨k,qx1 ndP hp hu k⟩
  ·obtain⟨c,e⟩:=qu9 (n:=s.heap.objs.size+1) k;refine .inr ⟨.inl k,c,e,?_⟩;have q:=x.cell y c e;rw[qx2 ndP hp hu (by show scope.names.lookup y≠_;rw[k];decide)] at q;exact q
 ·exact e0.hok.fresh (ZT (x.above y c (Z9 h)))
 ·unfold start;show _=N.length;rw[Zu,Zi,XO];lia
theorem xB9 {CX:CXT}{P:Program}{w:World}{K:PySem.W.Frag}{mg:Str->Option Value}{base:Heap}{k:Nat}{f:Addr}{name qual:Str}{params:Arguments}{body:List Stmt}{scope:Scope}{dV kV doc pm cdv ct oc:Value}{an od:Option Addr}
  {osl:Array (Option Value)}{N ps:List Str}{sp:Sp}(lk:K.lookup f=some ⟨oc,od,.func (PySem.W.fnOf name qual params body scope dV kV doc pm an cdv ct),osl⟩) (kJ:PySem.W.codeIn K cdv qual=true) (S:FnScope N ps scope)
  (len:∀vs H Q E,sp vs H Q E->vs.length=ps.length)
  (jY:∀(A:Around) (outer:List Env) (s:Shared) (H:Hp) (vs:List V) (Q:VK) (E:XK),Room k (A.deeper (envOfC qual scope s.heap.objs.size f cdv))->sp vs H Q E ->
   ∃t,PSs (cxOf CX P w K mg base N qual scope f cdv A outer s H E) body t/\t { nx:=λ_ H'=>Q .non H',rt:=Q } (start N vs) H) :
  FnOk P w K mg base CX (k+1) f (PySem.W.fnOf name qual params body scope dV kV doc pm an cdv ct) ps sp:=by
 refine⟨len,λA outer s H args us vs Q E hr e0 hb r kX=>?_⟩;have hl:=len _ _ _ _ kX;have KX:K.In s.heap:=e0.mod.kin.keeps λb o e=>(e0.bs b o e).1;have lim:s.heap.NoLimit:=e0.mod.nolimit.keeps λb o e=>(e0.bs b o e).1;have jA:∀y∈ps.zip us,scope.names.lookup y.1=some .local\/(scope.names.lookup y.1=some .cell/\((cellsFrom (s.heap.objs.size+1) scope.names []).lookup y.1).isSome=true):=λ⟨n,v⟩ hy=>by
  rcases S.par n (WN hy).1 with q|q
  ·exact .inl q
  ·exact .inr ⟨q,Wq _ _ _ (.inl q)⟩
 refine codeAny_call_function hr.depth (KX _ _ lk) rfl S.co S.gen rfl (PySem.W.codeRec_of KX kJ) (hb _ _ _ _ ?_);refine wpAny_newFunctionEnv_cells S.kind jA λenv he s1 x=>?_;subst he;refine⟨lim.keeps x.toInCall.keep,codeAny_func ?_⟩;obtain⟨t,ht,hq⟩:=jY A outer s H vs Q E (hr.deeper _) kX;have I:Inv (cxOf CX P w K mg base N qual scope f cdv A outer s H E) [] (start N vs) H s1:=q68 S hr.hd e0 hl r x;refine YA (ht [] s1 (start N vs) H _ I hq) (λfl s' hs=>?_) λe s' hs=>hs;have fin:∀{σ':St}{H':Hp}{v:V}{u:Value},Inv (cxOf CX P w K mg base N qual scope f cdv A outer s H E) [] σ' H' s'->RelV v u->Q v H'->CE outer P w H s Q u s':=
  λ{σ' H' v u} J rv q=>⟨v,H',J.os,J.bare,J.base,J.hok,rv,q⟩
 cases fl with
 |ret u=>
  obtain⟨v,σ',H',J,rv,q⟩:=hs;exact fin J rv q
 |next=>
  obtain⟨σ',H',J,q⟩:=hs;exact fin (v:=V.non) (u:=Value.none) J rfl q
 |brk=>
  obtain⟨_,_,_,q⟩:=hs;exact False.elim q
 |cont=>
  obtain⟨_,_,_,q⟩:=hs;exact False.elim q
section
variable {X:Cx}{x:Str}{p pos:Pos}{e:Expr}{es:List Expr}{t:TA}{id T:String}{r:List V->Hp->VK->Prop}
def tCB (r:List V->Hp->VK->Prop) (t:TA):TE:=λσ H Q=>t σ H λvs H1=>r vs H1 Q
theorem qa6 (hc:qg3 X (.builtin id) r) (hg:Gl X x) (hm:X.mg x=none) (hv:bootBuiltins x=some (.builtin id)) (ha:PA X (e::es) t) (hn:x ≠ "__name__":=by decide) (vR:(x==("__debug__" : Str))=false:=by decide)
  (he:starEach (e::es) X.env=(false,eval e X.env)::starEach es X.env:=by rfl) (jF:(backTo pos (starEach es X.env)).any (·.1)=false:=by rfl):PE X (.Call (.Name x p) (e::es) [] pos) (tCB r t):=by
 intro j4 s σ H Q I h;refine XC (qI8 I hg hm hv ?_ hn vR);exact PyProof.Rows.callWith_builtin1 (thn (ha pos j4 s σ H _ I h) λus s1 ⟨vs,H1,I1,r1,q1⟩=>hc j4 s1 σ H1 vs us Q I1 r1 q1) he jF
theorem qc1 (hc:qg3 X (.type T) r) (hg:Gl X x) (hm:X.mg x=none) (hv:bootBuiltins x=some (.type T)) (ha:PA X (e::es) t) (hn:x ≠ "__name__":=by decide) (vR:(x==("__debug__" : Str))=false:=by decide)
  (he:starEach (e::es) X.env=(false,eval e X.env)::starEach es X.env:=by rfl) (jF:(backTo pos (starEach es X.env)).any (·.1)=false:=by rfl):PE X (.Call (.Name x p) (e::es) [] pos) (tCB r t):=by
 intro j4 s σ H Q I h;refine XC (qI8 I hg hm hv ?_ hn vR);exact XU (thn (ha pos j4 s σ H _ I h) λus s1 ⟨vs,H1,I1,r1,q1⟩=>hc j4 s1 σ H1 vs us Q I1 r1 q1) he jF
end
end L2
namespace HT
open PySem PyProof.Rows
section
open PySem.SeqAt
open PySem.AutoSeq1 (wpAny_loadPart')
open PySem.MeetsSeq PySem.MeetsSeq2 PySem.MeetsSeq3
end
section
variable {prog:Program}{w:World}{A:Around}{E:Value->Shared->Prop}{s:Shared}
def sIx (n d:Nat):Option Int->Nat
 |none=>d
 |some v=>if v<0 then (v+(n:Int)).toNat else min v.toNat n
theorem xC0 (n d:Nat) (hd:d<=n) (o:Option Int):sIx n d o<=n:=by
 cases o with
 |none=>exact hd
 |some v=>
  show (if v<0 then (v+(n:Int)).toNat else min v.toNat n)<=n;by_cases hv:v<0
  ·rw[Zt hv];lia
  ·rw[Zm hv];exact Nat.min_le_right _ _
theorem q69 (v:Int) (n d:Nat):(if v<0 then max (v+(n:Int)) 0 else min v (n:Int))=((sIx n d (some v):Nat):Int):=by
 show (if v<0 then max (v+(n:Int)) 0 else min v (n:Int))=(((if v<0 then (v+(n:Int)).toNat else min v.toNat n):Nat):Int);by_cases hv:v<0
 ·simp only[Zt hv];lia
 ·simp only[Zm hv];lia
theorem q15 (lo hi:Option Int) (n:Nat):Builtin.Slice.sliceAdjust lo hi 1 (n:Int)=(((sIx n 0 lo:Nat):Int),((sIx n n hi:Nat):Int)):=by
 have h1:¬((1:Int)<0):=by lia
 unfold Builtin.Slice.sliceAdjust;simp only[h1,Yq];refine Prod.ext ?_ ?_
 ·cases lo with
  |none=>rfl
  |some v=>exact q69 v n 0
 ·cases hi with
  |none=>rfl
  |some v=>exact q69 v n n
theorem q16 (i j:Nat):Builtin.Slice.slicePlaces (i:Int) (j:Int) 1=j-i:=by
 unfold Builtin.Slice.slicePlaces;have h1:(1:Int)>0:=by lia
 simp only[h1,Xu,Int.ediv_one];split<;>lia
theorem qB0 {v:Value}{o:Option Int}{Q:Option Int->Shared->Prop}(p:IsPart v o) (h:Q o s):wpAny (model prog w) A (Builtin.Slice.slicePartIndex v) Q E s:=by
 cases p with
 |none=>exact slicePart_none h
 |int i t=>exact slicePart_int h
theorem qu6 {sl:Addr}{vl vu:Value}{lo hi:Option Int}{n:Nat}{Q:Int×Int×Nat->Shared->Prop}(hs:s.heap.IsSliceOf sl vl vu .none) (pl:IsPart vl lo) (pu:IsPart vu hi)
  (h:Q (((sIx n 0 lo:Nat):Int),1,sIx n n hi-sIx n 0 lo) s):wpAny (model prog w) A (Builtin.Slice.sliceApplied (.ref sl) (pure (n:Int))) Q E s:=by
 obtain⟨os,vP,hcs,j9⟩:=id hs;unfold Builtin.Slice.sliceApplied Builtin.Slice.sliceFields;refine Za (Za (Z4 vP j9 (x:=vl) rfl (Za (Z4 vP j9 (x:=vu) rfl (Za (Z4 vP j9 (x:=.none) rfl (Zf ?_)))))));refine Za (slicePart_none ?_);show wpAny _ _ (if ((1:Int)==0)=true then _ else _) _ _ s;rw[Zm (by decide)];refine Za (qB0 pl (Za (qB0 pu (Za (Zf ?_)))));show wpAny _ _ (match Builtin.Slice.sliceAdjust lo hi 1 (n:Int) with|(lo,hi)=>pure (lo,(1:Int),Builtin.Slice.slicePlaces lo hi 1)) _ _ s;rw[q15 lo hi n];show wpAny _ _ (pure (((sIx n 0 lo:Nat):Int),(1:Int),Builtin.Slice.slicePlaces ((sIx n 0 lo:Nat):Int) ((sIx n n hi:Nat):Int) 1)) _ _ s;rw[q16];exact Zf h
theorem xl0 (xs:Array Value) (i k:Nat):((List.range k).filterMap λ(m:Nat)=>xs[((i:Int)+(m:Int)*1).toNat]?).toArray=((xs.toList.drop i).take k).toArray:=by
 have e:(λ(m:Nat)=>xs[((i:Int)+(m:Int)*1).toNat]?)=λm=>xs[i+m]?:=by
  funext m;have:((i:Int)+(m:Int)*1).toNat=i+m:=by lia
  rw[this]
 rw[e];have:=pick_run xs i k;rw[List.filterMap_map] at this;have e2:((λx=>xs[x]?)∘λx=>i+x)=λm=>xs[i+m]?:=rfl;rw[e2] at this;rw[this]
theorem getItem_tuple_cut {t sl:Addr}{items:Array Value}{vl vu:Value}{lo hi:Option Int}{Q:Value->Shared->Prop}(ht:IsTup s.heap t items) (hs:s.heap.IsSliceOf sl vl vu .none) (pl:IsPart vl lo) (pu:IsPart vu hi)
  (hw:¬(sIx items.size 0 lo=0/\sIx items.size items.size hi=items.size))
  (h:Q (.ref s.heap.objs.size) { s with heap:=s.heap.push { cls:=.type "tuple",data:=.seq ((items.toList.drop (sIx items.size 0 lo)).take (sIx items.size items.size hi-sIx items.size 0 lo)).toArray } })
  (hsz:items.size<=sizeLine):wpAny (model prog w) A (getItem (.ref t) (.ref sl)) Q E s:=by
 have htake:sizeOk (.seq ((items.toList.drop (sIx items.size 0 lo)).take (sIx items.size items.size hi-sIx items.size 0 lo)).toArray):=by
  show ((items.toList.drop (sIx items.size 0 lo)).take (sIx items.size items.size hi-sIx items.size 0 lo)).toArray.size<=sizeLine;rw[ZI,ZS,Vk,ZZ];lia
 have hj:sIx items.size items.size hi<=items.size:=xC0 _ _ (Zd _) hi;obtain⟨os,vP,hcs,j9⟩:=id hs;have hTs:s.TypeIs (.ref sl) "slice":=⟨os,vP,hcs⟩;unfold getItem
 try with_reducible refine Yu ?_
 first|refine Za (Zf ?_)|skip
 refine Za (wpAny_sequenceKey ht.typeIs (by decide) ?_);refine Za (ZX (name:=Str.ofString "__getitem__") ht.typeIs Xs
  (YM Xs ht.typeIs entry_tuple_getitem ?_ (args_tuple_getitem _ _)))
 show wpAny _ _ (Builtin.Tuple.tupleItemsOf (.ref t) >>= _) _ _ s;refine Za (tupleItemsOf_ ht ?_);refine Za (wpAny_typeOf hTs ?_);rw[Zt (by decide)];refine Za (qu6 hs pl pu ?_);have wR:¬((((sIx items.size 0 lo:Nat):Int)==0&&(1:Int)==1&&(sIx items.size items.size hi-sIx items.size 0 lo)==items.size)=true):=by
  intro q;rw[YN,YN] at q;have q1:((sIx items.size 0 lo:Nat):Int)=0:=eq_of_beq q.1.1;have q2:sIx items.size items.size hi-sIx items.size 0 lo=items.size:=eq_of_beq q.2;exact hw ⟨by lia,by lia⟩
 show wpAny _ _ (if (((sIx items.size 0 lo:Nat):Int)==0&&(1:Int)==1&&(sIx items.size items.size hi-sIx items.size 0 lo)==items.size)=true then _ else _) _ _ s;rw[Zm wR,xl0]
 first
  |exact Za (m:=Builtin.Tuple.tupleExact _) (ZU (Zf ⟨_,rfl,Zf h⟩) htake)
  |exact Za (m:=Builtin.Tuple.tupleExact _) (ZU (Za (Zf (Zf ⟨_,rfl,Zf h⟩))) htake)
  |exact Za (Za (m:=Builtin.Tuple.tupleExact _) (ZU (Zf (Zf ⟨_,rfl,Zf h⟩)) htake))
  |exact Za (Za (m:=Builtin.Tuple.tupleExact _) (ZU (Zf ⟨_,rfl,Zf h⟩) htake))
end
end HT
namespace L2
open PySem PySem.Spec PyProof.Rows
abbrev TO:=St->Hp->(Option Int->Hp->Prop)->Prop
def PO (X:Cx) (e:Option Expr) (t:TO):Prop:=
 ∀(j4:List (Addr×Obj)) (s:Shared) (σ:St) (H:Hp) (Q:Option Int->Hp->Prop),Inv X j4 σ H s->t σ H Q ->
  wpAny (model X.prog X.w) X.A (evalPart e X.env) (λu s'=>∃o H',Inv X j4 σ H' s'/\IsPart u o/\Q o H') X.xe s
def xv3:TO:=λ_ H Q=>Q none H
def xI6 (t:TE):TO:=λσ H Q=>t σ H λx H1=>∃i,x=.int i/\Q (some i) H1
section
variable {X:Cx}{e:Expr}{te:TE}{lo hi:Option Expr}{tl th:TO}{pos p2:Pos}
theorem qD9:PO X none xv3:=by
 intro j4 s σ H Q I h;rw[evalPart_none];exact Zf ⟨none,H,I,.none,h⟩
theorem qE0 (h:PE X e te):PO X (some e) (xI6 te):=by
 intro j4 s σ H Q I hw;rw[evalPart_some];refine thn (h j4 s σ H _ I hw) λu s1 ⟨x,H1,I1,r1,q1⟩=>?_;obtain⟨i,rfl,q⟩:=q1;obtain⟨t,rfl⟩:=r1;exact⟨some i,H1,I1,.int i t,q⟩
def SlR (X:Cx) (r:V->Option Int->Option Int->Hp->VK->Prop):Prop:=
 ∀(j4:List (Addr×Obj)) (s:Shared) (σ:St) (H:Hp) (x:V) (v vl vu:Value) (lo hi:Option Int) (sl:Addr) (Q:VK),Inv X j4 σ H s->RelV x v->s.heap.IsSliceOf sl vl vu .none->IsPart vl lo->IsPart vu hi->r x lo hi H Q ->
  ∃T id,typeLookup (.type T) "__getitem__" = pure (some (.builtin id))/\s.TypeIs v T/\wpAny (model X.prog X.w) X.A (getItem v (.ref sl)) (EP X j4 σ Q) X.xe s
def tSl (r:V->Option Int->Option Int->Hp->VK->Prop) (te:TE) (tl th:TO):TE:=λσ H Q=>te σ H λx H1=>tl σ H1 λl H2=>th σ H2 λu H3=>r x l u H3 Q
theorem qv0 {r:V->Option Int->Option Int->Hp->VK->Prop}(hr:SlR X r) (he:PE X e te) (hl:PO X lo tl) (hu:PO X hi th):PE X (.Subscript e (.Slice lo hi none p2) pos) (tSl r te tl th):=by
 intro j4 s σ H Q I h;refine Subscript_ (thn (he j4 s σ H _ I h) λv s1 ⟨x,H1,I1,r1,q1⟩=>?_);refine wpAny_Slice (thn (hl j4 s1 σ H1 _ I1 q1) λvl s2 ⟨l,H2,I2,pl,q2⟩=>thn (hu j4 s2 σ H2 _ I2 q2) λvu s3 ⟨u,H3,I3,pu,q3⟩=>?_);rw[evalPart_none];refine Zf ?_;have I4:Inv X j4 σ H3 { s3 with heap:=s3.heap.push { cls:=.type "slice",data:=.fields #[vl,vu,.none] } }:=I3.kept (t':=s3.toks) λb ob q=>Zc _ q;obtain⟨T,id,hT,ht,hg⟩:=hr j4 { s3 with heap:=s3.heap.push { cls:=.type "slice",data:=.fields #[vl,vu,.none] } } σ H3 x v vl vu l u s3.heap.objs.size Q I4 r1 (Heap.IsSliceOf.new ..) pl pu q3;show wpAny (model X.prog X.w) X.A (subscriptTail e (.Slice lo hi none p2) v (.ref s3.heap.objs.size)) (EP X j4 σ Q) X.xe { s3 with heap:=s3.heap.push { cls:=.type "slice",data:=.fields #[vl,vu,.none] } };exact tail_any (ops:=[.ref s3.heap.objs.size,v]) ht hT hg (by with_unfolding_all rfl)
def cutV (xs:List V) (lo hi:Option Int):List V:=(xs.drop (HT.sIx xs.length 0 lo)).take (HT.sIx xs.length xs.length hi-HT.sIx xs.length 0 lo)
theorem qQ7 (xs:List V) (lo hi:Option Int):(cutV xs lo hi).length<=xs.length:=by
 unfold cutV;rw[ZS,Vk];lia
def rSlT (K:PySem.W.Frag):V->Option Int->Option Int->Hp->VK->Prop:=λx lo hi H Q=>∃a xs,x=.ref a/\SqT K H a xs /\
 ¬(HT.sIx xs.length 0 lo=0/\HT.sIx xs.length xs.length hi=xs.length)/\∀p,H p=none->Q (.ref p) (upd H p (.tup (cutV xs lo hi)))
theorem xC1:SlR X (rSlT X.K):=by
 intro j4 s σ H x v vl vu lo hi sl Q I rx hs pl pu h;obtain⟨a,xs,rfl,hx,hw,q⟩:=h;cases rx;obtain⟨its,r,ht,hz⟩:=I.tuple hx;have j6:its.toArray.size=xs.length:=by rw[ZI];exact r.length.symm
 refine⟨"tuple",_,Xs.lookup,ht.typeIs,?_⟩;refine HT.getItem_tuple_cut ht hs pl pu (by rw[j6];exact hw) ?_ (by rw[j6];exact hz);rw[j6];refine⟨.ref s.heap.objs.size,_,I.laid (t':=s.toks) (o:=.tup (cutV xs lo hi)) (λb ob q=>Zc _ q) (Zd _) ?_,rfl,q _ (I.hok.fresh (Zd _))⟩;exact⟨ZE (qQ7 xs lo hi) hz,_,(r.drop (HT.sIx xs.length 0 lo)).take (HT.sIx xs.length xs.length hi-HT.sIx xs.length 0 lo),IsTupX.new _ _⟩
end
def ixN (n:Nat) (i:Int):Option Nat:=if 0<=i then (if i<n then some i.toNat else none) else if -(n:Int)<=i then some (i+n).toNat else none
def atI {α:Type}(xs:List α) (i:Int):Option α:=(ixN xs.length i).bind λj=>xs[j]?
theorem q70 {n:Nat}{i:Int}{j:Nat}(h:ixN n i=some j):seqIndex? i n=some j/\j<n/\-(n:Int)<=i/\i<n:=by
 unfold ixN at h;by_cases h0:0<=i
 ·rw[Zt h0] at h;by_cases h1:i<n
  ·rw[Zt h1] at h;have e:i.toNat=j:=Zw h;exact⟨by rw[seqIndex_of h0 h1,e],by lia,by lia,h1⟩
  ·rw[Zm h1] at h;cases h
 ·rw[Zm h0] at h;by_cases h1:-(n:Int)<=i
  ·rw[Zt h1] at h;have e:(i+n).toNat=j:=Zw h;exact⟨by rw[seqIndex_neg (by lia) h1,e],by lia,h1,by lia⟩
  ·rw[Zm h1] at h;cases h
theorem qQ8 {α:Type}{xs:List α}{i:Int}{v:α}(h:atI xs i=some v):∃j,seqIndex? i xs.length=some j/\xs[j]?=some v/\j<xs.length/\-(xs.length:Int)<=i/\i<xs.length:=by
 unfold atI at h;cases e:ixN xs.length i with
 |none=>rw[e] at h;cases h
 |some j=>
  rw[e] at h;obtain⟨h1,h2,h3,h4⟩:=q70 e;exact⟨j,h1,h,h2,h3,h4⟩
theorem qd8 {α:Type}{xs:List α}{j:Nat}{v:α}(h:xs[j]?=some v):atI xs (j:Int)=some v:=by
 have hj:j<xs.length:=(gS_ h).1;have e:ixN xs.length (j:Int)=some j:=by
  unfold ixN;rw[Zt (by lia),Zt (by lia)];simp
 unfold atI;rw[e];exact h
def q71 (b:Expr):Prop:=∀o i,subscripted b false o i=operate [o,i] (getItem o i)
def IxR (X:Cx) (r:R2):Prop:=
 ∀(value slice:Expr) (j4:List (Addr×Obj)) (s:Shared) (σ:St) (H:Hp) (x y:V) (v u:Value) (Q:VK),Inv X j4 σ H s->RelV x v->RelV y u->r x y H Q ->
  subscripted slice false v u=operate [v,u] (getItem v u)->wpAny (model X.prog X.w) X.A (subscriptTail value slice v u) (EP X j4 σ Q) X.xe s
def MtR (X:Cx) (id:String) (r:V->List V->Hp->VK->Prop):Prop:=
 ∀(j4:List (Addr×Obj)) (s:Shared) (σ:St) (H:Hp) (x:V) (xs:List V) (v:Value) (us:List Value) (Q:VK),Inv X j4 σ H s->RelV x v->Vals xs us->r x xs H Q ->
  wpAny (model X.prog X.w) X.A (call (.builtin id) (v::us)) (EP X j4 σ Q) X.xe s
section
variable {X:Cx}{a b:Expr}{ta tb:TE}{pos:Pos}
theorem IxR.or {r r':R2}(h:IxR X r) (h':IxR X r'):IxR X (λx y H Q=>r x y H Q\/r' x y H Q):=by
 intro value slice j4 s σ H x y v u Q I rx ry q hs;rcases q with q|q
 ·exact h value slice j4 s σ H x y v u Q I rx ry q hs
 ·exact h' value slice j4 s σ H x y v u Q I rx ry q hs
theorem xC2 {r:R2}(hr:IxR X r) (ha:PE X a ta) (hb:PE X b tb) (hs:q71 b):PE X (.Subscript a b pos) (tOp r ta tb):=by
 intro j4 s σ H Q I h;exact Subscript_ (binT ha hb I h λv u s2 x y H2 I2 rx ry q=>hr a b j4 s2 σ H2 x y v u Q I2 rx ry q (hs _ _))
def rIxL (K:PySem.W.Frag):R2:=λx y H Q=>∃p xs i v,x=.ref p/\y=.int i/\SqL K H p xs/\atI xs i=some v/\Q v H
def rIxT (K:PySem.W.Frag):R2:=λx y H Q=>∃p xs i v,x=.ref p/\y=.int i/\SqT K H p xs/\atI xs i=some v/\Q v H
def rIxS:R2:=λx y H Q=>∃z i c,x=.str z/\y=.int i/\z.length<=sizeLine/\atI z.cps.toList i=some c/\Q (.str ⟨#[c]⟩) H
theorem ix_list:IxR X (rIxL X.K):=by
 intro value slice j4 s σ H x y v u Q I rx ry h hs;obtain⟨p,xs,i,z,rfl,rfl,hq,he,q⟩:=h;cases rx;obtain⟨t,rfl⟩:=ry;obtain⟨its,r,pl,hz⟩:=I.list hq;obtain⟨j,h1,h2,h3,h4,h5⟩:=qQ8 he;obtain⟨w,ew,rw'⟩:=r.get h2;have hl:=r.length;have hn:=qA9;have fin:EP X j4 σ Q w s:=⟨z,H,I,rw',q⟩;by_cases h0:0<=i
 ·have hj:i.toNat=j:=by
   rw[seqIndex_of h0 h5] at h1;exact Zw h1
  exact item_listR pl.isList h0 (by lia) (by rw[hj];simpa using ew) fin hs
 ·have hj:(i+(its.toArray.size:Int)).toNat=j:=by
   rw[seqIndex_neg (by lia) h4] at h1;rw[ZI,<- hl];exact Zw h1
  exact subscriptTail_builtinR (x:=w) pl.isList.typeIs slot_list_getitem.lookup
   (wpAny_getItem_list_neg (Q:=λr s'=>r=w/\EP X j4 σ Q r s') pl.isList (by lia) (by rw[ZI]<;>lia) (by lia) (by rw[hj];simpa using ew) ⟨rfl,fin⟩) hs
theorem ix_tup:IxR X (rIxT X.K):=by
 intro value slice j4 s σ H x y v u Q I rx ry h hs;obtain⟨p,xs,i,z,rfl,rfl,hq,he,q⟩:=h;cases rx;obtain⟨t,rfl⟩:=ry;obtain⟨its,r,pl,hz⟩:=I.tuple hq;obtain⟨j,h1,h2,h3,h4,h5⟩:=qQ8 he;obtain⟨w,ew,rw'⟩:=r.get h2;have hl:=r.length;have hn:=qA9;have fin:EP X j4 σ Q w s:=⟨z,H,I,rw',q⟩;exact subscriptTail_builtinR (x:=w) pl.typeIs slot_tuple_getitem.lookup
  (getItem_tuple (j:=j) (Q:=λr s'=>r=w/\EP X j4 σ Q r s') pl (by lia) (by lia) (by rw[ZI,<- hl];exact h1) (by simpa using ew) ⟨rfl,fin⟩) hs
theorem qt5:IxR X rIxS:=by
 intro value slice j4 s σ H x y v u Q I rx ry h hs;obtain⟨z,i,c,rfl,rfl,hz,he,q⟩:=h;obtain⟨t,rfl⟩:=rx;obtain⟨t',rfl⟩:=ry;obtain⟨j,h1,h2,h3,h4,h5⟩:=qQ8 he;have hl:z.cps.toList.length=z.length:=by simp[Str.length]
 rw[hl] at h1 h4 h5;have hn:=qA9;exact tail_any (typeIs_str s z t) slot_str_getitem.lookup (getItem_str (c:=c) (by
  have e1:decide (i < -(2^63:Int))=false:=Zp (by lia);have e2:decide (i>=2^63)=false:=Zp (by lia);rw[e1,e2,Bool.or_false]) (by rw[h1];simpa using h2) ⟨.str ⟨#[c]⟩,H,I.tok _,⟨_,rfl⟩,q⟩) hs
def rIx (K:PySem.W.Frag):R2:=λx y H Q=>rIxL K x y H Q\/rIxT K x y H Q\/rIxS x y H Q
theorem xC3:IxR X (rIx X.K):=ix_list.or (ix_tup.or qt5)
theorem q17 (its:List Value) (n j:Nat) (u:Value):Obj.mapSeq (·.setIfInBounds j u) { cls:=.type "list",data:=.seq its.toArray n }={ cls:=.type "list",data:=.seq (its.set j u).toArray n }:=by
 simp[Obj.mapSeq]
theorem Inv.lst {j4:List (Addr×Obj)}{σ:St}{H:Hp}{s:Shared}{p:Addr}{xs:List V}(I:Inv X j4 σ H s) (h:H p=some (.lst xs)) :
  ∃(its:List Value) (n:Nat),Vals xs its/\s.heap.get? p=some { cls:=.type "list",data:=.seq its.toArray n }/\xs.length<=sizeLine:=by
 obtain⟨z,its,n,r,e⟩:=I.hok p _ h;exact⟨its,n,r,e,z⟩
theorem Inv.lstUpd {j4:List (Addr×Obj)}{σ:St}{H:Hp}{s:Shared}{p:Addr}{xs ys:List V}{its its':List Value}{n n':Nat}{f:Obj->Obj}(I:Inv X j4 σ H s) (h:H p=some (.lst xs))
  (ho:s.heap.get? p=some { cls:=.type "list",data:=.seq its.toArray n }) (hf:f { cls:=.type "list",data:=.seq its.toArray n }={ cls:=.type "list",data:=.seq its'.toArray n' }) (r:Vals ys its') (hz:ys.length<=sizeLine) (t:Nat) :
  Inv X j4 σ (upd H p (.lst ys)) { s with heap:=s.heap.update p f,toks:=t }:=by
 have e:(s.heap.update p f).get? p=some { cls:=.type "list",data:=.seq its'.toArray n' }:=by
  rw[YG f ho (by rw[hf]<;>rfl),hf]
 refine I.write (x:=p) (e:=p) (by rw[h];trivial) (.inl rfl) (λb u hb q=>(ZK _ _ (Z0 hb)).trans q) ⟨_,e⟩ ?_;exact⟨hz,its',n',r,e⟩
def xI7:V->V->V->Hp->(Hp->Prop)->Prop:=λo i v H Q=>∃p xs k j,o=.ref p/\i=.int k/\H p=some (.lst xs)/\ixN xs.length k=some j/\Q (upd H p (.lst (xs.set j v)))
theorem qo8:PSet X xI7:=by
 intro j4 s σ H o i v ov iv u Q I ro ri rv h;obtain⟨p,xs,k,j,rfl,rfl,hp,hj,q⟩:=h;cases ro;obtain⟨t,rfl⟩:=ri;obtain⟨its,n,r,ho,hz⟩:=I.lst hp;obtain⟨h1,h2,h3,h4⟩:=q70 hj;have hl:=r.length;have hn:=qA9;have I':Inv X j4 σ (upd H p (.lst (xs.set j v))) { s with heap:=s.heap.update p (Obj.mapSeq (·.setIfInBounds j u)) }:=
  I.lstUpd hp ho (q17 its n j u) (r.set rv j) (by rw[List.length_set];exact hz) s.toks
 by_cases h0:0<=k
 ·have hk:k.toNat=j:=by
   rw[seqIndex_of h0 h4] at h1;exact Zw h1
  exact PySem.W.ki_setAt ho h0 (by lia) (by rw[ZI,<- hl];exact h4) (by rw[hk];exact⟨_,I',q⟩)
 ·have hk:(k+(its.toArray.size:Int)).toNat=j:=by
   rw[seqIndex_neg (by lia) h3] at h1;rw[ZI,<- hl];exact Zw h1
  exact PySem.W.ki_setBack ho (by lia) (by rw[ZI,<- hl];exact h3) (by lia) (by rw[hk];exact⟨_,I',q⟩)
theorem qb9:qg3 X (.builtin "len") (λxs H Q=>∃p ys,xs=[.ref p]/\(SqL X.K H p ys\/SqT X.K H p ys)/\Q (.int ys.length) H):=by
 intro j4 s σ H xs us Q I r h;obtain⟨p,ys,rfl,hq,q⟩:=h;obtain⟨u,rfl,rx⟩:=qi3 r;cases rx;have hn:=qA9;rcases hq with hq|hq
 ·obtain⟨its,r',pl,hz⟩:=I.list hq;have j6:=r'.length;exact Calls.call_len_list pl.isList (by simp only[ZI]<;>lia) ⟨.int ys.length,H,I.tok _,⟨s.toks+1,by rw[ZI,j6]⟩,q⟩
 ·obtain⟨its,r',pl,hz⟩:=I.tuple hq;have j6:=r'.length;exact len_tuple pl (by simp only[ZI]<;>lia) ⟨.int ys.length,H,I.tok _,⟨s.toks+1,by rw[ZI,j6]⟩,q⟩
theorem qe1:qg3 X (.builtin "len") (λxs H Q=>∃z,xs=[.str z]/\z.length<=sizeLine/\Q (.int z.length) H):=by
 intro j4 s σ H xs us Q I r h;obtain⟨z,rfl,hz,q⟩:=h;obtain⟨u,rfl,t,rfl⟩:=qi3 r;have hn:=qA9;exact len_str (by lia) ⟨.int z.length,H,I.tok _,⟨_,rfl⟩,q⟩
theorem qJ5:qg3 X (.type "list") (λxs H Q=>∃p ys,xs=[.ref p]/\(SqL X.K H p ys\/SqT X.K H p ys)/\∀l,H l=none->Q (.ref l) (upd H l (.lst ys))):=by
 intro j4 s σ H xs us Q I r h;obtain⟨p,ys,rfl,hq,q⟩:=h;obtain⟨u,rfl,rx⟩:=qi3 r;cases rx;have fin:∀(its:List Value),Vals ys its->ys.length<=sizeLine->∀(h':Heap) (c':Nat),(∀b o',s.heap.get? b=some o'->h'.get? b=some o') ->
   h'.get? s.heap.objs.size=some { cls:=.type "list",dict:=none,data:=.seq its.toArray c',slots:=#[] }->EP X j4 σ Q (.ref s.heap.objs.size) { s with heap:=h' }:=λits r' hz h' c' kp e=>
  ⟨.ref s.heap.objs.size,_,I.laid (t':=s.toks) kp (Zd _) (show ObjOk X.prog X.w _ h' _ (.lst ys) from ⟨hz,its,c',r',e⟩),rfl,q _ (I.hok.fresh (Zd _))⟩
 rcases hq with hq|hq
 ·obtain⟨its,r',pl,hz⟩:=I.list hq;have j6:=r'.length;obtain⟨o,ho,hc,n,hd⟩:=pl.isList;exact call_list_seq p (.inl rfl) ho hc hd (λh' c' kp e=>fin its r' hz h' c' kp e) (by simp only[ZI]<;>lia)
 ·obtain⟨its,r',pl,hz⟩:=I.tuple hq;have j6:=r'.length;obtain⟨o,ho,hc,n,hd⟩:=pl;exact call_list_seq p (.inr rfl) ho hc hd (λh' c' kp e=>fin its r' hz h' c' kp e) (by simp only[ZI]<;>lia)
theorem qo9:qg3 X (.type "tuple") (λxs H Q=>∃p ys,xs=[.ref p]/\((SqL X.K H p ys/\∀l,H l=none->Q (.ref l) (upd H l (.tup ys)))\/(SqT X.K H p ys/\Q (.ref p) H))):=by
 intro j4 s σ H xs us Q I r h;obtain⟨p,ys,rfl,h⟩:=h;obtain⟨u,rfl,rx⟩:=qi3 r;cases rx;rcases h with ⟨hq,q⟩|⟨hq,q⟩
 ·obtain⟨its,r',pl,hz⟩:=I.list hq;have j6:=r'.length;refine call_tuple_list pl.isList (λh' kp=>?_) (by simp only[ZI]<;>lia);have I1:Inv X j4 σ H { s with heap:=h' }:=I.kept (t':=s.toks) kp;have I2:Inv X j4 σ (upd H h'.objs.size (.tup ys)) { s with heap:=h'.push { cls:=.type "tuple",data:=.seq its.toArray } }:=
   I1.laid (t':=s.toks) (λb o e=>Zc _ e) (Zd _) (show ObjOk X.prog X.w _ _ _ (.tup ys) from ⟨hz,its,r',IsTupX.new _ _⟩)
  exact⟨.ref h'.objs.size,_,I2,rfl,q _ (I1.hok.fresh (Zd _))⟩
 ·obtain⟨its,r',pl,hz⟩:=I.tuple hq;exact call_tuple_same pl ⟨.ref p,H,I,rfl,q⟩
def tyV (K:PySem.W.Frag) (T:String) (x:V) (H:Hp):Prop:=match x with
 |.str _=>T = "str"
 |.int _=>T = "int"
 |.ref p=>(T = "list" /\ ∃xs,SqL K H p xs)\/(T = "tuple" /\ ∃o,K.lookup p=some o/\o.cls=.type "tuple" /\ o.dict=none) \/
   (T = "dict" /\ ((∃kvs,H p=some (.dK kvs))\/∃kvs,H p=some (.dT kvs)))\/(T = "set" /\ ∃S n,H p=some (.set S n))
 |_=>False
theorem xC4 {j4:List (Addr×Obj)}{σ:St}{H:Hp}{s:Shared}{T:String}{x:V}{v:Value}(I:Inv X j4 σ H s) (r:RelV x v) (ty:tyV X.K T x H) :
  s.TypeIs v T/\∀a,v=.ref a->∃ob,s.heap.get? a=some ob/\ob.dict=none:=by
 cases x with
 |str z=>
  obtain⟨t,rfl⟩:=r;cases (show T = "str" from ty);exact⟨typeIs_str s z t,λ_ e=>nomatch e⟩
 |int i=>
  obtain⟨t,rfl⟩:=r;cases (show T = "int" from ty);exact⟨typeIs_int s i t,λ_ e=>nomatch e⟩
 |ref p=>
  cases r;rcases ty with ⟨rfl,xs,hq⟩|⟨rfl,o,hk,hc,hd⟩|⟨rfl,hk⟩|⟨rfl,S,n,hk⟩
  ·obtain⟨its,_,pl,_⟩:=I.list hq;refine⟨pl.isList.typeIs,λa e=>?_⟩;cases e;obtain⟨o,n,e,c,hd,_⟩:=pl;exact⟨o,e,hd⟩
  ·refine⟨⟨o,I.kIn p o hk,hc⟩,λa e=>?_⟩;cases e;exact⟨o,I.kIn _ o hk,hd⟩
  ·have z:∃o,s.heap.get? p=some o/\o.ExactDict:=by
    rcases hk with ⟨kvs,hk⟩|⟨kvs,hk⟩
    ·obtain⟨_,_,_,_,o,_,_,e,ex,_⟩:=I.hok p _ hk;exact⟨o,e,ex⟩
    ·obtain⟨_,_,_,_,o,_,_,e,ex,_⟩:=I.hok p _ hk;exact⟨o,e,ex⟩
   obtain⟨o,e,ex⟩:=z;refine⟨⟨o,e,ex.1⟩,λa e2=>?_⟩;cases e2;exact⟨o,e,ex.2.1⟩
  ·obtain⟨o,_,_,_,e,ex,_⟩:=I.hok p _ hk;refine⟨⟨o,e,ex.1⟩,λa e2=>?_⟩;cases e2;exact⟨o,e,ex.2.1⟩
 |_=>exact False.elim ty
def tBM (K:PySem.W.Frag) (T:String) (r:V->List V->Hp->VK->Prop) (to:TE) (t:TA):TE:=λσ H Q=>to σ H λx H1=>tyV K T x H1/\t σ H1 λxs H2=>r x xs H2 Q
variable {o e:Expr}{es:List Expr}{to:TE}{t:TA}{name:Str}{apos cpos:Pos}{T id:String}{r:V->List V->Hp->VK->Prop}
theorem q72 (pa:PlainAttrs T) (slot:Slot T name id) (hty:typeOf (.builtin id)=pure (.type "method_descriptor")) (hm:MtR X id r) (ho:PE X o to) (ha:PA X (e::es) t)
  (hbase:attributeBase o name X.env (eval o X.env)=eval o X.env:=by rfl)
  (hfew:((backTo cpos (starEach (e::es) X.env)).all (λx=>!x.1)&&(backToKw cpos (keywordEach [] X.env)).all (λx=>x.1.isSome)
   && decide ((e::es).length+([]:List Keyword).length+(if ([]:List Keyword).isEmpty then 0 else 1)<30))=true:=by rfl)
  (hline:(apos.endLine==cpos.line)=true:=by rfl) (hs:starEach (e::es) X.env=(false,eval e X.env)::starEach es X.env:=by rfl) (hplain:(backTo cpos (starEach es X.env)).any (·.1)=false:=by rfl) :
  PE X (.Call (.Attribute o name apos) (e::es) [] cpos) (tBM X.K T r to t):=by
 intro j4 s σ H Q I h;refine wpAny_Call_method_late hbase hfew hline rfl (thn (ho j4 s σ H _ I h) λv s1 ⟨x,H1,I1,r1,ty,q1⟩=>?_);obtain⟨h1,h2⟩:=xC4 I1 r1 ty;refine⟨T,id,pa,slot,hty,h1,h2,?_⟩;have hA:=ha cpos j4 s1 σ H1 _ I1 q1;rw[hs] at hA ⊢;refine Calls.callWith_builtin (by show (false||(backTo cpos (starEach es X.env)).any (·.1))=false;rw[hplain]<;>rfl) (Calls.evalArgs_plain ?_);exact thn hA λus s2 ⟨vs,H2,I2,r2,q2⟩=>hm j4 s2 σ H2 x vs v us Q I2 r1 r2 q2
end
def MtM (X:Cx) (id:String) (r:V->List V->Hp->VK->Prop):Prop:=
 ∀(j4:List (Addr×Obj)) (s:Shared) (σ:St) (H:Hp) (x:V) (xs:List V) (v:Value) (us:List Value) (Q:VK),Inv X j4 σ H s->RelV x v->Vals xs us->r x xs H Q ->
  wpAny (model X.prog X.w) X.A (call (.builtin id) (v::us)) (EP X j4 σ Q) X.xe s
theorem Vals.one:∀{x:V}{us:List Value},Vals [x] us->∃u,us=[u]/\RelV x u
 |_,_,.cons r .nil=>⟨_,rfl,r⟩
section
variable {X:Cx}{j4:List (Addr×Obj)}{σ:St}{H:Hp}{s:Shared}{l b:Addr}{xs ys zs:List V}
theorem Inv.lset {its its':List Value}{n:Nat}{f:Array Value->Array Value}{t':Nat}(I:Inv X j4 σ H s) (hH:H l=some (.lst xs))
  (e:s.heap.get? l=some { cls:=.type "list",data:=.seq its.toArray n }) (hf:f its.toArray=its'.toArray) (hv:Vals ys its') (hz:ys.length<=sizeLine) :
  Inv X j4 σ (upd H l (.lst ys)) { s with heap:=s.heap.update l (Obj.mapSeq f),toks:=t' }:=by
 have q:=PySem.IsL.update e f;rw[hf] at q;refine I.write (x:=l) (e:=l) (by rw[hH];exact trivial) (.inl rfl) (λb' u hb hu=>(ZK s.heap (Obj.mapSeq f) (Z0 hb)).trans hu) ⟨_,q⟩ ?_;exact⟨hz,its',_,hv,q⟩
theorem Inv.lnew {its:List Value}{t':Nat}(I:Inv X j4 σ H s) (hv:Vals ys its) (hz:ys.length<=sizeLine) :
  Inv X j4 σ (upd H s.heap.objs.size (.lst ys)) { s with heap:=s.heap.push { cls:=.type "list",data:=.seq its.toArray },toks:=t' }:=
 I.laid (λ_ _ q=>Zc _ q) (Zd _) ⟨hz,its,0,hv,Zk _ rfl⟩
theorem Inv.fresh (I:Inv X j4 σ H s):H s.heap.objs.size=none:=I.hok.fresh (Zd _)
theorem Inv.lstM (I:Inv X j4 σ H s) (hH:H l=some (.lst xs)):xs.length<=sizeLine/\∃(its:List Value) (n:Nat),Vals xs its/\xs.length=its.length/\s.heap.get? l=some { cls:=.type "list",data:=.seq its.toArray n }:=by
 obtain⟨z,its,n,r,e⟩:=I.hok l _ hH;exact⟨z,its,n,r,r.length,e⟩
end
section
variable {X:Cx}
def qQ9:V->List V->Hp->VK->Prop:=λx vs H Q=>∃l xs y,x=.ref l/\vs=[y]/\H l=some (.lst xs)/\xs.length<sizeLine/\Q .non (upd H l (.lst (xs++[y])))
theorem qe4:MtM X "list.append" qQ9:=by
 intro j4 s σ H x vs v us Q I rx rv h;obtain⟨l,xs,y,rfl,rfl,hH,hz,q⟩:=h;cases rx;obtain⟨u,rfl,ru⟩:=rv.one;obtain⟨z,its,n,r,hl,e⟩:=I.lstM hH;refine call_meets F.slot_list_append ⟨_,e,rfl⟩ F.entry_list_append (F.args_list_append_2 _ _) (PySem.list_append l its.toArray n u (by rw[ZI];lia)) ⟨e,?_⟩;refine⟨.non,_,I.lset (its':=its++[u]) hH e (by simp) (r.append (.cons ru .nil)) ?_,rfl,q⟩;rw[Zu,List.length_singleton];lia
def rCat:R2:=λx y H Q=>∃l b xs zs,x=.ref l/\y=.ref b/\H l=some (.lst xs)/\H b=some (.lst zs)/\xs.length+zs.length<=sizeLine/\∀p,H p=none->Q (.ref p) (upd H p (.lst (xs++zs)))
theorem q73:OpR X (binaryOp .Add) rCat:=by
 intro j4 s σ H x y v u Q I rx ry h;obtain⟨l,b,xs,zs,rfl,rfl,hH,hB,hz,q⟩:=h;cases rx;cases ry;obtain⟨z,its,n,r,hl,e⟩:=I.lstM hH;obtain⟨z2,its2,n2,r2,jP,e2⟩:=I.lstM hB;refine PySem.P.add_list e e2 ?_ (by rw[ZI,ZI];lia);have ea:its.toArray++its2.toArray=(its++its2).toArray:=by simp
 rw[ea];exact⟨.ref _,_,I.lnew (t':=s.toks) (r.append r2) (by rw[Zu];lia),rfl,q _ I.fresh⟩
end
section
variable {prog:Program}{w:World}{A:Around}{E:Value->Shared->Prop}{s:Shared}
end
section
variable {X:Cx}
end
end L2
namespace Att
open PySem PySem.W PySem.Calls PyProof.Rows
theorem qx3 {P:Params}{h:Heap}:∀(ns:List Int) (vs:List Value),WellAll P h vs (ns.map WData.int)->IntsAre vs ns:=by
 intro ns
 induction ns with
 |nil=>
  intro vs w;rw[X7] at w;cases w;exact .nil
 |cons n ns ih=>
  intro vs w;rw[Zz] at w;cases w with
  |cons a b=>
   cases a;exact .cons _ _ (ih _ b)
theorem q74 {l:OpenLaw}{n:Nat}(hn:l.most=some n){P:Params}{h:Heap}{args:List WData}{vals:List Value}
  (hpre:l.row.toRowW.claim.pre args=true) (hwl:WellAll P h vals args) :
  ∃a vs ns,vals=[Value.ref a]/\args=[WData.list (ns.map WData.int)]/\h.get? a=some { cls:=.type "list",data:=.seq vs.toArray }/\IntsAre vs ns/\ns.length<=n:=by
 have hsh:WShape.hasAll [] args [.list .int]=true:=(pre_splitW hpre).1;have hc:l.pre.holds [] { args:=args }=true:=(pre_splitW hpre).2;obtain⟨d,r,rfl,h1,h2⟩:=hasAllW_cons hsh;obtain rfl:=hasAllW_nil h2;obtain⟨xs,rfl,h3⟩:=hasW_list h1;obtain⟨ns,rfl⟩:=items_int h3;have j6:ns.length<=n:=by
  unfold OpenLaw.pre at hc;have h4:(WTm.not (.lt (.lit (.int (n:Int))) (.len (.arg 0)))).holds [] { args:=[.list (ns.map .int)] }=true:=by
   have h4:=(holds_andW hc).1;rw[hn] at h4;exact h4
  have h5:=condW_of h4 (w_not (w_lt w_lit (w_len_list (w_arg rfl))));rw[Zi] at h5;refine Vl λq=>?_;have q':(n:Int)<((ns.length:Nat):Int):=by lia
  first
   |(rw[Zj q'] at h5;exact absurd h5 (by decide))
   |(simp at h5;lia)
 cases hwl with
 |cons w1 w2=>
  cases w2;cases w1 with
  |list ho jH=>exact⟨_,_,ns,rfl,rfl,ho,qx3 ns _ jH,j6⟩
theorem q75 (l:OpenLaw) (args:List WData):l.row.toRowW.claim.post args (.bool true) args=true:=
 postW_of (r:=l.row.toRowW) (X:=(true==true))
  (show WShape.has [] (.bool true) .bool=true by first|rfl|decide|simp[WShape.has,WShape.arms,WShape.armsAll])
  (show (WTm.eq .res (.lit (.bool true))).value [] { args:=args,res:=some (.bool true),after:=args }=some (.bool (true==true)) from w_eq_bool (w_res rfl) w_lit) rfl
theorem attach_call {l:OpenLaw}{n:Nat}{q:Program}{loose:List Str}{XP:(Str->Option Value)->Heap->Prop}{YP:World->Heap->Prop}{d:DefRec}
  (hn:l.most=some n) (hdf:d.params.defaults=[])
  (call:∀(w:World) (s₀ s₁:Shared) (mg mb:Str->Option Value) (fa:Addr) (o:Obj) (pm cd doc:Value) (a:Addr) (vs:List Value) (ns:List Int),
   Ground q loose [] XP w s₀ mg mb s₁.heap->YP w s₁.heap ->
   s₁.heap.get? fa=some o->o.data=.func (docDef d.name d.params d.body d.scope pm cd doc)->s₁.heap.CodeRec cd d.name->mg d.name=some (.ref fa) ->
   s₁.heap.get? a=some { cls:=.type "list",data:=.seq vs.toArray }->IntsAre vs ns->ns.length<=n->s₁.gens=#[] ->
   codeAny (model l.prog w) callerA (.call (.ref fa) ⟨[.ref a],[]⟩) (λr s'=>r=.ok (.ret (.bool true))/\OldK s₁.heap s'.heap/\s'.os=s₁.os/\AllBare s'.gens) s₁) :
  WalkO q loose XP YP l.row.toRowW d [] (λf vs=>PySem.call f vs):=by
 intro w s₀ s₁ mg mb G Y fa o pm cd doc dV kV ho hd kJ hD hmg hg args vals as hpre hlay hrd hwl hlo;obtain rfl:dV=.none:=Dflts.none hD hdf;obtain rfl:kV=.none:=Dflts.noKw hD;obtain⟨a,vs,ns,rfl,rfl,hobj,hints,j6⟩:=q74 hn hpre hwl;refine enter_call (X6 (call w s₀ s₁ mg mb fa o pm cd doc a vs ns G Y ho (fd_plain hd) kJ hmg hobj hints j6 hg) λr s' hq=>?_);obtain⟨rfl,h2,h3,h4⟩:=hq;exact⟨.inl ⟨.bool true,.bool true,[],rfl,λ_=>rfl,.bool true,q75 l _,λ_=>⟨List.Pairwise.nil,λ_ hm=>(nomatch hm)⟩⟩,h2,h3,h4⟩
section
variable {prog:Program}{w:World}{A:Around}{E:Value->Shared->Prop}{s:Shared}{K:Frag}
end
end Att
namespace L2
open PySem PySem.Spec PyProof.Rows
theorem qJ6:∀{vs:List Value}{ns:List Int},IntsAre vs ns->Vals (ns.map V.int) vs
 |_,_,.nil=>.nil
 |_,_,.cons n t h=>.cons ⟨t,rfl⟩ (qJ6 h)
def Only (H:Hp):Prop:=∀b,H b=none\/∃o xs,H b=some (.frz o (.lst xs))
theorem xl1 {P:Program}{w:World}{K:PySem.W.Frag}{mg mb:Str->Option Value}{CX:CXT}{k:Nat}{fa a:Addr}{fd:FuncData}{x:Str}{sp:Sp}{s₁:Shared}{vs:List Value}{ns:List Int}
  (KX:K.In s₁.heap) (hns:s₁.heap.Ns mainGlobals mg) (hb:s₁.heap.Ns builtinsNs mb) (hbb:∀x:Str,x ≠ "__name__" -> mb x=bootBuiltins x) (hlim:s₁.heap.NoLimit) (hg:s₁.gens=#[])
  (ha:s₁.heap.get? a=some { cls:=.type "list",data:=.seq vs.toArray }) (hi:IntsAre vs ns) (hl:ns.length<=sizeLine) (hr:Room k callerA)
  (F:∀base:Heap,K.In base->base.Ns mainGlobals mg->FnOk P w K mg base CX k fa fd [x] sp) (hbind:∀(s:Shared) (u:Value),BindsTo s fd ⟨[u],[]⟩ [(x,u)])
  (kX:∀H:Hp,Only H->SqL K H a (ns.map V.int)->sp [.ref a] H (λv _=>v=.bl true) λ_ _ _=>False)
  (hCX:∀H e s',CX [] H s₁ (λ_ _ _=>False) e s'->False) :
  codeAny (model P w) callerA (.call (.ref fa) ⟨[.ref a],[]⟩) (λr s'=>r=.ok (.ret (.bool true))/\OldK s₁.heap s'.heap/\s'.os=s₁.os/\AllBare s'.gens) s₁:=by
 have rv:=qJ6 hi;have lenV:=hi.length;have core:∀H:Hp,Only H->SqL K H a (ns.map V.int)->HOk P w H s₁.heap->(∀b,H b≠none->b=a)->(H a≠none->K.lookup a=none) ->
   codeAny (model P w) callerA (.call (.ref fa) ⟨[.ref a],[]⟩) (λr s'=>r=.ok (.ret (.bool true))/\OldK s₁.heap s'.heap/\s'.os=s₁.os/\AllBare s'.gens) s₁:=by
  intro H hO hS hok hA hK;have base_of:∀{b:Addr}{o:Obj},s₁.heap.get? b=some o->H b=none->(hidT s₁.heap H).get? b=some o:=λe n=>xk3 e n;have noA:∀{b:Addr}{o:Obj}{es:Array DictEntry}{ep:Nat},s₁.heap.get? b=some o->o.data=.dict es ep->H b=none:=λ{b o es ep} e d=>by
   cases q:H b with
   |none=>rfl
   |some u=>
    have e':b=a:=hA b (by rw[q];simp);subst e';rw[ha] at e;cases e;have d':Data.seq vs.toArray _=Data.dict es ep:=d;cases d'
  have nsK:∀{b:Addr}{m:Str->Option Value},s₁.heap.Ns b m->(hidT s₁.heap H).Ns b m:=λ{b m} ⟨o,es,ep,e,d,r⟩=>⟨o,es,ep,base_of e (noA e d),d,r⟩;have hKb:K.In (hidT s₁.heap H):=λb o e=>base_of (KX b o e) (by
   cases q:H b with
   |none=>rfl
   |some u=>
    have e':b=a:=hA b (by rw[q];simp);subst e';rw[hK (by rw[q];simp)] at e;cases e)
  have hM:Mod K mg (hidT s₁.heap H):=⟨hKb,nsK hns,⟨mb,nsK hb,hbb⟩,let ⟨mc,h1,h2⟩:=hlim;⟨mc,nsK h1,h2⟩⟩;have e0:Env0 P w K mg (hidT s₁.heap H) callerA [] s₁ H:=⟨rfl,hM,λb o e=>xu7 e,WX (q55 _ _),trivial,λb hb=>absurd (show b∈([]:List Addr) from hb) (by simp),hok,.of_eq hg⟩;refine X6 ((F _ hKb (nsK hns)).run callerA [] s₁ H ⟨[.ref a],[]⟩ [.ref a] [.ref a] _ _ hr e0 (hbind s₁ (.ref a)) (.cons rfl .nil) (kX H hO hS)) λr s' h=>?_;cases r with
  |error e=>exact (hCX H e s' h).elim
  |ok fl=>
   cases fl with
   |next=>exact False.elim h
   |brk=>exact False.elim h
   |cont=>exact False.elim h
   |ret u=>
    obtain⟨v,H',os,bare,un,hok',r',q⟩:=h;have q':v=.bl true:=q;subst q';obtain rfl:u=Value.bool true:=r';refine⟨rfl,OldK.of_keep λb o e=>?_,os,bare⟩;cases q:H b with
    |none=>exact un.keep b o e q (by intro z;exact absurd (show b∈([]:List Addr) from z) (by simp)) (by simp)
    |some u=>
     rcases hO b with z|⟨ob,xs,z⟩
     ·rw[q] at z;cases z
     ·have z2:=un.frzs b ob _ z;obtain⟨e1,_⟩:=hok b _ z;obtain⟨e2,_⟩:=hok' b _ z2;rw[e] at e1;cases e1;exact e2
 cases hk:K.lookup a with
 |some o=>
  have e:=KX a o hk;rw[ha] at e;cases e;refine core (λ_=>none) (λ_=>.inl rfl) (.inr ⟨_,vs.toArray,_,hk,rfl,rfl,rfl,by rw[ZI,lenV];exact hl,by simpa using rv⟩) (λb u z=>by have z':(none:Option HO)=some u:=z;cases z') (λb z=>absurd rfl z) λz=>absurd rfl z
 |none=>
  refine core (λb=>if b=a then some (.frz { cls:=.type "list",data:=.seq vs.toArray } (.lst (ns.map V.int))) else none) (λb=>?_) (.inl (.inr ⟨{ cls:=.type "list",data:=.seq vs.toArray },Zt rfl⟩)) (λb u z=>?_) (λb z=>?_) λ_=>hk
  ·by_cases hb:b=a
   ·exact .inr ⟨_,_,Zt hb⟩
   ·exact .inl (Zm hb)
  ·by_cases hb:b=a
   ·have z':=(Zt hb).symm.trans z;cases z';subst hb;exact⟨ha,by rw[Zi];exact hl,vs,_,rv,ha⟩
   ·have z':=(Zm hb).symm.trans z;cases z'
  ·by_cases hb:b=a
   ·exact hb
   ·exact absurd (Zm hb) z
theorem xv4 {l:PySem.W.OpenLaw}{n k:Nat}{q:Program}{loose:List Str}{XP:(Str->Option Value)->Heap->Prop}{YP:World->Heap->Prop}{d:DefRec}{K:Params->PySem.W.Frag}{CX:World->CXT}{sp:World->Sp}{x:Str}
  (hn:l.most=some n) (hn2:n<=sizeLine) (hdf:d.params.defaults=[]) (hr:Room k callerA)
  (hY:∀(w:World) (h:Heap),YP w h->(K w.params).In h)
  (F:∀(w:World) (mg:Str->Option Value) (fa:Addr) (h:Heap),(K w.params).In h->h.Ns mainGlobals mg->mg d.name=some (.ref fa) ->
   ∃fd:FuncData,(∀(s:Shared) (u:Value),BindsTo s fd ⟨[u],[]⟩ [(x,u)]) /\
    ∀base:Heap,(K w.params).In base->base.Ns mainGlobals mg->FnOk l.prog w (K w.params) mg base (CX w) k fa fd [x] (sp w))
  (kX:∀(w:World) (H:Hp) (a:Addr) (ns:List Int),ns.length<=n->Only H->SqL (K w.params) H a (ns.map V.int)->sp w [.ref a] H (λv _=>v=.bl true) λ_ _ _=>False)
  (hCX:∀(w:World) (H:Hp) (s:Shared) (e:Value) (s':Shared),CX w [] H s (λ_ _ _=>False) e s'->False) :
  PySem.W.WalkO q loose XP YP l.row.toRowW d [] (λf vs=>PySem.call f vs):=by
 refine Att.attach_call hn hdf λw s₀ s₁ mg mb fa o pm cd doc a vs ns G Y ho hd kJ hmg hobj hints j6 hg=>?_;have KX:=hY w _ Y;obtain⟨fd,hb,hF⟩:=F w mg fa _ KX G.T.g hmg;exact xl1 KX G.T.g G.T.b G.T.builtins G.T.nolimit hg hobj hints (ZE j6 hn2) hr hF hb (λH hO hS=>kX w H a ns j6 hO hS) λH e s'=>hCX w H s₁ e s'
abbrev CX0:CXT:=λ_ _ _ _ _ _=>False
abbrev E0:XK:=λ_ _ _=>False
theorem qE1 {X:Cx}:qt4 CX0 X E0:=λ_ _ _ _ _ _ _ h=>h.elim
structure Fun (K:PySem.W.Frag) (x qual:Str) (st:Stmt) (f:Addr) (fd:FuncData):Prop where
 ex:∃(oc:Value) (od:Option Addr) (kV doc pm:Value) (an:Option Addr) (cdv ct:Value) (osl:Array (Option Value)),
  fd=PySem.W.fnOf x qual (qh6 st) (qf6 st) (qa3 st) .none kV doc pm an cdv ct/\K.lookup f=some ⟨oc,od,.func fd,osl⟩/\PySem.W.codeIn K cdv qual=true
 kp:PySem.W.keepIn K (.ref f)=true
section
variable {P:Program}{w:World}{K:PySem.W.Frag}{mg:Str->Option Value}{base:Heap}
theorem Fun.ok {x qual:Str}{st:Stmt}{f:Addr}{fd:FuncData}{N ps:List Str}{k:Nat}{sp:Sp}(F:Fun K x qual st f fd) (S:FnScope N ps (qa3 st)) (len:∀vs H Q E,sp vs H Q E->vs.length=ps.length)
  (jY:∀(cdv:Value) (A:Around) (outer:List Env) (s:Shared) (H:Hp) (vs:List V) (Q:VK) (E:XK),Room k (A.deeper (envOfC qual (qa3 st) s.heap.objs.size f cdv))->sp vs H Q E ->
   ∃t,PSs (cxOf CX0 P w K mg base N qual (qa3 st) f cdv A outer s H E).nox (qf6 st) t/\t { nx:=λ_ H'=>Q .non H',rt:=Q } (start N vs) H):FnOk P w K mg base CX0 (k+1) f fd ps sp:=by
 obtain⟨oc,od,kV,doc,pm,an,cdv,ct,osl,rfl,lk,kJ⟩:=F.ex;refine xB9 lk kJ S len λA outer s H vs Q E hr kX=>?_;obtain⟨t,h,q⟩:=jY cdv A outer s H vs Q E hr kX;exact⟨t,h.nox,q⟩
theorem Fun.binds {x qual:Str}{st:Stmt}{f:Addr}{fd:FuncData}{ps:List Str}(F:Fun K x qual st f fd)
  (h:∀(kV doc pm:Value) (an:Option Addr) (cdv ct:Value) (us:List Value),us.length=ps.length->bindArgs (PySem.W.fnOf x qual (qh6 st) (qf6 st) (qa3 st) .none kV doc pm an cdv ct) ⟨us,[]⟩=pure (ps.zip us)):Binds K fd ps []:=by
 obtain⟨oc,od,kV,doc,pm,an,cdv,ct,osl,rfl,lk,kJ⟩:=F.ex;exact .all (h kV doc pm an cdv ct)
theorem q76 {x qual:Str}{st:Stmt}{f:Addr}{oc:Value}{od an:Option Addr}{osl:Array (Option Value)}{kV doc pm cdv ct:Value}(l:K.lookup f=some ⟨oc,od,.func (PySem.W.fnOf x qual (qh6 st) (qf6 st) (qa3 st) .none kV doc pm an cdv ct),osl⟩)
  (c:PySem.W.codeIn K cdv qual=true) (k:PySem.W.keepIn K (.ref f)=true):Fun K x qual st f (PySem.W.fnOf x qual (qh6 st) (qf6 st) (qa3 st) .none kV doc pm an cdv ct):=⟨⟨oc,od,kV,doc,pm,an,cdv,ct,osl,rfl,l,c⟩,k⟩
end
theorem qb5 {n:Nat}(h:n<=1000):n<sizeLine:=Yg h (by decide)
section
variable {X:Cx}
theorem pv (i:Nat){x:Str}{pos:Pos}(hN:X.N[i]?=some x:=by rfl) (hv:Vis X.env.scope x:=by first|exact Or.inl rfl|exact Or.inr (Or.inl rfl)|exact Or.inr (Or.inr rfl)) (hd:(x==("__debug__" : Str))=false:=by decide)
  (kJ:(x==("__classdict__" : Str))=false:=by decide):PE X (.Name x pos) (tVar i):=xB2 hN hv hd kJ
end
theorem iteF {A B:Prop}(h:B):if false=true then A else B:=by
 rw[Zm ZD];exact h
theorem iteT {A B:Prop}(h:A):if true=true then A else B:=by
 rw[Zt rfl];exact h
theorem ite2 {c A B:Prop}[Decidable c] (h1:c->A) (h2:¬c->B):if c then A else B:=by
 by_cases h:c
 ·rw[Zt h];exact h1 h
 ·rw[Zm h];exact h2 h
theorem xv5 {c A B:Prop}[Decidable c] (hc:c) (h:B):if (!decide c)=true then A else B:=by
 rw[Zj hc];exact iteF h
def Same (H H':Hp):Prop:=∀b o,H b=some o->H' b=some o
theorem Same.refl (H:Hp):Same H H:=λ_ _ h=>h
theorem Same.trans {H H1 H2:Hp}(a:Same H H1) (b:Same H1 H2):Same H H2:=λc o h=>b c o (a c o h)
theorem Same.seq {K:PySem.W.Frag}{H H':Hp}{a:Addr}{xs:List V}(e:Same H H') (h:SqL K H a xs):SqL K H' a xs:=by
 rcases h with (h|⟨o,h⟩)|h
 ·exact .inl (.inl (e _ _ h))
 ·exact .inl (.inr ⟨o,e _ _ h⟩)
 ·exact .inr h
section
variable {X:Cx}
theorem qs1 {env:Env}:∀{names:List (Str×NameKind)}{acc:List (Str×Addr)},
  (∀p∈names,p.2=.free->∃c,cellOf env p.1=pure c/\env.cells.lookup p.1=some c) ->
  (∀y c,acc.lookup y=some c->env.cells.lookup y=some c) ->
  ∃cl:List (Str×Addr),(forIn names acc λp cs=>(if p.2==.free then (do let c <- cellOf env p.1;pure (ForInStep.yield ((p.1,c)::cs))) else pure (ForInStep.yield cs):Sem (ForInStep (List (Str×Addr)))))=pure cl /\
   (∀y c,cl.lookup y=some c->env.cells.lookup y=some c)/\(∀y,(acc.lookup y).isSome=true->(cl.lookup y).isSome=true)/\∀p∈names,p.2=.free->(cl.lookup p.1).isSome=true
 |[],acc,_,ha=>⟨acc,by simp,ha,λ_ h=>h,λ_ h=>absurd h (by simp)⟩
 |(n,k)::r,acc,hn,ha=>by
  by_cases hk:k=.free
  ·subst hk;obtain⟨c,e1,e2⟩:=hn (n,.free) Zh rfl;obtain⟨cl,h1,h2,h3,h4⟩:=qs1 (env:=env) (names:=r) (acc:=(n,c)::acc) (λp hp=>hn p (Ze _ hp)) (λy d h=>by
    rw[Yw] at h;cases hy:y==n with
    |true=>rw[hy] at h;cases h;rw[eq_of_beq hy];exact e2
    |false=>rw[hy] at h;exact ha y d h)
   refine⟨cl,?_,h2,λy hy=>h3 y (by
    rw[Yw];cases y==n with
    |true=>rfl
    |false=>exact hy),λp hp hf=>?_⟩
   ·rw[Vu];have e1':cellOf env n=pure c:=e1;simp only[Vm,Xu,e1',pure_bind];exact h1
   ·rcases ZC.mp hp with rfl|hp
    ·exact h3 _ (by simp[Yw])
    ·exact h4 p hp hf
  ·obtain⟨cl,h1,h2,h3,h4⟩:=qs1 (env:=env) (names:=r) (acc:=acc) (λp hp=>hn p (Ze _ hp)) ha;refine⟨cl,?_,h2,h3,λp hp hf=>?_⟩
   ·rw[Vu];have:(k==NameKind.free)=false:=by simpa using hk
    simp only[this,ZL,Yq,pure_bind];exact h1
   ·rcases ZC.mp hp with rfl|hp
    ·exact absurd hf hk
    ·exact h4 p hp hf
def xl2 (wi:TI) (te:TE):TE:=λσ H Q=>wi σ H λJ H1=>∀D,H1 D=none->∃W:Nat->Nat->List V->Hp->Prop,(∃m,W 0 m [] (upd H1 D (.lst []))) /\
 ∀i m xs H2,W i m xs H2->H2 D=some (.lst xs)/\xs.length<sizeLine/\((J.stop i H2/\Q (.ref D) H2)\/(J.go i H2/\∀y H3,J.yld i H2 y H3 ->
  te (some y::σ) H3 λv H4=>H4 D=some (.lst xs)/\∃m',m'<m/\W (i+1) m' (xs++[v]) (upd H4 D (.lst (xs++[v])))))
theorem ql0 {scope:Scope}{env:Env}(hf:∀p∈scope.names,p.2=.free->∃c,env.cells.lookup p.1=some c) :
  ∃cl:List (Str×Addr),closureFor scope env=pure cl/\(∀y c,cl.lookup y=some c->env.cells.lookup y=some c)/\∀p∈scope.names,p.2=.free->(cl.lookup p.1).isSome=true:=by
 obtain⟨cl,h1,h2,_,h4⟩:=qs1 (env:=env) (names:=scope.names) (acc:=[]) (λp hp hk=>by
  obtain⟨c,e⟩:=hf p hp hk;refine⟨c,?_,e⟩;unfold cellOf;rw[e]) (λy c h=>by simp at h)
 refine⟨cl,?_,h2,h4⟩;unfold closureFor;refine Eq.trans ?_ h1;simp only[bind_pure]
theorem qh9 {env:Env}:∀{names:List (Str×NameKind)}{y:Str}{k:NameKind},(names.map λ(n,k)=>if (k==NameKind.free&&env.scope.kind==.function&&env.kindOf n==some .cell) then (n,NameKind.cell) else (n,k)).lookup y=some k ->
  (∀p∈names,p.2≠.cell)->(k=.cell\/k=.free)->∃p∈names,p.1=y/\p.2=.free
 |[],_,_,h,_,_=>by simp at h
 |(n,k0)::r,y,k,h,hc,hk=>by
  rw[Zz] at h;by_cases hy:y=n
  ·subst hy;by_cases h0:k0=.free
   ·exact⟨(y,k0),Zh,rfl,h0⟩
   ·exfalso;have e:(k0==NameKind.free)=false:=by simpa using h0
    simp only[e,Vz,ZL,Yq,Yw,Vm,Option.some.injEq] at h;rcases hk with z|z
    ·exact hc _ Zh (h.trans z)
    ·exact h0 (h.trans z)
  ·have hb:(y==n)=false:=by simpa using hy
   have h':(r.map λ(n,k)=>if (k==NameKind.free&&env.scope.kind==.function&&env.kindOf n==some .cell) then (n,NameKind.cell) else (n,k)).lookup y=some k:=by
    revert h;dsimp only;split<;>(intro h;simpa only [Yw,hb] using h)
   obtain⟨p,hp,e⟩:=qh9 h' (λp hp=>hc p (Ze _ hp)) hk;exact⟨p,Ze _ hp,e⟩
theorem qp0 {env:Env}:∀{names:List (Str×NameKind)}{y:Str},(names.map λ(n,k)=>if (k==NameKind.free&&env.scope.kind==.function&&env.kindOf n==some .cell) then (n,NameKind.cell) else (n,k)).lookup y=some .local ->
  names.lookup y=some .local
 |[],_,h=>by simp at h
 |(n,k0)::r,y,h=>by
  rw[Zz] at h;by_cases hy:y=n
  ·subst hy;rw[Yw,Vm];revert h;dsimp only;split
   ·intro h;simp[Yw] at h
   ·intro h;simpa [Yw] using h
  ·have hb:(y==n)=false:=by simpa using hy
   rw[Yw,hb];refine qp0 (env:=env) ?_;revert h;dsimp only;split<;>(intro h;simpa only [Yw,hb] using h)
end
section
variable {κ:Type}[DecidableEq κ]
def valV (kvs:List (κ×V)) (k:κ):Option V:=(kvs.find? λkv=>decide (kv.1=k)).map (·.2)
def putK (kvs:List (κ×V)) (k:κ) (v:V):List (κ×V):=
 if (kvs.any λkv=>decide (kv.1=k))=true then kvs.map (λkv=>if kv.1=k then (kv.1,v) else kv) else kvs++[(k,v)]
theorem qe8 {p:κ×V}{r:List (κ×V)}{k:κ}(e:p.1=k):valV (p::r) k=some p.2:=by simp[valV,XI,e]
theorem qd9 {p:κ×V}{r:List (κ×V)}{k:κ}(e:¬p.1=k):valV (p::r) k=valV r k:=by simp[valV,XI,e]
theorem qi5 (k:κ):∀kvs:List (κ×V),(kvs.any λkv=>decide (kv.1=k))=(valV kvs k).isSome
 |[]=>rfl
 |p::r=>by
  rw[Y6];by_cases e:p.1=k
  ·simp only[qe8 e,Zj e,Bool.true_or,Option.isSome_some]
  ·rw[qd9 e,Zp e,Bool.false_or];exact qi5 k r
theorem qU8 (k j:κ) (y:V):∀kvs:List (κ×V),valV (kvs.map λkv=>if kv.1=k then (kv.1,y) else kv) j=(valV kvs j).map λx=>if j=k then y else x
 |[]=>rfl
 |p::r=>by
  have ih:=qU8 k j y r;rw[Zz];by_cases h:p.1=k
  ·rw[Zt h];by_cases e:p.1=j
   ·rw[qe8 (p:=(p.1,y)) e,qe8 e,WO,Zt (e.symm.trans h)]
   ·rw[qd9 (p:=(p.1,y)) e,qd9 e,ih]
  ·rw[Zm h];by_cases e:p.1=j
   ·rw[qe8 (p:=p) e,qe8 e,WO,Zm (λz=>h (e.trans z))]
   ·rw[qd9 (p:=p) e,qd9 e,ih]
theorem qJ7 (k j:κ) (y:V):∀kvs:List (κ×V),valV kvs k=none->valV (kvs++[(k,y)]) j=if j=k then some y else valV kvs j
 |[],_=>by
  by_cases e:k=j
  ·rw[Zt e.symm];exact qe8 (p:=(k,y)) e
  ·rw[Zm (λz=>e z.symm)];exact qd9 (p:=(k,y)) e
 |p::r,hn=>by
  rw[List.cons_append];have hk:¬p.1=k:=λz=>by rw[qe8 z] at hn;cases hn
  rw[qd9 hk] at hn;have ih:=qJ7 k j y r hn;by_cases e:p.1=j
  ·rw[qe8 e,qe8 e,Zm (λz=>hk (e.trans z))]
  ·rw[qd9 e,qd9 e,ih]
theorem qU9 (kvs:List (κ×V)) (k j:κ) (y:V):valV (putK kvs k y) j=if j=k then some y else valV kvs j:=by
 unfold putK;by_cases a:(kvs.any λkv=>decide (kv.1=k))=true
 ·rw[Zt a,qU8];rw[qi5] at a;by_cases e:j=k
  ·obtain⟨x,hx⟩:=Xp.mp a;rw[Zt e,e,hx,WO,Zt rfl]
  ·rw[Zm e];cases valV kvs j with
   |none=>rfl
   |some x=>rw[WO,Zm e]
 ·rw[Zm a];refine qJ7 k j y kvs ?_;rw[qi5] at a;cases q:valV kvs k with
  |none=>rfl
  |some x=>rw[q] at a;exact (a rfl).elim
theorem qj8 (kvs:List (κ×V)) (k:κ) (v:V):(putK kvs k v).length<=kvs.length+1:=by
 unfold putK;split
 ·rw[Zi];lia
 ·rw[Zu,Zy,Vv];lia
theorem RelO.isSome_eq {o:Option V}{u:Option Value}(r:RelO o u):o.isSome=u.isSome:=by
 cases o with
 |none=>cases u with
  |none=>rfl
  |some _=>exact (show False from r).elim
 |some _=>cases u with
  |none=>exact (show False from r).elim
  |some _=>rfl
theorem KV.val {kvs:List (κ×V)}{vs:List (κ×Value)}(r:KV kvs vs) (k:κ):RelO (valV kvs k) (valueAt vs k):=by
 unfold KV at r
 induction r with
 |nil=>exact True.intro
 |@cons p q ps qs h t ih=>
  obtain⟨h1,h2⟩:=h;by_cases e:p.1=k
  ·have e':q.1=k:=h1.symm.trans e;have b:valueAt (q::qs) k=some q.2:=by simp[valueAt,XI,e']
   rw[qe8 e,b];exact h2
  ·have e':¬q.1=k:=λz=>e (h1.trans z);have b:valueAt (q::qs) k=valueAt qs k:=by simp[valueAt,XI,e']
   rw[qd9 e,b];exact ih
theorem KV.any {kvs:List (κ×V)}{vs:List (κ×Value)}(r:KV kvs vs) (k:κ):(kvs.any λkv=>decide (kv.1=k))=vs.any λkv=>decide (kv.1=k):=by
 unfold KV at r
 induction r with
 |nil=>rfl
 |cons h t ih=>rw[Y6,Y6,ih,h.1]
theorem KV.repl {kvs:List (κ×V)}{vs:List (κ×Value)}(r:KV kvs vs) (k:κ){y:V}{u:Value}(ry:RelV y u) :
  KV (kvs.map λkv=>if kv.1=k then (kv.1,y) else kv) (vs.map λkv=>if kv.1=k then (kv.1,u) else kv):=by
 unfold KV at r ⊢
 induction r with
 |nil=>exact .nil
 |@cons p q ps qs h t ih=>
  rw[Zz,Zz];refine .cons ?_ ih;obtain⟨h1,h2⟩:=h;by_cases e:p.1=k
  ·rw[Zt e,Zt (h1.symm.trans e)];exact⟨h1,ry⟩
  ·rw[Zm e,Zm (λz=>e (h1.trans z))];exact⟨h1,h2⟩
theorem KV.put {kvs:List (κ×V)}{vs:List (κ×Value)}(r:KV kvs vs) (k:κ){y:V}{u:Value}(ry:RelV y u):KV (putK kvs k y) (stored vs k u):=by
 unfold putK stored;rw[r.any k];by_cases e:(vs.any λkv=>decide (kv.1=k))=true
 ·rw[Zt e,Zt e];exact r.repl k ry
 ·rw[Zm e,Zm e];exact Paired.snoc r ⟨rfl,ry⟩
theorem KV.keys {kvs:List (κ×V)}{vs:List (κ×Value)}(r:KV kvs vs):kvs.map (·.1)=vs.map (·.1):=by
 unfold KV at r
 induction r with
 |nil=>rfl
 |cons h t ih=>rw[Zz,Zz,ih,h.1]
theorem KV.length {kvs:List (κ×V)}{vs:List (κ×Value)}(r:KV kvs vs):kvs.length=vs.length:=WE r
end
theorem q18 {P:Program}{w:World}{k:Key}{u:Value}(r:RelV (kV k) u):(qd5 P w).is k u=true:=by
 cases k with
 |inl i=>obtain⟨t,e⟩:=(show ∃t,u=Value.int i t from r);subst e;exact qQ3 P w i t
 |inr x=>obtain⟨t,e⟩:=(show ∃t,u=Value.str x t from r);subst e;exact qQ4 P w x t
theorem qx4 {P:Program}{w:World}:∀{ks:List Key}{us:List Value},Vals (ks.map kV) us->ItemsAre (qd5 P w) ks us
 |[],_,r=>by rw[X7] at r;cases r;exact .nil
 |k::ks,_,r=>by
  rw[Zz] at r;cases r with
  |cons h t=>exact .cons (q18 h) (qx4 t)
abbrev KT (H:Hp):List (List Key×V)->List (List Key×Addr×Value)->Prop:=Paired λp q=>p.1=q.1/\H q.2.1=some (.tup (p.1.map kV))/\RelV p.2 q.2.2
theorem KT.val {H:Hp}{kvs:List (List Key×V)}{xs:List (List Key×Addr×Value)}(r:KT H kvs xs) (k:List Key):RelO (valV kvs k) ((atKey xs k).map (·.2)):=by
 induction r with
 |nil=>exact True.intro
 |@cons p q ps qs h t ih=>
  obtain⟨h1,_,h2⟩:=h;by_cases e:p.1=k
  ·have e':q.1=k:=h1.symm.trans e;have b:atKey (q::qs) k=some q.2:=by simp[atKey,XI,e']
   rw[qe8 e,b];exact h2
  ·have e':¬q.1=k:=λz=>e (h1.trans z);have b:atKey (q::qs) k=atKey qs k:=by simp[atKey,XI,e']
   rw[qd9 e,b];exact ih
theorem KT.repl {H:Hp}{kvs:List (List Key×V)}{xs:List (List Key×Addr×Value)}(r:KT H kvs xs) (k:List Key){y:V}{u:Value}(ry:RelV y u) :
  KT H (kvs.map λkv=>if kv.1=k then (kv.1,y) else kv) (xs.map (putAt k u)):=by
 induction r with
 |nil=>exact .nil
 |@cons p q ps qs h t ih=>
  rw[Zz,Zz];refine .cons ?_ ih;obtain⟨h1,h2,h3⟩:=h;unfold putAt;by_cases e:p.1=k
  ·rw[Zt e,Zt (h1.symm.trans e)];exact⟨h1,h2,ry⟩
  ·rw[Zm e,Zm (λz=>e (h1.trans z))];exact⟨h1,h2,h3⟩
theorem KT.put {H:Hp}{kvs:List (List Key×V)}{xs:List (List Key×Addr×Value)}(r:KT H kvs xs) (k:List Key){b:Addr}{y:V}{u:Value}(hb:H b=some (.tup (k.map kV))) (ry:RelV y u) :
  KT H (putK kvs k y) (storedH xs k b u):=by
 have e:(kvs.any λkv=>decide (kv.1=k))=(atKey xs k).isSome:=by
  rw[qi5,(r.val k).isSome_eq,Vd]
 unfold putK storedH;rw[e];by_cases q:(atKey xs k).isSome=true
 ·rw[Zt q,Zt q];exact r.repl k ry
 ·rw[Zm q,Zm q];exact Paired.snoc r ⟨rfl,hb,ry⟩
theorem KT.keeps {H H':Hp}{kvs:List (List Key×V)}{xs:List (List Key×Addr×Value)}(r:KT H kvs xs) (ht:∀b ys,H b=some (.tup ys)->H' b=some (.tup ys)):KT H' kvs xs:=
 Paired.mapP r λ_ _ z=>⟨z.1,ht _ _ z.2.1,z.2.2⟩
section
variable {P:Program}{w:World}{H:Hp}{h:Heap}{a:Addr}
theorem xC5 {u:HO}(ok:HOk P w H h) (e:Rd H a u):ObjOk P w H h a u:=e.ok ok
theorem q77 {kvs:List (Key×V)}(ok:HOk P w H h) (e:Rd H a (.dK kvs)):kvs.length<=sizeLine/\(a==sysModules)=false/\∃vs,KV kvs vs/\h.DictOf (qd5 P w) a vs:=
 show ObjOk P w H h a (.dK kvs) from xC5 ok e
theorem xv6 {kvs:List (Key×V)}(ok:HOk P w H h) (e:H a=some (.dK kvs)):kvs.length<=sizeLine/\(a==sysModules)=false/\∃vs,KV kvs vs/\h.DictOf (qd5 P w) a vs:=q77 ok (.inl e)
theorem qJ8 {ks:List Key}(ok:HOk P w H h) (e:H a=some (.tup (ks.map kV))):(tupleKind (qd5 P w)).is h ks a:=by
 obtain⟨_,its,r,o,h1,h2,n,h3⟩:=(show ObjOk P w H h a (.tup (ks.map kV)) from ok a _ e);exact⟨o,its.toArray,n,h1,h2,h3,by simpa using qx4 r⟩
theorem q78 {kvs:List (List Key×V)}(ok:HOk P w H h) (e:Rd H a (.dT kvs)):kvs.length<=sizeLine/\(a==sysModules)=false /\
  ∃xs,KT H kvs xs/\h.DictOfH (tupleKind (qd5 P w)) a xs:=by
 obtain⟨z,y,xs,r,o,es,ep,h1,h2,h3,h4,h5⟩:=(show ObjOk P w H h a (.dT kvs) from xC5 ok e);refine⟨z,y,xs,r,o,es,ep,h1,h2,h3,h4,λx hx=>?_,h5⟩;have all:∀{l:List (List Key×V)}{m:List (List Key×Addr×Value)},KT H l m->∀x∈m,(tupleKind (qd5 P w)).is h x.1 x.2.1:=by
  intro l m q
  induction q with
  |nil=>intro x hx;exact nomatch hx
  |@cons p q ps qs hq t ih=>
   intro x hx;rcases ZC.mp hx with e|hx
   ·subst e;exact qJ8 ok (by rw[<- hq.1];exact hq.2.1)
   ·exact ih x hx
 exact all r x hx
theorem xI8 {kvs:List (List Key×V)}(ok:HOk P w H h) (e:H a=some (.dT kvs)):kvs.length<=sizeLine/\(a==sysModules)=false /\
  ∃xs,KT H kvs xs/\h.DictOfH (tupleKind (qd5 P w)) a xs:=q78 ok (.inl e)
end
def DGet (H:Hp) (a:Addr) (y:V) (r:Option V):Prop:=
 (∃kvs k,Rd H a (.dK kvs)/\y=kV k/\r=valV kvs k)\/∃kvs k b,Rd H a (.dT kvs)/\y=.ref b/\H b=some (.tup (k.map kV))/\r=valV kvs k
def DPut (H:Hp) (a:Addr) (y v:V) (H':Hp):Prop:=
 (∃kvs k,H a=some (.dK kvs)/\y=kV k/\kvs.length<sizeLine/\H'=upd H a (.dK (putK kvs k v))) \/
 ∃kvs k b,H a=some (.dT kvs)/\y=.ref b/\H b=some (.tup (k.map kV))/\kvs.length<sizeLine/\H'=upd H a (.dT (putK kvs k v))
theorem DGet.k {H:Hp}{a:Addr}{kvs:List (Key×V)}{k:Key}(e:H a=some (.dK kvs)):DGet H a (kV k) (valV kvs k):=.inl ⟨kvs,k,.inl e,rfl,rfl⟩
theorem DGet.t {H:Hp}{a b:Addr}{kvs:List (List Key×V)}{k:List Key}(e:H a=some (.dT kvs)) (eb:H b=some (.tup (k.map kV))):DGet H a (.ref b) (valV kvs k):=.inr ⟨kvs,k,b,.inl e,rfl,eb,rfl⟩
theorem DPut.k {H:Hp}{a:Addr}{kvs:List (Key×V)}{k:Key}{v:V}(e:H a=some (.dK kvs)) (hl:kvs.length<sizeLine):DPut H a (kV k) v (upd H a (.dK (putK kvs k v))):=.inl ⟨kvs,k,e,rfl,hl,rfl⟩
theorem DPut.t {H:Hp}{a b:Addr}{kvs:List (List Key×V)}{k:List Key}{v:V}(e:H a=some (.dT kvs)) (eb:H b=some (.tup (k.map kV))) (hl:kvs.length<sizeLine) :
  DPut H a (.ref b) v (upd H a (.dT (putK kvs k v))):=.inr ⟨kvs,k,b,e,rfl,eb,hl,rfl⟩
section
variable {X:Cx}{j4:List (Addr×Obj)}{σ:St}{H:Hp}{s:Shared}{a:Addr}{y v:V}{u r:Value}{o:Option V}{A:Around}{E:Value->Shared->Prop}
theorem Inv.big (I:Inv X j4 σ H s):sysModules<s.heap.objs.size:=by
 have h:mainGlobals<s.heap.objs.size:=(I.mod.glob.keeps I.bk).lt;exact Xk (by decide) h
theorem q79 {Q:Value->Shared->Prop}(hu:A.units+1<cLine) (I:Inv X j4 σ H s) (g:DGet H a y (some v)) (ry:RelV y u) (h:∀w' s',Inv X j4 σ H s'->RelV v w'->Q w' s') :
  wpAny (model X.prog X.w) A (getItem (.ref a) u) Q E s:=by
 rcases g with ⟨kvs,k,e,ey,l⟩|⟨kvs,k,b,e,ey,eb,l⟩
 ·subst ey;obtain⟨z,hd,vs,rel,dd⟩:=q77 I.hok e;obtain⟨w',hw,rw'⟩:=RelO.some_of (v:=v) (o:=valueAt vs k) (by rw[l];exact rel.val k);exact wpAny_getItem_of (q18 ry) dd.mapOf hw (h w' _ (I.tok _) rw')
 ·subst ey;cases (show u=Value.ref b from ry);obtain⟨z,hd,xs,rel,dd⟩:=q78 I.hok e;obtain⟨w',hw,rw'⟩:=RelO.some_of (v:=v) (o:=(atKey xs k).map (·.2)) (by rw[l];exact rel.val k);obtain⟨p,hp,jR⟩:=Zr.mp hw;refine wpAny_getItem_heap (Wn hu) (qJ8 I.hok eb) dd hp ?_;rw[jR];exact h w' _ (I.tok _) rw'
theorem d_in {Q:Value->Shared->Prop}(hu:A.units+1<cLine) (I:Inv X j4 σ H s) (g:DGet H a y o) (ry:RelV y u) (h:∀s',Inv X j4 σ H s'->Q (.bool o.isSome) s') :
  wpAny (model X.prog X.w) A (compareOp .In u (.ref a)) Q E s:=by
 rcases g with ⟨kvs,k,e,ey,l⟩|⟨kvs,k,b,e,ey,eb,l⟩
 ·subst ey;obtain⟨z,hd,vs,rel,dd⟩:=q77 I.hok e;refine wpAny_in_of (q18 ry) hd dd.mapOf ?_;rw[<- (rel.val k).isSome_eq,<- l];exact h _ (I.tok _)
 ·subst ey;cases (show u=Value.ref b from ry);obtain⟨z,hd,xs,rel,dd⟩:=q78 I.hok e;refine wpAny_in_heap (Wn hu) (qJ8 I.hok eb) hd dd ?_;have q:=(rel.val k).isSome_eq;rw[Vd] at q;rw[<- q,<- l];exact h _ (I.tok _)
theorem xv7 {Q:Value->Shared->Prop}(hu:A.units+1<cLine) (I:Inv X j4 σ H s) (g:DGet H a y o) (ry:RelV y u) (h:∀s',Inv X j4 σ H s'->Q (.bool (!o.isSome)) s') :
  wpAny (model X.prog X.w) A (compareOp .NotIn u (.ref a)) Q E s:=by
 rcases g with ⟨kvs,k,e,ey,l⟩|⟨kvs,k,b,e,ey,eb,l⟩
 ·subst ey;obtain⟨z,hd,vs,rel,dd⟩:=q77 I.hok e;refine wpAny_notIn_of (q18 ry) hd dd.mapOf ?_;rw[<- (rel.val k).isSome_eq,<- l];exact h _ (I.tok _)
 ·subst ey;cases (show u=Value.ref b from ry);obtain⟨z,hd,xs,rel,dd⟩:=q78 I.hok e;refine wpAny_notIn_heap (Wn hu) (qJ8 I.hok eb) hd dd ?_;have q:=(rel.val k).isSome_eq;rw[Vd] at q;rw[<- q,<- l];exact h _ (I.tok _)
theorem qR0 {h':Heap}{t':Nat}{ob:HO}(I:Inv X j4 σ H s) (mu:Mut (H a)) (hs:Heap.SameBut a s.heap h') (he:∃q,h'.get? a=some q) (new:ObjOk X.prog X.w (upd H a ob) h' a ob) :
  Inv X j4 σ (upd H a ob) { s with heap:=h',toks:=t' }:=
 I.write (x:=a) (e:=a) mu (.inl rfl) (λb q hb z=>(hs.2 b hb).trans z) he new
theorem xr0 {P:Program}{w:World}{H':Hp}{h':Heap}{kvs:List (Key×V)}{vs:List (Key×Value)}(z:kvs.length<=sizeLine) (hd:(a==sysModules)=false) (rel:KV kvs vs) (dd:h'.DictOf (qd5 P w) a vs) :
  ObjOk P w H' h' a (.dK kvs):=⟨z,hd,vs,rel,dd⟩
theorem q80 {H':Hp}{Q:Unit->Shared->Prop}(hu:A.units+1<cLine) (I:Inv X j4 σ H s) (g:DPut H a y v H') (ry:RelV y u) (rv:RelV v r) (h:∀s',Inv X j4 σ H' s'->Q () s') :
  wpAny (model X.prog X.w) A (setItem (.ref a) u r) Q E s:=by
 rcases g with ⟨kvs,k,e,ey,l,eH⟩|⟨kvs,k,b,e,ey,eb,l,eH⟩
 ·subst ey eH;obtain⟨z,hd,vs,rel,dd⟩:=xv6 I.hok e;have hz:vs.length<=sizeLine:=by rw[<- rel.length];exact z
  have hl:(putK kvs k v).length<=sizeLine:=by have:=qj8 kvs k v;lia
  refine wpAny_setItem_pairs (hsz:=hz) (q18 ry) dd λh' dd' hs=>h _ ?_;have he:∃q,h'.get? a=some q:=let ⟨q,_,_,hq,_⟩:=dd';⟨q,hq⟩;exact qR0 I (by rw[e];exact True.intro) hs he (xr0 hl hd (rel.put k rv) dd')
 ·subst ey eH;cases (show u=Value.ref b from ry);obtain⟨z,hd,xs,rel,dd⟩:=xI8 I.hok e;have hz:xs.length<=sizeLine:=by rw[<- WE rel];exact z
  have hl:(putK kvs k v).length<=sizeLine:=by have:=qj8 kvs k v;lia
  refine wpAny_setItem_heap (hsz:=hz) (Wn hu) (qJ8 I.hok eb) dd λh' dd' hs=>h _ ?_;obtain⟨q,es,ep,hq,h2,h3,h4,_,h5⟩:=dd';refine qR0 I (by rw[e];exact True.intro) hs ⟨q,hq⟩ ⟨hl,hd,_,(rel.put k eb rv).keeps λc ys ec=>?_,q,es,ep,hq,h2,h3,h4,h5⟩;rw[qa7 (qD3 ec e (λz=>nomatch z))];exact ec
end
section
variable {X:Cx}{j4:List (Addr×Obj)}{σ:St}{H:Hp}{s:Shared}{a:Addr}{kvs:List (Key×V)}{k:Key}{u:Value}{A:Around}{E:Value->Shared->Prop}
end
def NoSl (i:Expr):Prop:=∀ov iv,subscripted i false ov iv=operate [ov,iv] (getItem ov iv)
theorem xv8 {prog:Program}{w:World}{A:Around}{E:Value->Shared->Prop}{s:Shared}{env:Env}{value slice:Expr}{pos:Pos}{T id:String}{Q:Value->Shared->Prop}
  (hl:typeLookup (.type T) "__getitem__" = pure (some (.builtin id))) (hs:NoSl slice)
  (h:wpAny (model prog w) A (eval value env) (λo s₁=>wpAny (model prog w) A (eval slice env) (λi s₂=>s₂.TypeIs o T/\wpAny (model prog w) A (getItem o i) Q E s₂) E s₁) E s) :
  wpAny (model prog w) A (eval (.Subscript value slice pos) env) Q E s:=by
 refine Subscript_ (YA h (λo s₁ h₁=>YA h₁ (λi s₂ h₂=>?_) λ_ _ x=>x) λ_ _ x=>x);obtain⟨hT,h₂⟩:=h₂;unfold subscriptTail;refine Za ?_;rw[getitemInPython_of_ne hT.not_modules];refine Za (wpAny_specialOf hT hl ?_);have fin:wpAny (model prog w) A (subscripted slice false o i) (λr s₃=>wpAny (model prog w) A (letTemporaryGo value o r >>= λ_=>pure r) Q E s₃) E s₂:=by
  rw[hs o i];exact wpAny_operating (YA h₂ (λr s₃ h₃=>Za (wpAny_letTemporaryGo (Zf h₃))) λ_ _ x=>x)
 first
  |exact Zf (Za fin)
  |exact Za (Zf (Za fin))
  |exact Za fin
theorem qR1 {X:Cx}{j4:List (Addr×Obj)}{σ:St}{H:Hp}{s:Shared}{a:Addr}{y:V}{o:Option V}(I:Inv X j4 σ H s) (g:DGet H a y o):s.TypeIs (.ref a) "dict":=by
 rcases g with ⟨kvs,k,e,_,_⟩|⟨kvs,k,b,e,_,_,_⟩
 ·obtain⟨_,_,vs,_,dd⟩:=q77 I.hok e;exact dd.typeIs
 ·obtain⟨_,_,xs,_,dd⟩:=q78 I.hok e;exact dd.typeIs
def xI9 (td ty:TE):TE:=λσ H Q=>td σ H λx H1=>ty σ H1 λy H2=>∃a v,x=.ref a/\DGet H2 a y (some v)/\Q v H2
def tDIn (ty td:TE):TE:=λσ H Q=>ty σ H λy H1=>td σ H1 λx H2=>∃a o,x=.ref a/\DGet H2 a y o/\Q (.bl o.isSome) H2
def xv9 (ty td:TE):TE:=λσ H Q=>ty σ H λy H1=>td σ H1 λx H2=>∃a o,x=.ref a/\DGet H2 a y o/\Q (.bl (!o.isSome)) H2
def xJ0 (td ty tv:TE):TS:=λD σ H=>tv σ H λv H1=>td σ H1 λx H2=>ty σ H2 λy H3=>∃a H4,x=.ref a/\DPut H3 a y v H4/\D.nx σ H4
section
variable {X:Cx}{o i e value:Expr}{pos pos' tpos:Pos}{td ty tv:TE}
theorem qs2 (hu:X.A.units+1<cLine) (ho:PE X o td) (hi:PE X i ty) (hs:NoSl i):PE X (.Subscript o i pos) (xI9 td ty):=by
 intro j4 s σ H Q I h;refine xv8 PySem.F.slot_dict_getitem.lookup hs (thn (ho j4 s σ H _ I h) λu s1 ⟨x,H1,I1,rx,q1⟩=>thn (hi j4 s1 σ H1 _ I1 q1) λiv s2 ⟨y,H2,I2,ry,a,v,ex,g,q2⟩=>?_);subst ex;obtain rfl:u=Value.ref a:=rx;exact⟨qR1 I2 g,q79 hu I2 g ry λw' s3 I3 rw'=>⟨v,H2,I3,rw',q2⟩⟩
theorem xr1 (hu:X.A.units+1<cLine) (hi:PE X i ty) (ho:PE X o td):PC X .In i o (tDIn ty td):=by
 intro j4 s σ H Q I h;refine thn (hi j4 s σ H _ I h) λiv s1 ⟨y,H1,I1,ry,q1⟩=>thn (ho j4 s1 σ H1 _ I1 q1) λu s2 ⟨x,H2,I2,rx,a,ov,ex,g,q2⟩=>?_;subst ex;obtain rfl:u=Value.ref a:=rx;exact d_in hu I2 g ry λs3 I3=>⟨.bl ov.isSome,H2,I3,rfl,q2⟩
theorem qp1 (hu:X.A.units+1<cLine) (hi:PE X i ty) (ho:PE X o td):PC X .NotIn i o (xv9 ty td):=by
 intro j4 s σ H Q I h;refine thn (hi j4 s σ H _ I h) λiv s1 ⟨y,H1,I1,ry,q1⟩=>thn (ho j4 s1 σ H1 _ I1 q1) λu s2 ⟨x,H2,I2,rx,a,ov,ex,g,q2⟩=>?_;subst ex;obtain rfl:u=Value.ref a:=rx;exact xv7 hu I2 g ry λs3 I3=>⟨.bl (!ov.isSome),H2,I3,rfl,q2⟩
theorem qs3 (hu:X.A.units+1<cLine) (ho:PE X o td) (hi:PE X i ty) (hv:PE X value tv) (hs:swapsWith value (some (.Subscript o i pos')) pos.line X.env=pure false) :
  PS X (.Assign [.Subscript o i pos'] value pos) (xJ0 td ty tv):=by
 intro j4 s σ H D I h;refine wpAny_Assign_Subscript (thn (hv j4 s σ H _ I h) λr s1 ⟨v,H1,I1,rv,q1⟩=>thn (ho j4 s1 σ H1 _ I1 q1) λu s2 ⟨x,H2,I2,rx,q2⟩=>thn (hi j4 s2 σ H2 _ I2 q2) λiv s3 ⟨y,H3,I3,ry,a,H4,ex,g,q3⟩=>?_) hs;subst ex;obtain rfl:u=Value.ref a:=rx;exact q80 hu I3 g ry rv λs4 I4=>⟨σ,H4,I4,q3⟩
end
theorem xl3 {P:Program}{w:World}{H:Hp}(h:Heap) (hb:sysModules<h.objs.size):ObjOk P w H (h.push { cls:=.type "dict",data:=.dict #[] }) h.objs.size (.dK []):=
 ⟨ZB _,Yz.mpr (Z0 (Zx hb)),[],.nil,Heap.DictOf.new h⟩
theorem xl4 {P:Program}{w:World}{H:Hp}(h:Heap) (hb:sysModules<h.objs.size):ObjOk P w H (h.push { cls:=.type "dict",data:=.dict #[] }) h.objs.size (.dT []):=
 ⟨ZB _,Yz.mpr (Z0 (Zx hb)),[],.nil,_,#[],0,Zk _ rfl,⟨rfl,rfl,rfl⟩,rfl,rfl,W1⟩
def xC6:TE:=λ_ H Q=>∀p,H p=none->Q (.ref p) (upd H p (.dT []))
section
variable {X:Cx}{pos:Pos}
theorem qE2:PE X (.Dict [] [] pos) xC6:=λj4 s σ H Q I h=>
 wpAny_Dict_empty ⟨.ref s.heap.objs.size,_,I.laid (a:=s.heap.objs.size) (o:=.dT []) (t':=s.toks) (λ_ _ q=>Zc _ q) (Zd _) (xl4 s.heap I.big),rfl,h _ (I.hok.fresh (Zd _))⟩
end
def q81:List (TE×TE)->St->Hp->(List (V×V)->Hp->Prop)->Prop
 |[],_,H,Q=>Q [] H
 |(tk,tv)::r,σ,H,Q=>tk σ H λx H1=>tv σ H1 λy H2=>q81 r σ H2 λps H3=>Q ((x,y)::ps) H3
abbrev VV:List (V×V)->List (Value×Value)->Prop:=Paired λp q=>RelV p.1 q.1/\RelV p.2 q.2
def PPs (X:Cx) (pos:Pos) (keys:List (Option Expr)) (values:List Expr) (trs:List (TE×TE)):Prop:=
 ∀(j4:List (Addr×Obj)) (s:Shared) (σ:St) (H:Hp) (Q:List (V×V)->Hp->Prop),Inv X j4 σ H s->q81 trs σ H Q ->
  wpAny (model X.prog X.w) X.A (evalPairs (pairTrees keys values X.env pos)) (λvs s'=>∃ps H',Inv X j4 σ H' s'/\VV ps vs/\Q ps H') X.xe s
theorem xw0 {X:Cx}{pos:Pos}:PPs X pos [] [] []:=λj4 s σ H Q I h=>pairTrees_nil_walk ⟨[],H,I,.nil,h⟩
theorem xl5 {X:Cx}{pos:Pos}{k v:Expr}{ks:List (Option Expr)}{vs:List Expr}{tk tv:TE}{trs:List (TE×TE)}(hk:PE X k tk) (hv:PE X v tv) (hr:PPs X pos ks vs trs) :
  PPs X pos (some k::ks) (v::vs) ((tk,tv)::trs):=λj4 s σ H Q I h=>
 pairTrees_cons_walk (thn (hk j4 s σ H _ I h) λu s1 ⟨x,H1,I1,rx,q1⟩=>thn (hv j4 s1 σ H1 _ I1 q1) λw2 s2 ⟨y,H2,I2,ry,q2⟩=>
  thn (hr j4 s2 σ H2 _ I2 q2) λws s3 ⟨ps,H3,I3,rel,q3⟩=>⟨(x,y)::ps,H3,I3,.cons ⟨rx,ry⟩ rel,q3⟩)
def qB1 (kvs more:List (Key×V)):List (Key×V):=more.foldl (λacc kv=>putK acc kv.1 kv.2) kvs
theorem KV.merge:∀{more:List (Key×V)}{rs:List (Key×Value)}{kvs:List (Key×V)}{vs:List (Key×Value)},KV more rs->KV kvs vs->KV (qB1 kvs more) (merged vs rs):=by
 intro more rs kvs vs r;unfold KV at r
 induction r generalizing kvs vs with
 |nil=>intro q;exact q
 |@cons p q ps qs h t ih=>
  intro r0;have e:KV (putK kvs p.1 p.2) (stored vs q.1 q.2):=by
   have:=r0.put p.1 h.2;rw[<- h.1];exact this
  exact ih e
theorem qp2:∀(more kvs:List (Key×V)),(qB1 kvs more).length<=kvs.length+more.length
 |[],kvs=>by show kvs.length<=kvs.length+0;lia
 |p::r,kvs=>by
  have h1:=qp2 r (putK kvs p.1 p.2);have h2:=qj8 kvs p.1 p.2;show (qB1 (putK kvs p.1 p.2) r).length<=_;rw[Zy];lia
theorem qB2 {P:Program}{w:World}:∀{kvs:List (Key×V)}{ws:List (Value×Value)},VV (kvs.map λkv=>(kV kv.1,kv.2)) ws->∃rs,Carries (qd5 P w) ws rs/\KV kvs rs
 |[],_,r=>by rw[X7] at r;cases r;exact⟨[],True.intro,.nil⟩
 |p::kvs,_,r=>by
  rw[Zz] at r;cases r with
  |@cons a b as bs h t=>
   obtain⟨rs,c,q⟩:=qB2 (P:=P) (w:=w) t;obtain⟨b1,b2⟩:=b;exact⟨(p.1,b2)::rs,⟨q18 h.1,rfl,c⟩,.cons ⟨rfl,h.2⟩ q⟩
def xC7 (trs:List (TE×TE)):TE:=λσ H Q=>∀p,H p=none->q81 trs σ (upd H p (.dK [])) λps H2=>H2 p=some (.dK [])/\∃kvs:List (Key×V),ps=kvs.map (λkv=>(kV kv.1,kv.2))/\kvs.length<=15/\Q (.ref p) (upd H2 p (.dK (qB1 [] kvs)))
theorem xw1 {X:Cx}{pos:Pos}{keys:List (Option Expr)}{values:List Expr}{trs:List (TE×TE)}(h:PPs X pos keys values trs) (jH:keys.all (·.isSome)=true) (hl:keys.length=values.length) (h0:keys≠[])
  (h15:keys.length<=15):PE X (.Dict keys values pos) (xC7 trs):=by
 intro j4 s σ H Q I q;have hn:=I.hok.fresh (Zd s.heap.objs.size);have I1:=I.laid (a:=s.heap.objs.size) (o:=.dK []) (h':=s.heap.push { cls:=.type "dict",data:=.dict #[] }) (t':=s.toks) (λ_ _ q=>Zc _ q) (Zd _) (xl3 s.heap I.big);refine wpAny_Dict_walk (knd:=qd5 X.prog X.w) jH hl h0 h15 (thn (h j4 _ σ _ _ I1 (q _ hn)) λws s2 ⟨ps,H2,I2,rel,e,kvs,ep,lk,q2⟩=>?_);subst ep;obtain⟨rs,c,rk⟩:=qB2 (P:=X.prog) (w:=X.w) rel;obtain⟨z,hd,vs0,r0,dd⟩:=xv6 I2.hok e;cases r0;refine⟨rs,c,dd,λh' dd' hs=>⟨.ref s.heap.objs.size,_,?_,rfl,q2⟩⟩;have hz:(qB1 [] kvs).length<=sizeLine:=by
  have h1:=qp2 kvs [];rw[Vv] at h1;rw[Xj];lia
 have he:∃q,h'.get? s.heap.objs.size=some q:=let ⟨q,_,_,hq,_⟩:=dd';⟨q,hq⟩;exact qR0 I2 (by rw[e];exact True.intro) hs he (xr0 hz hd (rk.merge .nil) dd')
section
variable {X:Cx}{j4:List (Addr×Obj)}{σ:St}{H:Hp}{s:Shared}{a:Addr}{y d:V}{u r:Value}{o:Option V}{A:Around}{E:Value->Shared->Prop}
end
section
variable {X:Cx}{o e f:Expr}{apos cpos:Pos}{td ty tx:TE}
end
section
variable {X:Cx}{j4:List (Addr×Obj)}{σ:St}{H:Hp}{s:Shared}{a:Addr}{kvs:List (Key×V)}{A:Around}{E:Value->Shared->Prop}
end
section
variable {X:Cx}{j4:List (Addr×Obj)}{σ:St}{H:Hp}{s:Shared}{a:Addr}{y:V}{u:Value}{A:Around}{E:Value->Shared->Prop}
end
section
variable {X:Cx}
end
section
variable {κ:Type}[DecidableEq κ]
end
end L2
namespace SetT
open PySem
def g:Nat->Nat
 |0=>0
 |n+1=>5*g n+1
def F:Nat->Nat->Nat
 |0,x=>x
 |n+1,x=>5*F n x+1
theorem F_eq (n x:Nat):F n x=x+g n*(4*x+1):=by
 induction n with
 |zero=>simp[F,g]
 |succ n ih=>
  show 5*F n x+1=x+(5*g n+1)*(4*x+1);rw[ih,Xl,Nat.one_mul,Yc];lia
theorem xw2 (m n x:Nat):F (m+n) x=F m (F n x):=by
 induction m with
 |zero=>simp[F]
 |succ m ih=>
  rw[Nat.succ_add];show 5*F (m+n) x+1=5*F m (F n x)+1;rw[ih]
theorem g_F (n:Nat):g n=F n 0:=by
 rw[F_eq];simp
theorem xJ1 (m n:Nat):g (m+n)=g n+g m*(4*g n+1):=by
 rw[g_F,xw2,F_eq m,<- g_F n]
theorem xC8:∀k:Nat,∃c,g (2^k)=2^k*(2*c+1)
 |0=>⟨0,rfl⟩
 |k+1=>by
  obtain⟨c,hc⟩:=xC8 k;have e:g (2^(k+1))=g (2^k)*(4*g (2^k)+2):=by
   rw[Yh,Nat.mul_two,xJ1];generalize g (2^k)=y;rw[Wo,Wo];lia
  rw[e,hc];refine⟨2^k*(2*c+1)*(2*c+1)+c,?_⟩;rw[Yh];generalize 2^k=p;have h1:p*(2*c+1)*(4*(p*(2*c+1))+2)=p*2*((2*c+1)*(2*(p*(2*c+1))+1)):=by
   have:4*(p*(2*c+1))+2=2*(2*(p*(2*c+1))+1):=by lia
   rw[this,Yc,Yc,Ve (2*c+1) 2]
  rw[h1];congr 1;rw[Wo,Nat.mul_one,Ve,Yn (2*c+1) (p*(2*c+1))];lia
theorem qE3 (k a q:Nat):(2^k*a+q)%2^(k+1)=(2^k*(a%2)+q)%2^(k+1):=by
 have ha:a=2*(a/2)+a%2:=by lia
 have:2^k*a+q=(2^k*(a%2)+q)+2^(k+1)*(a/2):=by
  have h:2^k*a+q=2^k*(2*(a/2)+a%2)+q:=by rw[<- ha]
  rw[h,Yh,Wo,Yc];lia
 rw[this,Nat.add_mul_mod_self_left]
theorem xC9:∀(k x y:Nat),∃r,r<2^k/\F r x%2^k=y%2^k
 |0,x,y=>⟨0,by decide,by simp[Nat.mod_one]⟩
 |k+1,x,y=>by
  obtain⟨r,hr,e⟩:=xC9 k x y;have hp:0<2^k:=YZ k;have h2:(2:Nat)^(k+1)=2^k+2^k:=by rw[Yh,Nat.mul_two]
  obtain⟨c,hc⟩:=xC8 k;have e2:F (2^k+r) x=F r x+2^k*(2*c+1)*(4*F r x+1):=by
   rw[xw2,F_eq (2^k),hc]
  have y1:2^k*(y/2^k)+y%2^k=y:=XJ y _;have z1:2^k*(F r x/2^k)+F r x%2^k=F r x:=XJ _ _;by_cases h:F r x/2^k%2=y/2^k%2
  ·refine⟨r,by lia,?_⟩;rw[<- z1,<- y1,qE3,h,<- qE3,e]
  ·refine⟨2^k+r,by lia,?_⟩;rw[e2];generalize F r x=z at *;have o:(2*c+1)*(4*z+1)=2*(c*(4*z+1)+2*z)+1:=by
    rw[Xl,Nat.one_mul,Yc];lia
   have e3:z+2^k*(2*c+1)*(4*z+1)=2^k*(z/2^k+(2*(c*(4*z+1)+2*z)+1))+z%2^k:=by
    rw[Yc,o,Wo (2^k) (z/2^k)];lia
   rw[e3,<- y1,qE3,e];have e4:(z/2^k+(2*(c*(4*z+1)+2*z)+1))%2=y/2^k%2:=by lia
   rw[e4,<- qE3]
def qg2 (mask:Nat):Nat->Nat->Nat->Nat
 |0,i,_=>i
 |r+1,i,p=>qg2 mask r (SetTable.leap mask i p).1 (SetTable.leap mask i p).2
theorem qx5 (k:Nat):∀(r i:Nat),qg2 (2^k-1) r (i%2^k) 0=F r i%2^k
 |0,i=>rfl
 |r+1,i=>by
  have hp:0<2^k:=YZ k;show qg2 (2^k-1) r ((i%2^k*5+1+0/32)%(2^k-1+1)) (0/32)=_;have e1:2^k-1+1=2^k:=by lia
  have e2:(i%2^k*5+1+0/32)%2^k=(5*i+1)%2^k:=by
   simp only[Nat.zero_div,Nat.add_zero];rw[Nat.add_mod,Nat.mul_mod,Nat.mod_mod,<- Nat.mul_mod,<- Nat.add_mod,Yn]
  rw[e1,e2,Nat.zero_div,qx5 k r (5*i+1)];have:F r (5*i+1)=F (r+1) i:=by rw[xw2 r 1 i];rfl
  rw[this]
theorem qB3 (mask:Nat):∀(a b i p:Nat),qg2 mask (a+b) i p=qg2 mask b (qg2 mask a i p) (p/32^a)
 |0,b,i,p=>by simp[qg2]
 |a+1,b,i,p=>by
  rw[Nat.succ_add];show qg2 mask (a+b) _ _=qg2 mask b (qg2 mask a _ _) _;rw[qB3 mask a b];show qg2 mask b _ (p/32/32^a)=_;rw[Wr,Yh,Yn (32^a) 32]
theorem qJ9 (mask:Nat):∀(a i p:Nat),i<mask+1->qg2 mask a i p<mask+1
 |0,i,p,h=>h
 |a+1,i,p,_=>qJ9 mask a _ _ (Y8 _ (WY _))
theorem qx6 (k i p j:Nat) (hi:i<2^k) (hp:p<2^64) (hj:j<2^k):∃r,r<13+2^k/\qg2 (2^k-1) r i p=j:=by
 have hk:0<2^k:=YZ k;have hl:=qJ9 (2^k-1) 13 i p (by lia);obtain⟨r,hr,e⟩:=xC9 k (qg2 (2^k-1) 13 i p) j;refine⟨13+r,by lia,?_⟩;rw[qB3];have hz:p/32^13=0:=Yx (Xk hp (by decide));have hm:qg2 (2^k-1) 13 i p=qg2 (2^k-1) 13 i p%2^k:=(Nat.mod_eq_of_lt (by lia)).symm;rw[hz,hm,qx5,e,Nat.mod_eq_of_lt hj]
theorem qK0 (mask i:Nat):SetTable.runEnd mask i-i<=9:=by unfold SetTable.runEnd;split<;>lia
def adv (t:SetTable):Nat->SetTable.Probe->SetTable.Probe
 |0,p=>p
 |n+1,p=>adv t n (t.advance p)
theorem qE4 (t:SetTable):∀(m:Nat) (p:SetTable.Probe),m<=p.more->adv t m p={ p with j:=p.j+m,more:=p.more-m }
 |0,p,_=>by simp[adv]
 |m+1,p,h=>by
  have e:t.advance p={ p with j:=p.j+1,more:=p.more-1 }:=by
   unfold SetTable.advance;rw[Zt (by lia)]
  show adv t m (t.advance p)=_;rw[e,qE4 t m _ (by show m<=p.more-1;lia)];show SetTable.Probe.mk _ _ _ _ _=SetTable.Probe.mk _ _ _ _ _;congr 1
  ·show p.j+1+m=p.j+(m+1);lia
  ·show p.more-1-m=p.more-(m+1);lia
theorem ql1 (t:SetTable):∀(a b:Nat) (p:SetTable.Probe),adv t (a+b) p=adv t b (adv t a p)
 |0,b,p=>by simp[adv]
 |a+1,b,p=>by rw[Nat.succ_add];exact ql1 t a b _
structure Head (t:SetTable) (i perturb:Nat) (d:Option Nat) (p:SetTable.Probe):Prop where
 e:p={ j:=i,more:=SetTable.runEnd t.mask i-i,i:=i,perturb:=perturb,dummy:=d }
theorem q82 {t:SetTable}{i q:Nat}{d:Option Nat}{p:SetTable.Probe}(h:Head t i q d p):∃n,n<=10/\Head t (SetTable.leap t.mask i q).1 (SetTable.leap t.mask i q).2 d (adv t n p):=by
 have hr:=qK0 t.mask i;refine⟨(SetTable.runEnd t.mask i-i)+1,by lia,⟨?_⟩⟩;rw[ql1,qE4 t _ p (by rw[h.e];exact Zd _)];show t.advance _=_;rw[h.e];unfold SetTable.advance;rw[Zm (by show ¬(SetTable.runEnd t.mask i-i)-(SetTable.runEnd t.mask i-i)>0;lia)]
theorem q83 {t:SetTable}{d:Option Nat}:∀(r:Nat){i q:Nat}{p:SetTable.Probe},Head t i q d p->∃n,n<=10*r/\(adv t n p).j=qg2 t.mask r i q/\(adv t n p).dummy=d
 |0,i,q,p,h=>⟨0,Zd _,by show p.j=i;rw[h.e],by show p.dummy=d;rw[h.e]⟩
 |r+1,i,q,p,h=>by
  obtain⟨n,hn,h1⟩:=q82 h;obtain⟨m,hm,e1,e2⟩:=q83 r h1;exact⟨n+m,by lia,by rw[ql1];exact e1,by rw[ql1];exact e2⟩
theorem qK1 (t:SetTable):∀(n:Nat) (p:SetTable.Probe),(adv t n p).dummy=p.dummy
 |0,p=>rfl
 |n+1,p=>by
  show (adv t n (t.advance p)).dummy=_;rw[qK1 t n];unfold SetTable.advance;split<;>rfl
theorem q84 (h:Int):SetTable.bits h<2^64:=by
 unfold SetTable.bits;have:=XD h (show (0:Int)<2^64 by decide);have h0:=Wh h (show (2^64:Int)≠0 by decide);lia
theorem meet {t:SetTable}{k:Nat}(hm:t.mask=2^k-1) (h:Int){j:Nat}(hj:j<2^k):∃n,n<10*SetTable.turns t.mask/\(adv t n (t.probeStart h)).j=j:=by
 have hk:0<2^k:=YZ k;have hd:Head t (SetTable.bits h%(t.mask+1)) (SetTable.bits h) none (t.probeStart h):=⟨rfl⟩;obtain⟨r,hr,e⟩:=qx6 k (SetTable.bits h%(t.mask+1)) (SetTable.bits h) j (by rw[hm];have:=Y8 (SetTable.bits h) hk;rw[show 2^k-1+1=2^k by lia];exact this) (q84 h) hj;obtain⟨n,hn,e1,_⟩:=q83 r hd;refine⟨n,?_,by rw[e1];rw[<- hm] at e;exact e⟩;unfold SetTable.turns;lia
theorem qE5 (j:Nat):SetTable.has #[] j=false:=by
 unfold SetTable.has;simp
theorem q85 {t:SetTable}(hd:t.dummies=#[]) (j:Nat):(t.slot j=.empty)\/∃i,t.slot j=.live i/\t.place[i]?=some j:=by
 unfold SetTable.slot;simp only;split
 ·rename_i h;exact .inr ⟨_,rfl,by simpa using h⟩
 ·rw[hd,qE5];exact .inl rfl
theorem q86 {t:SetTable}(hd:t.dummies=#[]){j:Nat}(h:j∉t.place.toList):t.slot j=.empty:=by
 rcases q85 hd j with e|⟨i,_,e⟩
 ·exact e
 ·refine absurd ?_ h;have:=Array.mem_of_getElem? e;simpa using this
theorem xr2:∀(n:Nat) (l:List Nat),l.length<n->∃j,j<n/\j∉l
 |0,l,h=>absurd h (Yj _)
 |n+1,l,h=>by
  by_cases hn:n∈l
  ·obtain⟨j,hj,hl⟩:=xr2 n (l.erase n) (by rw[List.length_erase_of_mem hn];have:=List.length_pos_of_mem hn;lia);refine⟨j,by lia,λm=>hl ?_⟩;exact (List.mem_erase_of_ne (by lia)).mpr m
  ·exact⟨n,Z2 n,hn⟩
structure Grown (t:SetTable) (n:Nat):Prop where
 pl:t.place.size=n
 du:t.dummies=#[]
 ma:∃k,t.mask=2^k-1/\1<=k
 le:n<=t.mask
theorem Grown.fill {t:SetTable}{n:Nat}(h:Grown t n):t.fill=n:=by unfold SetTable.fill;rw[h.pl,h.du];rfl
theorem Grown.way {t:SetTable}{n:Nat}(h:Grown t n):t.gaveWay=false:=by
 obtain⟨k,e,hk⟩:=h.ma;unfold SetTable.gaveWay;rw[e];obtain⟨k,rfl⟩:∃m,k=m+1:=⟨k-1,by lia⟩;have:=YZ k;have e2:(2^(k+1)-1)%2=1:=by rw[Yh];lia
 rw[e2]
 rfl
theorem Grown.meets {t:SetTable}{n:Nat}(g:Grown t n) (h:Int):∃m,m<10*SetTable.turns t.mask/\t.slot (adv t m (t.probeStart h)).j=.empty:=by
 obtain⟨k,e,_⟩:=g.ma;have hk:=YZ k;obtain⟨j,hj,hl⟩:=xr2 (2^k) t.place.toList (by simp only[ZZ,g.pl];have:=g.le;lia);obtain⟨m,hm,ej⟩:=meet e h hj;exact⟨m,hm,by rw[ej];exact q86 g.du hl⟩
theorem qj9 {α:Type}(xs:Array α) (p:Nat) (x:α):(SetTable.insertAt xs p x).size=xs.size+1:=by
 unfold SetTable.insertAt;simp;lia
theorem Grown.put {t:SetTable}{n:Nat}(g:Grown t n) (hf:t.tooFull=false) (j:Nat):Grown (t.put j).1 (n+1):=by
 have e:(t.put j).1={ t with place:=SetTable.insertAt t.place (SetTable.below t.place j) j }:=by
  unfold SetTable.put;simp only;rw[g.du,qE5];simp[g.du]
 rw[e];refine⟨by rw[qj9,g.pl],g.du,g.ma,?_⟩;show n+1<=t.mask;unfold SetTable.tooFull at hf;rw[g.fill] at hf;have:=YL hf;lia
theorem qK2 {mask:Nat}{owner:Array (Option Nat)}:∀(f r i p:Nat),r<f->(owner.getD (qg2 mask r i p) (some 0)).isNone=true ->
  ∃j,SetTable.layClean.free mask owner f i p=some j/\(owner.getD j (some 0)).isNone=true
 |0,r,i,p,h,_=>absurd h (Yj _)
 |f+1,r,i,p,h,hn=>by
  unfold SetTable.layClean.free;cases e:(List.range (SetTable.runEnd mask i+1-i)).find? λk=>(owner.getD (i+k) (some 0)).isNone with
  |some k=>
   have:=List.find?_some e;exact⟨i+k,rfl,this⟩
  |none=>
   cases r with
   |zero=>
    have h0:∀x∈List.range (SetTable.runEnd mask i+1-i),¬(owner.getD (i+x) (some 0)).isNone=true:=by simpa using e
    have hm:0∈List.range (SetTable.runEnd mask i+1-i):=ZW.mpr (by unfold SetTable.runEnd;split<;>lia);exact absurd hn (h0 0 hm)
   |succ r=>exact qK2 f r _ _ (by lia) hn
def cnt (owner:Array (Option Nat)):Nat:=(owner.toList.filter Option.isSome).length
theorem qt6:∀(l:List (Option Nat)) (j k:Nat),l[j]?=some none->((l.set j (some k)).filter Option.isSome).length=(l.filter Option.isSome).length+1
 |[],j,k,h=>by simp at h
 |a::l,0,k,h=>by
  have:a=none:=by simpa using h
  subst this;simp
 |a::l,j+1,k,h=>by
  have ih:=qt6 l j k (by simpa using h);rw[List.set_cons_succ,Y7,Y7];split
  ·rw[Zy,Zy,ih]
  ·exact ih
theorem q87:∀(l:List (Option Nat)),(l.filter Option.isSome).length<l.length->∃j:Nat,l[j]?=some none
 |[],h=>by simp at h
 |none::l,_=>⟨0,rfl⟩
 |some a::l,h=>by
  obtain⟨j,hj⟩:=q87 l (by simpa using h);exact⟨j+1,by simpa using hj⟩
structure Laid (mask:Nat) (owner:Array (Option Nat)) (K:Nat):Prop where
 sz:owner.size=mask+1
 ct:cnt owner=K
 lt:∀v,some v∈owner.toList->v<K
theorem Laid.step {mask k K:Nat}{owner:Array (Option Nat)}(hm:mask=2^k-1) (g:Laid mask owner K) (hK:K<=mask) (h:Int) :
  ∃j,SetTable.layClean.free mask owner (SetTable.turns mask) (SetTable.bits h%(mask+1)) (SetTable.bits h)=some j/\Laid mask (owner.setIfInBounds j (some K)) (K+1):=by
 have hk:=YZ k;obtain⟨j0,w6⟩:=q87 owner.toList (by
  have:=g.ct;unfold cnt at this;rw[this,ZZ,g.sz];lia)
 have hl:j0<mask+1:=by
  have:=(gS_ w6).1;rw[ZZ,g.sz] at this;exact this
 have e1:mask+1=2^k:=by lia
 obtain⟨r,hr,er⟩:=qx6 k (SetTable.bits h%(mask+1)) (SetTable.bits h) j0 (by rw[<- e1];exact Y8 _ (WY _)) (q84 h) (by lia);rw[<- hm] at er;have hgd:∀j,(owner.getD j (some 0)).isNone=true<->owner.toList[j]?=some none:=λj=>by
  rw[Xb];by_cases hj:j<owner.size
  ·simp[Array.getD,hj]
  ·simp[Array.getD,hj]
 obtain⟨j,ej,hj⟩:=qK2 (mask:=mask) (owner:=owner) (SetTable.turns mask) r _ _ (by unfold SetTable.turns;lia) (by rw[er];exact (hgd j0).mpr w6);have hj':=(hgd j).mp hj;refine⟨j,ej,by rw[Wb];exact g.sz,?_,λv hv=>?_⟩
 ·unfold cnt;rw[W2,qt6 _ _ _ hj'];have:=g.ct;unfold cnt at this;rw[this]
 ·rw[W2] at hv;rcases List.mem_or_eq_of_mem_set hv with hv|hv
  ·have:=g.lt v hv;lia
  ·have:v=K:=by simpa using hv
   lia
theorem qV0 {mask k:Nat}(hm:mask=2^k-1):∀(hs:List Int) (owner:Array (Option Nat)) (K:Nat),Laid mask owner K->K+hs.length<=mask ->
  ∃owner',(hs.foldl (λ(acc:Option (Array (Option Nat)×Nat)) (h:Int)=>do
   let (owner,k) <- acc
   let j <- SetTable.layClean.free mask owner (SetTable.turns mask) (SetTable.bits h%(mask+1)) (SetTable.bits h)
   pure (owner.setIfInBounds j (some k),k+1)) (some (owner,K)))=some (owner',K+hs.length)/\Laid mask owner' (K+hs.length)
 |[],owner,K,g,_=>⟨owner,rfl,g⟩
 |h::hs,owner,K,g,hl=>by
  rw[Zy] at hl;obtain⟨j,ej,g'⟩:=g.step hm (by lia) h;obtain⟨o',e',g''⟩:=qV0 hm hs _ (K+1) g' (by lia);refine⟨o',?_,by rw[Zy,show K+(hs.length+1)=K+1+hs.length by lia];exact g''⟩;rw[Z3,Zy,show K+(hs.length+1)=K+1+hs.length by lia,<- e'];congr 1;show (SetTable.layClean.free mask owner (SetTable.turns mask) (SetTable.bits h%(mask+1)) (SetTable.bits h)).bind _=_;rw[ej]
  rfl
theorem xw3 {mask k:Nat}(hm:mask=2^k-1) (hs:Array Int) (hl:hs.size<=mask):∃owner,SetTable.layClean mask hs=some owner/\Laid mask owner hs.size:=by
 have g0:Laid mask (Array.replicate (mask+1) none) 0:=⟨by simp,by unfold cnt;simp,λv hv=>by simp at hv⟩;obtain⟨o,e,g⟩:=qV0 hm hs.toList _ 0 g0 (by simpa using hl);refine⟨o,?_,by simpa using g⟩;unfold SetTable.layClean;rw[<- W3,e]
 rfl
theorem qE6 {α β:Type}{f g:α->Option β}:∀(l:List α),(∀x∈l,f x=g x)->l.filterMap f=l.filterMap g
 |[],_=>rfl
 |a::l,h=>by
  rw[ZV,ZV,h a Zh,qE6 l λx hx=>h x (Ze _ hx)]
theorem qV1:∀(l:List (Option Nat)) (a:Nat),((List.range' a l.length).filterMap λj=>((l[j-a]?).getD none).map (λv=>(j,v))).length=(l.filter Option.isSome).length
 |[],a=>rfl
 |x::l,a=>by
  rw[Zy,List.range'_succ,ZV];have ih:=qV1 l (a+1);have e:(List.range' (a+1) l.length).filterMap (λj=>(((x::l)[j-a]?).getD none).map (λv=>(j,v)))=(List.range' (a+1) l.length).filterMap λj=>((l[j-(a+1)]?).getD none).map (λv=>(j,v)):=by
   refine qE6 _ λj hj=>?_;have:=(List.mem_range'_1.mp hj).1;obtain⟨d,rfl⟩:∃d,j=a+1+d:=⟨j-(a+1),by lia⟩;rw[show a+1+d-a=d+1 by lia,show a+1+d-(a+1)=d by lia,List.getElem?_cons_succ]
  rw[e,Vr];cases x with
  |none=>simpa using ih
  |some v=>simpa using ih
theorem q88 {mask k finger moves:Nat}{led plain:Bool}(hm:mask=2^k-1) (h1:1<=k) (hs:Array Int) (hl:hs.size<=mask) :
  ∃t order,SetTable.laid mask finger moves led plain hs=some (t,order)/\Grown t hs.size/\t.mask=mask/\t.led=led/\t.moves=moves/\order.size=hs.size/\∀v∈order,v<hs.size:=by
 obtain⟨owner,e,g⟩:=xw3 hm hs hl;have el:∀a:Nat,(List.range (mask+1)).filterMap (λj=>(owner.getD j none).map (λv=>(j,v)))=(List.range' 0 owner.toList.length).filterMap λj=>((owner.toList[j-0]?).getD none).map (λv=>(j,v)):=λ_=>by
  rw[ZZ,g.sz,<- List.range_eq_range'];refine qE6 _ λj hj=>?_;have hj':=ZW.mp hj;rw[Nat.sub_zero,Xb];simp[Array.getD,g.sz,hj']
 have len:((List.range (mask+1)).filterMap (λj=>(owner.getD j none).map (λv=>(j,v)))).length=hs.size:=by
  rw[el 0,qV1,<- g.ct]
  rfl
 refine⟨_,_,by unfold SetTable.laid;rw[e];rfl,⟨?_,rfl,⟨k,hm,h1⟩,hl⟩,rfl,rfl,rfl,?_,λv hv=>?_⟩
 ·show ((((List.range (mask+1)).filterMap (λj=>(owner.getD j none).map (λv=>(j,v)))).map (·.1)).toArray).size=_;rw[ZI,Zi,len]
 ·show ((((List.range (mask+1)).filterMap (λj=>(owner.getD j none).map (λv=>(j,v)))).map (·.2)).toArray).size=_;rw[ZI,Zi,len]
 ·have hv':v∈((List.range (mask+1)).filterMap (λj=>(owner.getD j none).map (λv=>(j,v)))).map (·.2):=by simpa using hv
  obtain⟨q,hq,rfl⟩:=Yo.mp hv';obtain⟨j,hj,ej⟩:=Wm.mp hq;obtain⟨v',ev,rfl⟩:=Zr.mp ej;refine g.lt v' ?_;have hj':=ZW.mp hj;have:owner[j]'(by rw[g.sz];exact hj')=some v':=by simpa [Array.getD,g.sz,hj'] using ev
  rw[<- this];simp
theorem qK3:∀(f k n:Nat),3<=k->n<2^(k+f)->∃k',SetTable.sizeAbove.go n f (2^k)=2^k'/\3<=k'/\n<2^k'/\(2^k<=2*n+8->2^k'<=2*n+8)
 |0,k,n,hk,h=>⟨k,rfl,hk,h,λz=>z⟩
 |f+1,k,n,hk,h=>by
  unfold SetTable.sizeAbove.go;by_cases hc:2^k<=n
  ·rw[Zt hc,<- Yh];obtain⟨k',e,h1,h2,h3⟩:=qK3 f (k+1) n (by lia) (by rw[show k+1+f=k+(f+1) by lia];exact h);exact⟨k',e,h1,h2,λ_=>h3 (by rw[Yh];lia)⟩
  ·rw[Zm hc];exact⟨k,rfl,hk,by lia,λz=>z⟩
theorem qt7 {n:Nat}(h:n<2^60):∃k,SetTable.sizeAbove n=2^k/\3<=k/\n<2^k/\2^k<=2*n+8:=by
 obtain⟨k,e,h1,h2,h3⟩:=qK3 64 3 n (by decide) (Xk h (by decide));exact⟨k,e,h1,h2,h3 (by show 8<=2*n+8;lia)⟩
theorem qR2 {t:SetTable}{hs:Array Int}{wanted:Nat}(hw:wanted<2^60) (hl:hs.size<wanted) :
  ∃t' order,t.relaid hs wanted=some (t',order)/\Grown t' hs.size/\wanted<=t'.mask/\t'.mask<=2*wanted+8/\t'.led=t.led/\order.size=hs.size/\∀v∈order,v<hs.size:=by
 obtain⟨k,e,h1,h2,h3⟩:=qt7 hw;have hk:=YZ k;obtain⟨t',order,el,g,em,eled,_,eo,ev⟩:=q88 (mask:=2^k-1) (k:=k) (finger:=t.finger) (moves:=t.movedTo (2^k-1)) (led:=t.led) (plain:=t.plain) rfl (by lia) hs (by lia);refine⟨t',order,?_,g,by rw[em];lia,by rw[em];lia,eled,eo,ev⟩;unfold SetTable.relaid;rw[e];exact el
theorem ql2 {α:Type}{es:Array α}{order:Array Nat}(h:∀v∈order,v<es.size):(order.filterMap (es[·]?)).size=order.size:=by
 rw[<- ZZ,Array.toList_filterMap,<- ZZ (xs:=order)];have:∀l:List Nat,(∀v∈l,v<es.size)->(l.filterMap (es[·]?)).length=l.length:=λl=>by
  induction l with
  |nil=>intro _;rfl
  |cons a l ih=>
   intro hh;rw[ZV];have ha:=hh a Zh;rw[show es[a]?=some es[a] by simp[ha]];simp[ih λv hv=>hh v (Ze _ hv)]
 exact this _ λv hv=>h v (by simpa using hv)
end SetT
namespace SetT
open PySem PySem.Spec PyProof.Rows
section
variable {prog:Program}{w:World}{K:Type}[DecidableEq K]{knd:KeyKind prog w K}{A:Around}{E:Value->Shared->Prop}{s:Shared}
theorem qx7 (n:Nat){v:Value}(h:carriedByValue v=true):ofAClassStatement n v=pure false:=by
 cases v with
 |ref a=>simp[carriedByValue] at h
 |_=>first|rfl|(unfold ofAClassStatement;rfl)|(cases n<;>rfl)
theorem seqItems?_of {M:Model}{a:Addr}{o:Obj}{items:Array Value}{n:Nat}{Q:Option (Array Value)->Shared->Prop}(ho:s.heap.get? a=some o) (hd:o.data=.seq items n) (h:Q (some items) s) :
  wpAny M A (seqItems? (.ref a)) Q E s:=W4 ho hd h
theorem qp3 {ks:List K}{a:Addr}{Q:Bool->Shared->Prop}(hk:IsTupleKey knd s.heap ks a) (h:Q false s):wpAny (model prog w) A (ofAClassStatement 8 (.ref a)) Q E s:=by
 have hT:=hk.typeIs;obtain⟨o,items,n,ho,_,hd,hi⟩:=hk;unfold ofAClassStatement;refine Za (wpAny_typeOf hT ?_);show wpAny _ _ ((if ("tuple" == "tuple")=true then pure true else isSubtype (.type "tuple") (.type "tuple")) >>= _) _ _ s;rw[Zt (by decide)];refine Za (Zf ?_);simp only[WF,ZL,Yq];refine Za (seqItems?_of ho hd ?_);dsimp only;refine Za ?_;show wpAny _ _ (forIn items _ _) _ _ s;rw[<- Array.forIn_toList];refine wpAny_forIn_list _ (λrest r s'=>r.1=none/\s'=s/\∀v∈rest,carriedByValue v=true) _ ?_ ?_ _ _ ⟨rfl,rfl,hi.byValue⟩
 ·rintro v rest r s' ⟨hr,rfl,jH⟩;rw[qx7 _ (jH v Zh)];refine Za (Zf ?_);simp only[ZL,Yq];exact Zf ⟨rfl,rfl,λu hu'=>jH u (Ze _ hu')⟩
 ·rintro⟨r1,r2⟩ s' ⟨hr,rfl,_⟩;simp only at hr;subst hr;exact Zf h
theorem xD0 {ks:List K}{a:Addr}{Q:Bool->Shared->Prop}(hk:IsTupleKey knd s.heap ks a) (h:Q false s){stored:List Value}(kP:∀y∈stored,∃b ks',y=.ref b/\IsTupleKey knd s.heap ks' b) :
  wpAny (model prog w) A (searchCouldBeSeen (.ref a) stored) Q E s:=by
 unfold searchCouldBeSeen;refine Za ?_;refine wpAny_forIn_list _ (λrest r s'=>r.1=none/\s'=s/\∀y∈rest,∃b ks',y=.ref b/\IsTupleKey knd s.heap ks' b) _ ?_ ?_ _ _ ⟨rfl,rfl,kP⟩
 ·rintro y rest r s' ⟨hr,rfl,jH⟩;obtain⟨b,ks',rfl,hb⟩:=jH y Zh;have rest':∀y∈rest,∃b ks',y=.ref b/\IsTupleKey knd s'.heap ks' b:=λu hu'=>jH u (Ze _ hu');dsimp only;split
  ·exact Zf ⟨rfl,rfl,rest'⟩
  ·refine Za (wpAny_eqIsQuiet_tuple hk ?_);simp only[WF,ZL,Yq];refine Za (wpAny_eqIsQuiet_tuple hb ?_);simp only[WF,ZL,Yq];refine Za (qp3 hk ?_);simp only[ZL,Yq];refine Za (qp3 hb ?_);simp only[ZL,Yq];exact Zf ⟨rfl,rfl,rest'⟩
 ·rintro⟨r1,r2⟩ s' ⟨hr,rfl,_⟩;simp only at hr;subst hr;exact Zf h
def Hb (v:Value):Prop:=∃b,∀n,hashByValue n v=pure b
theorem Hb.int (k:Int) (t:Tok):Hb (.int k t):=⟨true,λn=>by cases n<;>rfl⟩
theorem Hb.str (x:Str) (t:Tok):Hb (.str x t):=⟨false,λn=>by cases n<;>rfl⟩
theorem qK4 {a:Addr}{o:Obj}{items:Array Value}{n:Nat}{Q:Bool->Shared->Prop}(ho:s.heap.get? a=some o) (hc:o.cls=.type "tuple") (hd:o.data=.seq items n) (hi:∀v∈items.toList,Hb v) (h:∀b,Q b s) :
  wpAny (model prog w) A (hashByValue 8 (.ref a)) Q E s:=by
 have hT:s.TypeIs (.ref a) "tuple":=⟨o,ho,hc⟩;unfold hashByValue;refine Za (wpAny_specialOf hT F.slot_tuple_hash.lookup ?_);dsimp only;refine Za (seqItems?_of ho hd ?_);dsimp only [Option.getD];refine Za ?_;show wpAny _ _ (forIn items _ _) _ _ s;rw[<- Array.forIn_toList];refine wpAny_forIn_list _ (λrest r s'=>r.1=none/\s'=s/\∀v∈rest,Hb v) _ ?_ ?_ _ _ ⟨rfl,rfl,hi⟩
 ·rintro v rest r s' ⟨hr,rfl,jH⟩;obtain⟨b,hb⟩:=jH v Zh;rw[hb];refine Za (Zf ?_);cases b with
  |true=>
   simp only[WF,ZL,Yq];exact Zf ⟨rfl,rfl,λu hu'=>jH u (Ze _ hu')⟩
  |false=>
   simp only[VA,Xu];exact Zf (Zf (h false))
 ·rintro⟨r1,r2⟩ s' ⟨hr,rfl,_⟩;simp only at hr;subst hr;exact Zf (h true)
theorem Grown.fits {t:SetTable}{n:Nat}(g:Grown t n):t.fits n=true:=by
 unfold SetTable.fits;rw[g.pl,g.fill];simp[g.le]
theorem qx8 {h:Heap}{a b:Addr}{o:Obj}{ks:List K}{es:Array (Int×Value)}{ep:Nat}{t:SetTable}(x:IsTupleKey knd h ks b) (ho:h.get? a=some o) (hd:o.data=.set es ep t):b≠a:=by
 rintro rfl;obtain⟨o',items,n,ho',_,hd',_⟩:=x;obtain rfl:o'=o:=Zw (ho'.symm.trans ho);rw[hd] at hd';exact nomatch hd'
theorem qp4 {h h':Heap}{a b:Addr}{ks:List K}(x:IsTupleKey knd h ks b) (jE:b≠a) (hs:Heap.SameBut a h h'):IsTupleKey knd h' ks b:=by
 obtain⟨o',items,n,ho',hc,hd',hi⟩:=x;exact⟨o',items,n,(hs.2 b jE).trans ho',hc,hd',hi⟩
theorem q89 {h:Heap}{a:Addr}{o:Obj}{es es':Array (Int×Value)}{ep:Nat}{t t':SetTable}(ho:h.get? a=some o) (hd:o.data=.set es ep t) :
  (h.update a (Obj.putSet es' t')).get? a=some { o with data:=.set es' (ep+1) t' }:=by
 have:=YG (Obj.putSet es' t') ho (by rw[putSet_of es' t' hd];rfl);rw[putSet_of es' t' hd] at this;exact this
end
section
variable {prog:Program}{w:World}{K:Type}[DecidableEq K]{knd:KeyKind prog w K}
def TupK (knd:KeyKind prog w K) (h:Heap) (ks:List K) (b:Addr):Prop:=∃o items n,h.get? b=some o/\o.cls=.type "tuple" /\ o.data=.seq items n/\ItemsAre knd ks items.toList/\∀v∈items.toList,Hb v
theorem TupK.key {h:Heap}{ks:List K}{b:Addr}(x:TupK knd h ks b):IsTupleKey knd h ks b:=let ⟨o,items,n,h1,h2,h3,h4,_⟩:=x;⟨o,items,n,h1,h2,h3,h4⟩
theorem TupK.hb {h:Heap}{ks:List K}{b:Addr}(x:TupK knd h ks b):∀o items m,h.get? b=some o->o.data=.seq items m->∀v∈items.toList,Hb v:=λo items m e1 e2=>by
 obtain⟨o',items',n',h1,_,h3,_,h5⟩:=x;rw[e1] at h1;cases h1;rw[e2] at h3;cases h3;exact h5
theorem TupK.at {h h':Heap}{ks:List K}{b:Addr}(x:TupK knd h ks b) (k:∀o,h.get? b=some o->h'.get? b=some o):TupK knd h' ks b:=let ⟨o,items,n,h1,r⟩:=x;⟨o,items,n,k o h1,r⟩
variable {A:Around}{R:Result->Shared->Prop}{I:Addr}{fp wr:List Addr}{G:Array GenState->Array GenState->Prop}{n:Nat}{P:Nat->Value->Prop}{St:Nat->Shared->Prop}
def xw4 (knd:KeyKind prog w K) (S:Addr) (wr:List Addr) (P:Nat->Value->Prop) (val:Nat->List K) (h:Heap):Prop:=∀i v,P i v->∃b,v=.ref b/\b≠S/\b∉wr/\TupK knd h (val i) b
def xJ2 (knd:KeyKind prog w K) (wr:List Addr) (h:Heap):Prop:=∀b∈wr,¬∃ks,IsTupleKey knd h ks b
end
end SetT
namespace SetT
open PySem PySem.Spec
section
variable {prog:Program}{w:World}{K:Type}[DecidableEq K]{knd:KeyKind prog w K}{A:Around}{E:Value->Shared->Prop}{s:Shared}
abbrev newS (led:Bool):Obj:={ cls:=.type "set",dict:=none,data:=.set #[] 0 (.fresh 0 0 led) }
end
end SetT
namespace L2
open PySem PySem.Spec PyProof.Rows PySem.W
def xJ3 (h base:Heap) (e:Addr) (cls fl:Value):Prop:=∃oe vs T oT ts,h.get? e=some oe/\oe.cls=cls/\oe.data=.fields vs/\vs[1]?=some (.ref T)/\vs[2]?=some .none/\base.get? T=none/\T≠e/\h.get? T=some oT/\oT.data=.fields ts/\ts[3]?=some fl
structure Over (base:Heap) (l:List Env) (e:Addr) (cls fl:Value) (h:Heap):Prop where
 stays:base.StaysIn h
 new:base.get? e=none
 frames:h.FunFrames base l
 noted:xJ3 h base e cls fl
section
variable {M:Model}{A:Around}{E:Value->Shared->Prop}{s:Shared}{base:Heap}{env:Env}{outer:List Env}{L e:Addr}{oe:Obj}{vs:Array Value}{head:Value}{hadNext:Bool}
theorem qK5 {Q:Unit->Shared->Prop}(jI:A.frames=some (env::outer)) (hl:s.heap.FunFrames base (env::outer)) (hf:env.frame=some L) (he:s.heap.get? e=some oe) (kb:base.StaysIn s.heap) (ne:base.get? e=none)
  (hd:oe.data=.fields vs) (h2:vs[2]?=some .none) (hQ:∀h',Over base (env::outer) e oe.cls (rawInt L) h'->s.heap.UpToSlots h'->Q () { s with heap:=h' }) :
  wpAny M A (do let a <- frameOf env;let pl <- entryPlaceOf L hadNext;let b <- EntryCells.newEntry head a .none (rawInt L) .none pl;setField (.ref e) 1 b) Q E s:=by
 have v1:1<vs.size:=Xk (by decide) (ZF.mp h2).1;have nf:e∉(env::outer).filterMap (·.frame):=λz=>by
  obtain⟨_,o,q1,q2⟩:=hl.mem z;rw[he] at q1;cases q1;exact q2 vs hd
 refine Za (wpAny_frameOf_fun jI hl hf λg1 c1=>?_);refine Za (wpAny_entryPlaceOf λpl jF=>?_);unfold EntryCells.newEntry newFields;refine Za (ZU ?_ (jF.sizeOk5 _ _ _ _ _));dsimp only;have e1:g1.get? e=some oe:=(c1.2.1 e nf).trans he;have k1:base.StaysIn g1:=λb o q=>(c1.2.1 b (λz=>by rw[(hl.mem z).1] at q;cases q)).trans (kb b o q);have hts:(([head,.ref L,.none,rawInt L,.none]++(if pl.isEmpty then List.replicate 6 Value.none else pl)).toArray:Array Value)[3]?=some (rawInt L):=by
  simp
 generalize ([head,.ref L,.none,rawInt L,.none]++(if pl.isEmpty then List.replicate 6 Value.none else pl)).toArray=ts at hts;have e2:(g1.push { cls:=.type "traceback",dict:=none,data:=.fields ts }).get? e=some oe:=Zc _ e1;have nT:g1.objs.size≠e:=XZ (Zl e1);refine YW e2 hd v1 (hQ _ ⟨?_,ne,?_,?_⟩ ?_)
 ·exact λb o q=>(ZK _ _ (λz=>by rw[z,q] at ne;cases ne)).trans (Zc _ (k1 b o q))
 ·refine hl.of_keeps λb o q d=>?_;obtain⟨sl,q1⟩:=c1.2.2 b o q;exact⟨_,(ZK _ _ (λz=>by rw[<- z,he] at q;cases q;exact d vs hd)).trans (Zc _ q1),rfl⟩
 ·refine⟨_,_,g1.objs.size,_,ts,YG _ e2 (Xc (Yr hd _)),Ws _ _,Yr hd _,by simp[v1],?_,k1.fresh,nT,(ZK _ _ (Z0 nT)).trans (Zk g1 rfl),rfl,hts⟩;rw[Array.getElem?_setIfInBounds_ne (by decide)];exact h2
 ·intro b o q d;obtain⟨sl,q1⟩:=c1.2.2 b o q;exact⟨sl,(ZK _ _ (λz=>by rw[<- z,he] at q;cases q;exact d vs hd)).trans (Zc _ q1)⟩
theorem qm2 {Q:Unit->Shared->Prop}{l:List Env}{cls fl:Value}(O:Over base l e cls fl s.heap) (hQ:∀h',Over base l e cls .none h'->s.heap.UpToSlots h'->Q () { s with heap:=h' }):wpAny M A (setFlight (.ref e) none) Q E s:=by
 obtain⟨kb,ne,hl,oe,vs,T,oT,ts,he,hc,hd,h1,h2,bT,nT,hT,dT,h3⟩:=O;have t3:=(ZF.mp h3).1;unfold setFlight;refine Za (Z4 he hd h1 ?_);rw[Zt (by simp)];refine YW hT dT t3 (hQ _ ⟨?_,ne,?_,?_⟩ ?_)
 ·exact λb o q=>(ZK _ _ (λz=>by rw[z,q] at bT;cases bT)).trans (kb b o q)
 ·exact hl.of_keeps λb o q d=>⟨o,(ZK _ _ (λz=>by rw[<- z,hT] at q;cases q;exact d ts dT)).trans q,rfl⟩
 ·exact⟨oe,vs,T,_,_,(ZK _ _ nT).trans he,hc,hd,h1,h2,bT,nT,YG _ hT (Xc (Yr dT _)),Yr dT _,by simp[t3]⟩
 ·exact λb o q d=>⟨o.slots,(ZK _ _ (λz=>by rw[<- z,hT] at q;cases q;exact d ts dT)).trans q⟩
theorem q19 {Q:Unit->Shared->Prop}(jI:A.frames=some (env::outer)) (hl:s.heap.FunFrames base (env::outer)) (hf:env.frame=some L) (he:s.heap.get? e=some oe) (kb:base.StaysIn s.heap) (ne:base.get? e=none)
  (hd:oe.data=.fields vs) (h1:vs[1]?=some .none) (h2:vs[2]?=some .none) (hQ:∀h',Over base (env::outer) e oe.cls (rawInt L) h'->s.heap.UpToSlots h'->Q () { s with heap:=h' }):wpAny M A (noteFrame (.ref e) env) Q E s:=by
 unfold noteFrame;simp only[hf];refine Za (Z4 he hd h1 ?_);rw[Zm (by decide)];exact qK5 jI hl hf he kb ne hd h2 hQ
theorem qK6 {Q:Unit->Shared->Prop}{cls:Value}(jI:A.frames=some (env::outer)) (hf:env.frame=some L) (O:Over base (env::outer) e cls .none s.heap) (hQ:∀h',Over base (env::outer) e cls (rawInt L) h'->s.heap.UpToSlots h'->Q () { s with heap:=h' }) :
  wpAny M A (noteFrame (.ref e) env) Q E s:=by
 obtain⟨kb,ne,hl,oe,vs,T,oT,ts,he,hc,hd,h1,h2,bT,nT,hT,dT,h3⟩:=O;subst hc;have t3:=(ZF.mp h3).1;unfold noteFrame;simp only[hf];refine Za (Z4 he hd h1 ?_);rw[Zt (by simp)];refine Za (Z4 hT dT h3 ?_);rw[Zm (by simp[rawInt])];refine Za (YW hT dT t3 ?_);have ot:∀b o,s.heap.get? b=some o->(∀ws,o.data≠.fields ws)->T≠b:=λb o q d z=>by rw[<- z,hT] at q;cases q;exact d ts dT
 refine qK5 (s:={ s with heap:=_ }) jI ?_ hf ((ZK _ _ nT).trans he) ?_ ne hd h2 λh' O' U'=>hQ h' O' λb o q d=>?_
 ·exact hl.of_keeps λb o q d=>⟨o,(ZK _ _ (ot b o q d)).trans q,rfl⟩
 ·exact λb o q=>(ZK _ _ (λz=>by rw[z,q] at bT;cases bT)).trans (kb b o q)
 ·exact U' b o ((ZK _ _ (ot b o q d)).trans q) d
theorem qR3 {Q:Unit->Shared->Prop}(jI:A.frames=some (env::outer)) (hl:s.heap.FunFrames base (env::outer)) (hf:env.frame=some L) (he:s.heap.get? e=some oe) (kb:base.StaysIn s.heap) (ne:base.get? e=none)
  (hd:oe.data=.fields vs) (h1:vs[1]?=some .none) (h2:vs[2]?=some .none) (hQ:∀h',Over base outer e oe.cls .none h'->s.heap.UpToSlots h'->Q () { s with heap:=h' }):wpAny M A (leaving env (.ref e)) Q E s:=by
 unfold leaving;refine Za (q19 jI hl hf he kb ne hd h1 h2 λg O U=>?_);refine qm2 O λg' O' U'=>hQ g' ⟨O'.stays,O'.new,O'.frames.2.2,O'.noted⟩ (U.trans U')
theorem q20 {Q:Unit->Shared->Prop}{cls:Value}(jI:A.frames=some (env::outer)) (hf:env.frame=some L) (O:Over base (env::outer) e cls .none s.heap) (hQ:∀h',Over base outer e cls .none h'->s.heap.UpToSlots h'->Q () { s with heap:=h' }) :
  wpAny M A (leaving env (.ref e)) Q E s:=by
 unfold leaving;refine Za (qK6 jI hf O λg O1 U=>?_);refine qm2 O1 λg' O' U'=>hQ g' ⟨O'.stays,O'.new,O'.frames.2.2,O'.noted⟩ (U.trans U')
end
end L2
namespace L2
open PySem PySem.Spec PyProof.Rows
theorem ObjOk.there {P:Program}{w:World}{H:Hp}{h:Heap}{a:Addr}{o:HO}(x:ObjOk P w H h a o):∃ob,h.get? a=some ob:=by
 cases o with
 |lst xs=>obtain⟨_,_,_,_,e⟩:=x;exact⟨_,e⟩
 |tup xs=>obtain⟨_,_,_,o,e,_⟩:=x;exact⟨_,e⟩
 |dK kvs=>obtain⟨_,_,_,_,o,_,_,e,_⟩:=x;exact⟨_,e⟩
 |dT kvs=>obtain⟨_,_,_,_,o,_,_,e,_⟩:=x;exact⟨_,e⟩
 |set S n=>obtain⟨o,_,_,_,e,_⟩:=x;exact⟨_,e⟩
 |ins C dx fs=>obtain⟨_,_,_,e,_⟩:=x;exact⟨_,e⟩
 |own y=>exact x
 |xd fs=>obtain⟨_,⟨_,_,_,e,_⟩,_⟩:=x;exact⟨_,e⟩
 |rng lo hi=>obtain⟨_,_,_,e⟩:=x;exact⟨_,e⟩
 |frz ob u=>obtain⟨e,_⟩:=x;exact⟨_,e⟩
 |tbl ps=>exact⟨_,(show h.get? a=some _ from x)⟩
 |met f y=>exact⟨_,(show h.get? a=some _ from x)⟩
 |ext φ=>exact x.2.1
def Fly (P:Program) (w:World) (outer:List Env) (H H':Hp) (h h':Heap) (x:Addr) (cls:Value):Prop:=
 ∃(B:Heap),Un (frs outer) [] H H' h h'/\HOk P w H' h'/\Over B outer x cls .none h'/\(∀b o,h.get? b=some o->b∉frs outer->∃ob,B.get? b=some ob)/\(∀b o,H' b=some o->∃ob,B.get? b=some ob)/\H' x=none
def CX1 (P:Program) (w:World):CXT:=λouter H s E e s'=>∃(x:Addr) (cls:Value) (H':Hp),e=.ref x/\s'.os=s.os/\AllBare s'.gens/\Fly P w outer H H' s.heap s'.heap x cls/\E cls none H'
def xr3 (X:Cx) (E:XK):Prop:=∀(j4:List (Addr×Obj)) (σ:St) (H:Hp) (s:Shared) (h':Heap) (e:Addr) (cls:Value) (args:List Value),Inv X j4 σ H s->Heap.MadeExcOf s.heap h' e cls args->E cls none H->X.xe (.ref e) { s with heap:=h' }
section
variable {P:Program}{w:World}{H H1 H':Hp}{h h1 h':Heap}{outer:List Env}{env:Env}{x L:Addr}{cls:Value}
theorem Fly.left {B:Heap}(U0:Un (frs outer) [] H H1 h h1) (hL:∀b o,h.get? b=some o->b≠L) (hf:env.frame=some L) (U1:Un (frs (env::outer)) [] H1 H' h1 h') (K:HOk P w H' h')
  (c1:∀b o,h1.get? b=some o->b∉frs (env::outer)->∃ob,B.get? b=some ob) (c2:∀b o,H' b=some o->∃ob,B.get? b=some ob) (hx:H' x=none) (st:B.StaysIn h') (ff:h.FunFrames B' outer)
  {h2:Heap}(F2:Over B outer x cls .none h2) (sm:h'.UpToSlots h2):Fly P w outer H H' h h2 x cls:=by
 have fr:∀b,b∉frs outer->b≠L->b∉frs (env::outer):=λb hb hn hm=>by
  unfold frs at hm hb;rw[ZV,hf] at hm;rcases ZC.mp hm with z|z
  ·exact hn z
  ·exact hb z
 have fr':∀b,b∈frs outer->b∈frs (env::outer):=λb hb=>by
  unfold frs at hb ⊢;rw[ZV,hf];exact Ze _ hb
 have nox:∀b:Addr,b∉([]:List Addr):=λb=>by simp
 have same:∀b ob o,B.get? b=some ob->h'.get? b=some o->h2.get? b=some o:=λb ob o e1 e2=>by
  have q1:=st b ob e1;have q2:=F2.stays b ob e1;rw[e2] at q1;cases q1;exact q2
 refine⟨B,⟨λb o e n hb _=>?_,λb o e n hb _=>?_,λb o e n _=>?_,λb o e _=>?_,λb xs e=>U1.tups b xs (U0.tups b xs e),λb o u e=>U1.frzs b o u (U0.frzs b o u e),λb ps e=>?_⟩,λb o e=>?_,F2,λb o e hb=>?_,c2,hx⟩
 ·have e1:=U0.keep b o e n hb (nox b);have hb':=fr b hb (hL b o e);have e2:=U1.keep b o e1 (U0.free b o e n (nox b)) hb' (nox b);obtain⟨ob,z⟩:=c1 b o e1 hb';exact same b ob o z e2
 ·obtain⟨sl,e1⟩:=U0.slot b o e n hb (nox b);obtain⟨sl',e2⟩:=U1.slot b _ e1 (U0.free b o e n (nox b)) (fr' b hb) (nox b);obtain⟨_,o',ho',hd⟩:=ff.mem hb;rw[e] at ho';cases ho';obtain⟨sl2,e3⟩:=sm b _ e2 hd;exact⟨sl2,e3⟩
 ·obtain⟨o',e1⟩:=U0.there b o e (nox b);exact U1.free b o' e1 (U0.free b o e n (nox b)) (nox b)
 ·obtain⟨o1,e1⟩:=U0.there b o e (nox b);by_cases hb:b∈frs (env::outer)
  ·by_cases kB:b∈frs outer
   ·obtain⟨_,o2,e2,_⟩:=F2.frames.mem kB;exact⟨o2,e2⟩
   ·exact absurd hb (fr b kB (hL b o e))
  ·obtain⟨ob,z⟩:=c1 b o1 e1 hb;exact⟨ob,F2.stays b ob z⟩
 ·obtain⟨m1,e1⟩:=U0.tbls b ps e;obtain⟨m2,e2⟩:=U1.tbls b _ e1;exact⟨m1++m2,by rw[e2,Array.append_assoc]⟩
 ·refine (K b o e).stay (λc u hc q=>?_) (λ_ q=>q) λ_ _ q=>q;rcases hc with z|z
  ·obtain⟨ob,zz⟩:=c2 b o e;rw[z] at q ⊢;exact same b ob u zz q
  ·obtain⟨ob,zz⟩:=c2 c _ z;exact same c ob u zz q
 ·obtain⟨o1,e1⟩:=U0.there b o e (nox b);exact c1 b o1 e1 (fr b hb (hL b o e))
end
section
variable {P:Program}{w:World}{K:PySem.W.Frag}{mg:Str->Option Value}{base:Heap}{N:List Str}{qual:Str}{scope:Scope}{f:Addr}{cd:Value}{A:Around}{outer:List Env}{s₀:Shared}{H₀:Hp}{E:XK}
theorem qx9:qt4 (CX1 P w) (cxOf (CX1 P w) P w K mg base N qual scope f cd A outer s₀ H₀ E) E:=by
 intro j4 σ H s e s' I h;obtain⟨x,cls,H',rfl,ho,hb,⟨B,U,HK,FW,c1,c2,hx⟩,hE⟩:=h;have hf:(envOfC qual scope s₀.heap.objs.size f cd).frame=some s₀.heap.objs.size:=rfl;refine q20 I.ok.frames hf FW λh2 F2 sm=>?_;refine⟨x,cls,H',rfl,ho.trans I.os,hb,?_,hE⟩;exact Fly.left I.base (λb o e=>Zx (Zl e)) hf U HK c1 c2 hx FW.stays I.ok.funs F2 sm
theorem qR4:xr3 (cxOf (CX1 P w) P w K mg base N qual scope f cd A outer s₀ H₀ E) E:=by
 intro j4 σ H s h' e cls args I hm hE;have hf:(envOfC qual scope s₀.heap.objs.size f cd).frame=some s₀.heap.objs.size:=rfl;have FS:s.heap.FunFrames base (envOfC qual scope s₀.heap.objs.size f cd::outer):=I.stack;have jL:∀env∈(envOfC qual scope s₀.heap.objs.size f cd::outer),∀a,env.frame=some a->a∈frs (envOfC qual scope s₀.heap.objs.size f cd::outer):=λenv he a ha=>Wm.mpr ⟨env,he,ha⟩;obtain⟨t,he,_,_⟩:=hm.there;have hen:(PySem.W.hideAll s.heap (frs (envOfC qual scope s₀.heap.objs.size f cd::outer))).get? e=none:=by
  cases q:(PySem.W.hideAll s.heap (frs (envOfC qual scope s₀.heap.objs.size f cd::outer))).get? e with
  |none=>rfl
  |some o=>
   have:=Wk _ q;rw[hm.new] at this;cases this
 have hxn:H e=none:=by
  cases z:H e with
  |none=>rfl
  |some o=>
   obtain⟨ob,q⟩:=(I.hok e o z).there;rw[hm.new] at q;cases q
 refine qR3 (base:=PySem.W.hideAll s.heap (frs (envOfC qual scope s₀.heap.objs.size f cd::outer))) I.ok.frames ((PySem.W.funFrames_hide FS jL).of_keeps λb o hb _=>⟨o,hm.keeps b o hb,rfl⟩) hf he
  (λb o hb=>hm.keeps b o (Wk _ hb)) hen rfl rfl rfl λh2 O2 k4=>?_
 refine⟨e,cls,H,rfl,I.os,I.bare,?_,hE⟩;refine Fly.left (B:=PySem.W.hideAll s.heap (frs (envOfC qual scope s₀.heap.objs.size f cd::outer))) (h':=h') I.base (λb o z=>Zx (Zl z)) hf (Un.kept hm.keeps) (I.hok.kept hm.keeps) (λb o z hb=>⟨o,WR _ z hb⟩) (λb o z=>?_) hxn (λb o hb=>hm.keeps b o (Wk _ hb)) I.ok.funs O2 k4;obtain⟨ob,q⟩:=(I.hok b o z).there;refine⟨ob,WR _ q λhmm=>?_⟩;have:=I.stkFree b hmm;rw[z] at this;cases this
end
def SetN (r:Addr) (n:Nat) (h:Heap):Prop:=∃o es ep t,h.get? r=some o/\o.ExactSet/\o.data=.set es ep t/\t.fits es.size=true/\es.size=n
section
variable {X:Cx}
theorem xJ4 {k:Key}{u:Value}(r:RelV (kV k) u):SetT.Hb u:=by
 cases k with
 |inl i=>obtain⟨t,rfl⟩:=r;exact SetT.Hb.int i t
 |inr x=>obtain⟨t,rfl⟩:=r;exact SetT.Hb.str x t
theorem xr4:∀{ks:List Key}{us:List Value},Vals (ks.map kV) us->∀v∈us,SetT.Hb v
 |[],_,.nil,v,hv=>by cases hv
 |k::ks,_,.cons r t,v,hv=>by
  rcases ZC.mp hv with rfl|hv
  ·exact xJ4 r
  ·exact xr4 t v hv
theorem xw5 {P:Program}{w:World}{H:Hp}{h:Heap}{b:Addr}{ks:List Key}(ok:HOk P w H h) (e:H b=some (.tup (ks.map kV))):SetT.TupK (qd5 P w) h ks b:=by
 obtain⟨_,its,r,o,ho,hc,n,hd⟩:=ok b _ e;exact⟨o,its.toArray,n,ho,hc,hd,by simpa using qx4 r,λv hv=>xr4 r v (by simpa using hv)⟩
theorem qR5:qg3 X (.builtin "len") (λxs H Q=>∃(r:Addr) (n:Nat),xs=[.ref r]/\H r=some (.ext (SetN r n))/\n<=1200/\Q (.int n) H):=by
 intro j4 s σ H xs us Q I rv h;obtain⟨r,n,rfl,hr,hn,q⟩:=h;obtain⟨u,rfl,ru⟩:=qi3 rv;cases ru;obtain⟨⟨o,es,ep,t,ho,vD,hd,hf,rfl⟩,_⟩:=I.hok r _ hr;have hb:(es.size:Int)<=1200:=by lia
 exact call_len_set ho vD hd hf (Int.lt_of_le_of_lt hb (by decide)) ⟨.int es.size,H,I.tok _,⟨_,rfl⟩,q⟩
end
mutual
inductive DataAt (H:Hp):V->PyData->Prop
 |non:DataAt H .non .none
 |bl (b:Bool):DataAt H (.bl b) (.bool b)
 |int (i:Int):DataAt H (.int i) (.int i)
 |str (x:Str):DataAt H (.str x) (.str x)
 |lst {a:Addr}{xs:List V}{ds:List PyData}(h:H a=some (.lst xs)) (r:DatasAt H xs ds):DataAt H (.ref a) (.list ds)
 |tup {a:Addr}{xs:List V}{ds:List PyData}(h:H a=some (.tup xs)) (r:DatasAt H xs ds):DataAt H (.ref a) (.tuple ds)
inductive DatasAt (H:Hp):List V->List PyData->Prop
 |nil:DatasAt H [] []
 |cons {x:V}{xs:List V}{d:PyData}{ds:List PyData}(h:DataAt H x d) (r:DatasAt H xs ds):DatasAt H (x::xs) (d::ds)
end
section
variable {P:Program}{w:World}{H:Hp}{h:Heap}
mutual
theorem DataAt.reads (ok:HOk P w H h):∀{x:V}{d:PyData}{u:Value},DataAt H x d->RelV x u->∃as,Reads h u d as
 |_,_,u,.non,r=>⟨[],by cases (show u=Value.none from r);exact .none⟩
 |_,_,u,.bl b,r=>⟨[],by cases (show u=Value.bool b from r);exact .bool b⟩
 |_,_,u,.int i,r=>⟨[],by obtain⟨t,rfl⟩:=r;exact .int i t⟩
 |_,_,u,.str x,r=>⟨[],by obtain⟨t,rfl⟩:=r;exact .str x t⟩
 |_,_,u,.lst (a:=a) e rs,r=>by
  cases (show u=Value.ref a from r);obtain⟨_,its,n,rv,ho⟩:=ok a _ e;obtain⟨as,ra⟩:=DatasAt.reads ok rs rv;exact⟨a::as,.list ho rfl rfl (by simpa using ra)⟩
 |_,_,u,.tup (a:=a) e rs,r=>by
  cases (show u=Value.ref a from r);obtain⟨_,its,rv,o,ho,hc,n,hd⟩:=ok a _ e;obtain⟨as,ra⟩:=DatasAt.reads ok rs rv;exact⟨as,.tuple ho hc hd (by simpa using ra)⟩
theorem DatasAt.reads (ok:HOk P w H h):∀{xs:List V}{ds:List PyData}{us:List Value},DatasAt H xs ds->Vals xs us->∃as,ReadsAll h us ds as
 |_,_,_,.nil,.nil=>⟨[],.nil⟩
 |_,_,_,.cons h1 r1,.cons r rr=>by
  obtain⟨as,ra⟩:=DataAt.reads ok h1 r;obtain⟨bs,rb⟩:=DatasAt.reads ok r1 rr;exact⟨as++bs,.cons ra rb⟩
end
mutual
theorem DataAt.same {H':Hp}(s:∀b o,H b=some o->H' b=some o):∀{x:V}{d:PyData},DataAt H x d->DataAt H' x d
 |_,_,.non=>.non
 |_,_,.bl b=>.bl b
 |_,_,.int i=>.int i
 |_,_,.str x=>.str x
 |_,_,.lst e r=>.lst (s _ _ e) (DatasAt.same s r)
 |_,_,.tup e r=>.tup (s _ _ e) (DatasAt.same s r)
theorem DatasAt.same {H':Hp}(s:∀b o,H b=some o->H' b=some o):∀{xs:List V}{ds:List PyData},DatasAt H xs ds->DatasAt H' xs ds
 |_,_,.nil=>.nil
 |_,_,.cons h r=>.cons (DataAt.same s h) (DatasAt.same s r)
end
theorem DatasAt.ints:∀(ns:List Int),DatasAt H (ns.map V.int) (ns.map PyData.int)
 |[]=>.nil
 |n::ns=>.cons (.int n) (DatasAt.ints ns)
end
section
variable {X:Cx}
theorem q90 {k:Nat}(hr:Room k X.A):OpR X (compareOp .Eq) (λx y H Q=>∃d e,DataAt H x d/\DataAt H y e/\d.canLay0=true/\e.canLay0=true/\d.depth<=60/\Q (.bl (PyData.eqv d e)) H):=by
 intro j4 s σ H x y v u Q I rx ry h;obtain⟨d,e,hd,he,c1,c2,dp,q⟩:=h;obtain⟨as,ra⟩:=hd.reads I.hok rx;obtain⟨bs,rb⟩:=he.reads I.hok ry;have un:=hr.units;exact SeqAt.rcAt_reads ra rb c1 c2 (by lia) X.prog X.w X.xe _ ⟨.bl _,H,I,rfl,q⟩
theorem qV2 {k:Nat}(hr:Room k X.A):OpR X (compareOp .NotEq) (λx y H Q=>∃d e,DataAt H x d/\DataAt H y e/\d.canLay0=true/\e.canLay0=true/\d.depth<=60/\Q (.bl (!PyData.eqv d e)) H):=by
 intro j4 s σ H x y v u Q I rx ry h;obtain⟨d,e,hd,he,c1,c2,dp,q⟩:=h;obtain⟨as,ra⟩:=hd.reads I.hok rx;obtain⟨bs,rb⟩:=he.reads I.hok ry;have un:=hr.units;exact SeqAt.rcNeAt_reads ra rb c1 c2 (by lia) X.prog X.w X.xe _ ⟨.bl _,H,I,rfl,q⟩
theorem qm3 {k:Nat}(hr:Room k X.A):qg3 X (.builtin "repr") (λxs H Q=>∃(p:Addr) (d:PyData),xs=[.ref p]/\DataAt H (.ref p) d/\d.showable=true/\d.hasDict=false/\d.depth<=60/\d.shown.length<=sizeLine/\Q (.str d.shown) H):=by
 intro j4 s σ H xs us Q I r h;obtain⟨p,d,rfl,hd,hs,hn,dp,hz,q⟩:=h;obtain⟨u,rfl,rx⟩:=qi3 r;cases rx;obtain⟨as,ra⟩:=hd.reads (u:=.ref p) I.hok rfl;have un:=hr.units;exact repr_of_reads' ra hs (λz=>by rw[hn] at z;cases z) hr.gd (by lia) (λb o e=>e) (λh' u tk kp=>⟨.str _,H,I.kept kp,⟨_,rfl⟩,q⟩) hz
end
theorem qn9:∀(a b:List Int),PyData.eqvAll (a.map PyData.int) (b.map PyData.int)=decide (a=b)
 |[],[]=>by simp[PyData.eqvAll]
 |x::a,[]=>by simp[PyData.eqvAll]
 |[],y::b=>by simp[PyData.eqvAll]
 |x::a,y::b=>by
  show (PyData.eqv (.int x) (.int y)&&PyData.eqvAll (a.map PyData.int) (b.map PyData.int))=_;rw[qn9 a b,show PyData.eqv (.int x) (.int y)=(x==y) by simp[PyData.eqv]];rw[YI];simp
theorem qo0:∀(a:List Int),PyData.canLayAll0 (a.map PyData.int)=true
 |[]=>by simp[PyData.canLayAll0]
 |x::a=>by
  show (PyData.canLay0 (.int x)&&PyData.canLayAll0 (a.map PyData.int))=true;rw[qo0 a];simp[PyData.canLay0]
def dT (ns:List Int):PyData:=.tuple (ns.map PyData.int)
def dL (ns:List Int):PyData:=.list (ns.map PyData.int)
theorem qK7 (ns:List Int):(dT ns).canLay0=true:=by
 show PyData.canLayAll0 (ns.map PyData.int)=true;exact qo0 ns
theorem qV3 (ns:List Int):(dL ns).canLay0=true:=by
 show PyData.canLayAll0 (ns.map PyData.int)=true;exact qo0 ns
theorem q91 (a b:List Int):PyData.eqv (dT a) (dT b)=decide (a=b):=by
 show PyData.eqvAll _ _=_;exact qn9 a b
theorem q92 (a b:List Int):PyData.eqv (dL a) (dL b)=decide (a=b):=by
 show PyData.eqvAll _ _=_;exact qn9 a b
end L2
namespace EnumT
open PySem PySem.Spec
section
variable {prog:Program}{w:World}{A:Around}{E:Value->Shared->Prop}{s:Shared}
theorem q21 {it t:Addr}{i:Nat}{items:Array Value}{x:Value}{Q:Value->Shared->Prop}(st:s.heap.IsTupleIter it t i) (ht:s.heap.IsTuple t items) (hx:items[i]?=some x)
  (q:∀h',h'.IsTupleIter it t (i+1)->Heap.SameBut it s.heap h'->Q x { s with heap:=h' }):wpAny (model prog w) A (Builtin.SmallTypes.nextOf (.ref it)) Q E s:=by
 obtain⟨o,e1,e2,e3⟩:=id st;obtain⟨ot,f1,_,nt,f2⟩:=ht;unfold Builtin.SmallTypes.nextOf;refine Za (ZX (name:=Str.ofString "__next__") st.typeIs Y9 (YM Y9 st.typeIs F.entry_tuple_iterator_next ?_ (F.args_tuple_iterator_next_1 _)));show wpAny _ _ (field (.ref it) 0 >>= _) _ _ s;refine Za (Z4 e1 e3 (x:=.ref t) rfl ?_);show wpAny _ _ (if (Value.ref t==Value.none)=true then _ else _) _ _ s;rw[Zm (show ¬((Value.ref t==Value.none)=true) from ZD)];show wpAny _ _ (field (.ref it) 1 >>= _) _ _ s;refine Za (Z4 e1 e3 (x:=.int i 0) rfl ?_);show wpAny _ _ (seqItems? (.ref t) >>= _) _ _ s;refine Za (W4 f1 f2 ?_);simp only[Z5,hx];refine Za (YW e1 e3 (by simp) (Zf ⟨x,rfl,Zf (q _ ⟨_,YG _ e1 (Xc (Yr e3 _)),(Ws ..).trans e2,?_⟩ (Y3 ..))⟩));rw[Yr e3];simp[rawInt]
theorem q93 {it t:Addr}{i:Nat}{items:Array Value}{Q:Value->Shared->Prop}(hh:A.handled=none) (st:s.heap.IsTupleIter it t i) (ht:s.heap.IsTuple t items) (hx:items[i]?=none)
  (q:∀h' e,Heap.ExtBut it s.heap h'->(∃o,h'.get? e=some o/\o.cls=.type "StopIteration")->E (.ref e) { s with heap:=h' }):wpAny (model prog w) A (Builtin.SmallTypes.nextOf (.ref it)) Q E s:=by
 obtain⟨o,e1,e2,e3⟩:=id st;obtain⟨ot,f1,_,nt,f2⟩:=ht;unfold Builtin.SmallTypes.nextOf;refine Za (ZX (name:=Str.ofString "__next__") st.typeIs Y9 (YM Y9 st.typeIs F.entry_tuple_iterator_next ?_ (F.args_tuple_iterator_next_1 _)));show wpAny _ _ (field (.ref it) 0 >>= _) _ _ s;refine Za (Z4 e1 e3 (x:=.ref t) rfl ?_);show wpAny _ _ (if (Value.ref t==Value.none)=true then _ else _) _ _ s;rw[Zm (show ¬((Value.ref t==Value.none)=true) from ZD)];show wpAny _ _ (field (.ref it) 1 >>= _) _ _ s;refine Za (Z4 e1 e3 (x:=.int i 0) rfl ?_);show wpAny _ _ (seqItems? (.ref t) >>= _) _ _ s;refine Za (W4 f1 f2 ?_);simp only[Z5,hx];refine Za (wpAny_rule (Za (YW e1 e3 (by simp) ?_)));show wpAny _ _ (newExc (.type "StopIteration") [] >>= _) _ _ _;refine Za ?_;simp only[newExc,newTuple];refine Za (ZU ?_ (by size_fits));refine Za (m:=firstArgMember _ _) (wpAny_of_eq (a:=Value.none) (by first|rfl|(simp only[firstArgMember];rfl)) ?_);refine ZU ?_ (by size_fits);simp only[raiseNew];refine Za (wpAny_handled ?_)
 first|rw[show A.in1.handled=none from hh]|rw[hh]
 refine Za (Zf (wpAny_throw ?_));exact q _ _ (((Y3 ..).extBut.push _).push _) ⟨_,Zk _ rfl,rfl⟩
theorem q94 {e it:Addr}{i:Nat}{x old:Value}{St:Heap->Prop}{Q:Value->Shared->Prop}(he:IsEnum s.heap e it i old) (jE:e≠it)
  (nx:∀Q':Value->Shared->Prop,(∀h',Heap.SameBut it s.heap h'->St h'->Q' x { s with heap:=h' })->wpAny (model prog w) A (Builtin.SmallTypes.nextOf (.ref it)) Q' E s)
  (q:∀h1 h',Heap.SameBut it s.heap h1->St h1->IsEnumOut h' e it ((i:Int)+1) x s.heap.objs.size->h'.get? s.heap.objs.size=some { cls:=.type "tuple",data:=.seq #[.int i s.toks,x] } ->
   (∀b o,b≠e->h1.get? b=some o->h'.get? b=some o)->Q (.ref s.heap.objs.size) { s with heap:=h',toks:=s.toks+1 }) :
  wpAny (model prog w) A (Builtin.«enumerate.__next__» ⟨[.ref e],[]⟩) (λfin s'=>∃v,fin=.done (.ret v)/\Q v s') E s:=by
 obtain⟨hp,g,d,tk,os⟩:=s;show wpAny _ _ (field (.ref e) 2 >>= _) _ _ _;refine Za (Z4 he rfl (x:=.ref it) rfl ?_);refine Za (nx _ λh₁ s1 st1=>?_)
 replace s1:Heap.SameBut it hp h₁:=s1
 have he₁:IsEnum h₁ e it i old:=(s1.2 e jE).trans he;show wpAny _ _ (field (.ref e) 3 >>= _) _ _ ⟨h₁,g,d,tk,os⟩;refine Za (Z4 he₁ rfl (x:=rawInt i) rfl ?_);show wpAny _ _ (field (.ref e) 4 >>= _) _ _ ⟨h₁,g,d,tk,os⟩;refine Za (Z4 he₁ rfl (x:=.none) rfl ?_);show wpAny _ _ (mkInt i >>= _) _ _ ⟨h₁,g,d,tk,os⟩;refine Za (wpAny_mkInt ?_);show wpAny _ _ (setField (.ref e) 3 (rawInt ((i:Int)+1)) >>= _) _ _ ⟨h₁,g,d,tk+1,os⟩;refine Za (XE he₁ (by simp) λh₂ he₂ s2=>?_)
 replace s2:Heap.SameBut e h₁ h₂:=s2
 replace he₂:IsEnum h₂ e it ((i:Int)+1) old:=he₂
 show wpAny _ _ (setField (.ref e) 4 .none >>= _) _ _ ⟨h₂,g,d,tk+1,os⟩;refine Za (XE he₂ (by simp) λh₃ he₃ s3=>?_)
 replace s3:Heap.SameBut e h₂ h₃:=s3
 replace he₃:IsEnum h₃ e it ((i:Int)+1) old:=he₃
 show wpAny _ _ (newTuple [.int i tk,x] >>= _) _ _ ⟨h₃,g,d,tk+1,os⟩;refine Za (wpAny_newTuple ?_);have z3:h₃.objs.size=hp.objs.size:=by rw[s3.1,s2.1,s1.1]
 have elt:e<hp.objs.size:=Zl he;obtain⟨h₄,e4⟩:∃h₄,h₃.push { cls:=.type "tuple",data:=.seq #[.int i tk,x] }=h₄:=⟨_,rfl⟩;have he₄:IsEnum h₄ e it ((i:Int)+1) old:=by rw[<- e4];exact Zc _ he₃
 have ht₄:h₄.get? hp.objs.size=some { cls:=.type "tuple",data:=.seq #[.int i tk,x] }:=by rw[<- e4,<- z3];exact Zk _ rfl
 have k4:∀b o,b≠e->h₁.get? b=some o->h₄.get? b=some o:=λb o hb eb=>by
  rw[<- e4];exact Zc _ (s3.extBut b o hb (s2.extBut b o hb eb))
 rw[e4];show wpAny _ _ (Builtin.SmallTypes.ownedTupleIsFree (.ref e) >>= _) _ _ ⟨h₄,g,d,tk+1,os⟩;rw[z3];refine Za ?_;unfold Builtin.SmallTypes.ownedTupleIsFree;refine Za (Z4 he₄ rfl (x:=.none) rfl (Zf ?_));simp only[Xu];refine Za (wpAny_rule ?_);refine Za (Z4 he₄ rfl (x:=old) rfl ?_);refine Za (XE he₄ (by simp) λh₅ he₅ s5=>?_)
 replace s5:Heap.SameBut e h₄ h₅:=s5
 replace he₅:IsEnum h₅ e it ((i:Int)+1) x:=he₅
 show wpAny _ _ (Builtin.SmallTypes.ownedTupleHandOut (.ref e) (.ref hp.objs.size) >>= _) _ _ ⟨h₅,g,d,tk+1,os⟩;refine Za ?_;unfold Builtin.SmallTypes.ownedTupleHandOut;refine Za (XE he₅ (by simp) λh₆ he₆ s6=>?_)
 replace s6:Heap.SameBut e h₅ h₆:=s6
 replace he₆:IsEnumOut h₆ e it ((i:Int)+1) x hp.objs.size:=he₆
 refine XE he₆ (by simp) λh₇ he₇ s7=>?_
 replace s7:Heap.SameBut e h₆ h₇:=s7
 replace he₇:IsEnumOut h₇ e it ((i:Int)+1) x hp.objs.size:=he₇
 have k7:∀b o,b≠e->h₄.get? b=some o->h₇.get? b=some o:=λb o hb eb=>s7.extBut b o hb (s6.extBut b o hb (s5.extBut b o hb eb));exact Za (wpAny_letGo (Zf ⟨_,rfl,q h₁ h₇ s1 st1 he₇ (k7 _ _ (XZ elt) ht₄) λb o hb eb=>k7 b o hb (k4 b o hb eb)⟩))
theorem next_pair {e it t:Addr}{i:Nat}{items:Array Value}{x old:Value}{Q:Option Value->Shared->Prop}(he:IsEnum s.heap e it i old) (jE:e≠it) (st:s.heap.IsTupleIter it t i) (ht:s.heap.IsTuple t items) (hx:items[i]?=some x)
  (q:∀h1 h',Heap.SameBut it s.heap h1->IsEnumOut h' e it ((i:Int)+1) x s.heap.objs.size->h'.IsTupleIter it t (i+1)->h'.get? s.heap.objs.size=some { cls:=.type "tuple",data:=.seq #[.int i s.toks,x] } ->
   (∀b o,b≠e->h1.get? b=some o->h'.get? b=some o)->Q (some (.ref s.heap.objs.size)) { s with heap:=h',toks:=s.toks+1 }):wpAny (model prog w) A (pyNext (.ref e)) Q E s:=by
 have hT:s.TypeIs (.ref e) "enumerate":=⟨_,he,rfl⟩;unfold pyNext;refine Za (Wc (ZX (name:=Str.ofString "__next__") hT XQ (YM XQ hT F.entry_enumerate_next
  (q94 (St:=λh=>h.IsTupleIter it t (i+1)) he jE (λQ' q'=>q21 st ht hx λh' st' sb=>q' h' sb st') λh1 h' sb st1 ho hT' kp=>Zf (q h1 h' sb ho ?_ hT' kp)) (F.args_enumerate_next_1 _))))
 obtain⟨o,x1,x2⟩:=st1;exact⟨o,kp it o (Z0 jE) x1,x2⟩
theorem next_end {e it t:Addr}{i:Nat}{items:Array Value}{old:Value}{Q:Option Value->Shared->Prop}(hh:A.handled=none) (he:IsEnum s.heap e it i old) (st:s.heap.IsTupleIter it t i) (ht:s.heap.IsTuple t items) (hx:items[i]?=none)
  (q:∀h',Heap.ExtBut it s.heap h'->Q none { s with heap:=h' }):wpAny (model prog w) A (pyNext (.ref e)) Q E s:=by
 have hT:s.TypeIs (.ref e) "enumerate":=⟨_,he,rfl⟩;unfold pyNext;refine Za (Wc (ZX (name:=Str.ofString "__next__") hT XQ (YM XQ hT F.entry_enumerate_next ?_ (F.args_enumerate_next_1 _))));show wpAny _ _ (field (.ref e) 2 >>= _) _ _ _;refine Za (Z4 he rfl (x:=.ref it) rfl ?_);refine Za (q93 hh st ht hx λh' x eb ⟨o,ho,hc⟩=>?_);exact Za (wpAny_isInstance (T:= "StopIteration") (b:=true) ⟨o,ho,hc⟩ isSubtype_stop (Zf (q _ eb)))
theorem q95 (l:Addr) (items:Array Value) (n:Nat) (dct:Option Addr) (sl:Array (Option Value)) :
  Meets (Builtin.«enumerate.__new__» ⟨[.type "enumerate",.ref l],[]⟩) (λ_ R s=>s.heap.get? l=some { cls:=.type "tuple",dict:=dct,data:=.seq items n,slots:=sl } /\
   R (.ok (.ret (.ref (s.heap.push { cls:=.type "tuple_iterator",data:=.fields #[.ref l,.int 0 0] }).objs.size)))
    { s with heap:=(s.heap.push { cls:=.type "tuple_iterator",data:=.fields #[.ref l,.int 0 0] }).push { cls:=.type "enumerate",data:=.fields #[.none,.bool false,.ref s.heap.objs.size,rawInt 0,.none,.none] } }):=
 .of_wp λprog w A R s h=>by
  obtain⟨hp,g,d,tk,os⟩:=s;obtain⟨hl,h⟩:=h;have f0:=sub_enumerate;have hL:Heap.IsTuple (Shared.heap ⟨hp,g,d,tk,os⟩) l items:=⟨_,hl,rfl,n,rfl⟩
  wp_walk using Wd hl
  refine wpAny_stack_any λst=>Zf ?_;split
  ·rename_i c _ _ _ _ _;cases (c==Value.type "enumerate")
   all_goals
    wp_walk using Wd hl,Wl hL
    exact⟨_,rfl,h⟩
  ·wp_walk using Wd hl,Wl hL
   exact⟨_,rfl,h⟩
theorem call_new {l:Addr}{items:Array Value}{Q:Value->Shared->Prop}(hL:s.heap.IsTuple l items)
  (q:∀h',IsEnum h' (s.heap.objs.size+1) s.heap.objs.size 0 .none->h'.IsTupleIter s.heap.objs.size l 0->(∀b o,s.heap.get? b=some o->h'.get? b=some o)->Q (.ref (s.heap.objs.size+1)) { s with heap:=h' }) :
  wpAny (model prog w) A (call (.type "enumerate") [.ref l]) Q E s:=by
 obtain⟨⟨c,dct,dt,sl⟩,hl,hc,n,hd⟩:=hL
 replace hc:c=.type "tuple":=hc
 replace hd:dt=.seq items n:=hd
 subst hc hd;refine callType_new F.called_enumerate (by decide) (F.typeCall_enumerate_1 _) (F.newCall_enumerate_1 _) (λobj=>F.args_object_init_2 obj _) F.entry_enumerate_new (q95 l items n dct sl) ⟨hl,?_⟩;have z1:(s.heap.push { cls:=.type "tuple_iterator",data:=.fields #[.ref l,.int 0 0] }).objs.size=s.heap.objs.size+1:=Yp ..;show _/\_;rw[z1];have he:=Zk (s.heap.push { cls:=.type "tuple_iterator",data:=.fields #[.ref l,.int 0 0] }) (o:={ cls:=.type "enumerate",data:=.fields #[.none,.bool false,.ref s.heap.objs.size,rawInt 0,.none,.none] }) rfl;rw[z1] at he;exact⟨⟨_,he,rfl⟩,q _ he ⟨_,Zc _ (Zk _ rfl),rfl,rfl⟩ λb o x=>Zc _ (Zc _ x)⟩
end
end EnumT
namespace L2
open PySem PySem.Spec PyProof.Rows
def Ite (K:PySem.W.Frag) (a:Addr):It:=
 ⟨λi H=>∃xs x,SqT K H a xs/\xs[i]?=some x,λi H y H'=>∃p x,H p=none/\(∀xs,SqT K H a xs->xs[i]?=some x)/\H'=upd H p (.tup [.int i,x])/\y=.ref p,λi H=>∃xs,SqT K H a xs/\xs.length<=i⟩
theorem q96 {h:Heap}{o o':Obj}{b:Addr}(e:(h.push o).get? b=some o') (j7:b<h.objs.size):h.get? b=some o':=by
 unfold Heap.get? Heap.push at *;simp only[WT] at e;rw[Zm (Zx j7)] at e;exact e
theorem q22 {P:Program}{w:World}{K:PySem.W.Frag}{elts:List Expr}{x1:Nat}{tpos:Pos}(a e it:Addr) (jE:e≠it) :
  Turn P w K (.Tuple elts x1 tpos) (Ite K a) [e,it] e (λi h=>(∃old,IsEnum h e it i old)/\h.IsTupleIter it a i) where
 mem:=by simp
 obj:=λi h st b hb=>by
  rcases ZC.mp hb with rfl|hb
  ·obtain⟨⟨old,z⟩,_⟩:=st;exact⟨_,z,λv q=>by
    have q':Data.fields _=Data.cell v:=q;cases q'⟩
  ·have:b=it:=by simpa using hb
   subst this;obtain⟨_,o,z,_,d⟩:=st;exact⟨o,z,λv q=>by rw[d] at q;cases q⟩
 keep:=λi h h' st k=>by
  obtain⟨⟨old,z⟩,st2⟩:=st;exact⟨⟨old,k e (by simp) _ z⟩,st2.at λo q=>k it (by simp) o q⟩
 item:=by
  intro X hP hw hK hc i j4 s σ H E I hf st hg;subst hP hw hK;obtain⟨⟨old,he⟩,st2⟩:=st;obtain⟨xs,x,hq,hx⟩:=hg;obtain⟨its,rv,p,hz⟩:=I.tuple hq;obtain⟨u,hu,ru⟩:=rv.get hx;obtain⟨e0,e1,e2,e3,e4,e5⟩:=hf e (by simp);obtain⟨f0,f1,f2,f3,f4,f5⟩:=hf it (by simp);refine EnumT.next_pair he jE st2 (show s.heap.IsTuple a its.toArray from p) (x:=u) (by simpa using hu) λh1 h' sb ho st3 ht kp=>?_;refine⟨_,rfl,wpAny_letOwnedTupleGo_enum ho λh2 kE sb2=>?_⟩;have elt:e<s.heap.objs.size:=Zl he;have ilt:it<s.heap.objs.size:=by obtain⟨o,z,_⟩:=st2;exact Zl z
  have fresh:H s.heap.objs.size=none:=I.hok.fresh (Zd _);have z1:h1.objs.size=s.heap.objs.size:=sb.1;have J0:Inv X j4 σ (upd H s.heap.objs.size (.tup [.int i,x])) { s with heap:=s.heap.push { cls:=.type "tuple",data:=.seq #[.int i s.toks,u] },toks:=s.toks+1 }:=
   I.laid (λb o q=>Zc _ q) (Zd _) ⟨by show 2<=sizeLine;decide,[.int i s.toks,u],.cons ⟨_,rfl⟩ (.cons ru .nil),_,Zk _ rfl,rfl,⟨_,rfl⟩,rfl⟩
  have ne1:(upd H s.heap.objs.size (.tup [.int i,x])) it=none:=by rw[qa7 (Zx ilt)];exact f0
  have ne2:(upd H s.heap.objs.size (.tup [.int i,x])) e=none:=by rw[qa7 (Zx elt)];exact e0
  have J1:=J0.turned (it:=it) (h':=h1.push { cls:=.type "tuple",data:=.seq #[.int i s.toks,u] }) (t':=s.toks+1) (λb o hb q=>by
    have q:(s.heap.push { cls:=.type "tuple",data:=.seq #[.int i s.toks,u] }).get? b=some o:=q;by_cases j7:b<s.heap.objs.size
    ·have q':s.heap.get? b=some o:=q96 q j7;exact Zc _ ((sb.2 b hb).trans q')
    ·have kB:b<s.heap.objs.size+1:=by have:=Zl q;rw[Yp] at this;exact this
     have eb:b=s.heap.objs.size:=Vw (Xm kB) (Vl j7);subst eb;rw[Zk _ rfl] at q;cases q;have:=Zk h1 (o:={ cls:=.type "tuple",data:=.seq #[.int i s.toks,u] }) rfl;rw[z1] at this;exact this) ne1 f1 f3 f4 f5
  have J2:=J1.turned (it:=e) (h':=h') (t':=s.toks+1) (λb o hb q=>by
    have q:(h1.push { cls:=.type "tuple",data:=.seq #[.int i s.toks,u] }).get? b=some o:=q;by_cases j7:b<s.heap.objs.size
    ·have q':h1.get? b=some o:=q96 q (by rw[z1];exact j7);exact kp b o hb q'
    ·have kB:b<s.heap.objs.size+1:=by have:=Zl q;rw[Yp,z1] at this;exact this
     have eb:b=s.heap.objs.size:=Vw (Xm kB) (Vl j7);subst eb;have:=Zk h1 (o:={ cls:=.type "tuple",data:=.seq #[.int i s.toks,u] }) rfl;rw[z1] at this;rw[this] at q;cases q;exact ht) ne2 e1 e3 e4 e5
  have J3:=J2.turned (it:=e) (h':=h2) (t':=s.toks+1) (λb o hb q=>(sb2.2 b hb).trans q) ne2 e1 e3 e4 e5;refine⟨.ref s.heap.objs.size,_,J3,rfl,⟨_,x,fresh,λys hy=>by rw[I.tuple_inj hy hq];exact hx,rfl,rfl⟩,⟨⟨u,by
   have:(((i+1:Nat)):Int)=(i:Int)+1:=by lia
   rw[this];exact kE⟩,st3.at λo q=>(sb2.2 it (Z0 jE)).trans q⟩,λb hb=>?_⟩
  rcases ZC.mp hb with rfl|hb
  ·exact ne2
  ·have:b=it:=by simpa using hb
   subst this;exact ne1
 done:=by
  intro X hP hw hK hc i j4 s σ H E I hf st hg;subst hP hw hK;obtain⟨⟨old,he⟩,st2⟩:=st;obtain⟨xs,hq,hx⟩:=hg;obtain⟨its,rv,p,hz⟩:=I.tuple hq;obtain⟨f0,f1,f2,f3,f4,f5⟩:=hf it (by simp);have hl:=rv.length;exact EnumT.next_end (I.ok.hd hc) he st2 (show s.heap.IsTuple a its.toArray from p) (by simp;lia) λh' eb=>⟨rfl,I.turned (t':=s.toks) (λb o hb e=>eb b o hb e) f0 f1 f3 f4 f5⟩
 self:=λ_ _ _ _ _ st h=>by
  obtain⟨⟨old,he⟩,_⟩:=st;exact wpAny_pyIter_enum he h
section
variable {X:Cx}{elts:List Expr}{x1:Nat}{tpos:Pos}
def xD1 (K:PySem.W.Frag) (ta:TA):TI:=λσ H R=>ta σ H λvs H1=>∃a,vs=[.ref a]/\(∃xs,SqT K H1 a xs)/\R (Ite K a) H1
theorem qV4 {e:Expr}{ta:TA}{p pos:Pos}(hg:Gl X "enumerate") (hm:X.mg "enumerate" = none) (ha:PA X [e] ta) (hs:starEach [e] X.env=[(false,eval e X.env)]:=by rfl):PI X (.Tuple elts x1 tpos) (.Call (.Name "enumerate" p) [e] [] pos) (xD1 X.K ta):=by
 intro j4 s σ H R I h;refine Call_ (qI8 I hg hm PyProof.Rows.boot_enumerate (XU (thn (ha pos j4 s σ H _ I h) λus s1 ⟨vs,H1,I1,r1,q1⟩=>?_) hs rfl));obtain⟨a,rfl,⟨xs,hq⟩,q⟩:=q1;obtain⟨u,rfl,ru⟩:=qi3 r1;cases ru;obtain⟨its,rv,pt,hz⟩:=I1.tuple hq;refine EnumT.call_new (show s1.heap.IsTuple a its.toArray from pt) λh' he st kp=>?_;refine wpAny_pyIter_enum he ?_;have J:Inv X j4 σ H1 { s1 with heap:=h' }:=I1.kept (t':=s1.toks) kp;refine⟨s1.heap.objs.size+1,[s1.heap.objs.size+1,s1.heap.objs.size],_,_,H1,rfl,J,q22 a _ _ (Nat.succ_ne_self _),⟨⟨.none,he⟩,st⟩,λb hb=>?_,q⟩;rcases ZC.mp hb with rfl|hb
 ·exact I1.fpOk (Nat.le_succ _) (I1.hok.fresh (Nat.le_succ _))
 ·have:b=s1.heap.objs.size:=by simpa using hb
  subst this;exact I1.fpOk (Zd _) (I1.hok.fresh (Zd _))
end
section
variable {X:Cx}
def qc7 (X:Cx) (scope:Scope) (cl:List (Str×Addr)) (C:Addr) (ns:List Str) (fp:List Addr) (s₀:Shared) (H₀:Hp):Cx:=
 { X with N:=ns++X.N,s₀:=s₀,H₀:=H₀,env:=compEnvC scope cl C X.env,outer:=X.stack,stack:=X.stack,ex:=fp,fn:=λ_=>false,pn:=[],xe:=λ_ _=>False }
def qy0 (n:Nat) (wi:TI) (g:TG) (tt:TT) (te:TE):TE:=λσ H Q=>wi σ H λJ H1=>∀D,H1 D=none->∃W:Nat->Nat->List V->Hp->Prop,(∃m,W 0 m [] (upd H1 D (.lst []))) /\
 ∀i m xs H2,W i m xs H2->H2 D=some (.lst xs)/\xs.length<sizeLine/\((J.stop i H2/\Q (.ref D) H2)\/(J.go i H2/\∀y H3,J.yld i H2 y H3->∀os:St,os.length=n ->
  g y (os++σ) H3 λσ4 H4=>tt σ4 H4 λb H5=>if b=true then te σ4 H5 λv H6=>H6 D=some (.lst xs)/\∃m',m'<m/\W (i+1) m' (xs++[v]) (upd H6 D (.lst (xs++[v]))) else ∃m',m'<m/\W (i+1) m' xs H5))
theorem qK8 {prog:Program}{w:World}{A:Around}{R:Result->Shared->Prop}{s:Shared}{elt target iter:Expr}{ifs:List Expr}{scope:Scope}{pos:Pos}{it acc:Value}{env:Env}(T:Sem Bool)
  (hT:compTurn (.ListComp elt [⟨target,iter,ifs,0⟩] scope pos) 0 it acc env=(standAt iter.pos >>= λ_=>pyNext it >>= λr=>match r with
   |none=>pure (.done .next)
   |some v=>letOwnedTupleGo target it v >>= λ_=>assign target env v >>= λ_=>T >>= λok=>(if ok=true then (eval elt env >>= λx=>call (.builtin "list.append") [acc,x] >>= λ_=>pure ()) else pure ()) >>= λ_=>
     again (.compLoop (.ListComp elt [⟨target,iter,ifs,0⟩] scope pos) 0 it acc env)))
  (I:Nat->Shared->Prop)
  (turn:∀n s,I n s->wpAny (model prog w) A (pyNext it) (λr s₁=>match r with
   |none=>R (.ok .next) s₁
   |some v=>wpAny (model prog w) A (letOwnedTupleGo target it v) (λ_ s₁'=>wpAny (model prog w) A (assign target env v) (λ_ s₂=>wpAny (model prog w) A T (λok s₃=>
     if ok=true then wpAny (model prog w) A (eval elt env) (λx s₄=>wpAny (model prog w) A (call (.builtin "list.append") [acc,x]) (λ_ s₅=>∃m,m<n/\I m s₅) (λ_ _=>False) s₄) (λ_ _=>False) s₃
     else ∃m,m<n/\I m s₃) (λ_ _=>False) s₂) (λ_ _=>False) s₁') (λ_ _=>False) s₁) (λ_ _=>False) s)
  (n:Nat) (h:I n s):codeAny (model prog w) A (.compLoop (.ListComp elt [⟨target,iter,ifs,0⟩] scope pos) 0 it acc env) R s:=by
 refine codeAny_loop rfl I (λn s hI=>?_) n h;show wpAny _ A ((compTurn (.ListComp elt [⟨target,iter,ifs,0⟩] scope pos) 0 it acc env).onRaise (λx=>do noteFrame x env;theTreesLotGoes x)) _ _ s;refine wpAny_noted ?_;rw[hT];refine Za (wpAny_standAt (Za (YA (turn n s hI) (λr s₁ h₁=>?_) λ_ _ h'=>h'.elim)));cases r with
 |none=>exact Zf h₁
 |some v=>
  refine Za (YA h₁ (λ_ s₁' h₁'=>?_) λ_ _ h'=>h'.elim);refine Za (YA h₁' (λ_ s₂ h₂=>Za (YA h₂ (λok s₃ h₃=>?_) λ_ _ h'=>h'.elim)) λ_ _ h'=>h'.elim);cases ok with
  |true=>
   rw[Zt rfl] at h₃;simp only[Xu];exact Za (Za (YA h₃ (λx s₄ h₄=>Za (YA h₄ (λ_ s₅ h₅=>Zf (Zf ⟨rfl,h₅⟩)) λ_ _ h'=>h'.elim)) λ_ _ h'=>h'.elim))
  |false=>
   rw[Zm ZD] at h₃;simp only[ZL,Yq];exact Za (Zf (Zf ⟨rfl,h₃⟩))
theorem qR6 (elt target iter:Expr) (scope:Scope) (pos:Pos) (it acc:Value) (env:Env):compTurn (.ListComp elt [⟨target,iter,[],0⟩] scope pos) 0 it acc env=(standAt iter.pos >>= λ_=>pyNext it >>= λr=>match r with
   |none=>pure (.done .next)
   |some v=>letOwnedTupleGo target it v >>= λ_=>assign target env v >>= λ_=>(pure true:Sem Bool) >>= λok=>(if ok=true then (eval elt env >>= λx=>call (.builtin "list.append") [acc,x] >>= λ_=>pure ()) else pure ()) >>= λ_=>
     again (.compLoop (.ListComp elt [⟨target,iter,[],0⟩] scope pos) 0 it acc env)):=by
 rw[compTurn_list1];congr 1
theorem xl6 (elt target iter c:Expr) (scope:Scope) (pos:Pos) (it acc:Value) (env:Env):compTurn (.ListComp elt [⟨target,iter,[c],0⟩] scope pos) 0 it acc env=(standAt iter.pos >>= λ_=>pyNext it >>= λr=>match r with
   |none=>pure (.done .next)
   |some v=>letOwnedTupleGo target it v >>= λ_=>assign target env v >>= λ_=>isTrue c env (eval c env) >>= λok=>(if ok=true then (eval elt env >>= λx=>call (.builtin "list.append") [acc,x] >>= λ_=>pure ()) else pure ()) >>= λ_=>
     again (.compLoop (.ListComp elt [⟨target,iter,[c],0⟩] scope pos) 0 it acc env)):=by
 rw[compTurn_list];refine Vs λ_=>Vs λr=>?_;cases r with
 |none=>rfl
 |some v=>
  refine Vs λ_=>Vs λ_=>?_;simp only[Vu,List.forIn_nil,Xu,bind_assoc,pure_bind];refine Vs λok=>?_;cases ok<;>simp
theorem qy1 {j4:List (Addr×Obj)}{σ:St}{H:Hp}{s:Shared}{h':Heap}{tk:Nat}{scope:Scope}{cl:List (Str×Addr)}{C:Addr}{nn:List Str}{fp:List Addr}{m:Str->Option Value}
  (I:Inv X j4 σ H s) (hC:C=s.heap.objs.size) (keep:∀b o,s.heap.get? b=some o->h'.get? b=some o) (ns:h'.Ns C m) (hfp:∀b∈fp,FpOk X j4 H b) (hfs:∀b∈fp,b<s.heap.objs.size)
  (jA:scope.kind=.function) (j8:∀y∈scope.names,y.2≠.cell) (jK:∀y∈X.N,scope.names.lookup y≠some .local)
  (jU:∀y c,cl.lookup y=some c->X.env.cells.lookup y=some c) (hcl2:∀p∈scope.names,p.2=.free->(cl.lookup p.1).isSome=true)
  (jI:∀p∈scope.names,p.2=.free->Vis X.env.scope p.1/\X.env.scope.names.lookup p.1≠some .local) :
  Inv (qc7 X scope cl C nn fp s H) [] ((nn.map λ_=>none)++σ) H { s with heap:=h',toks:=tk }:=by
 have cells:∀y c,cl.lookup y=some c->∃v,s.heap.IsCell c v:=λy c e=>I.cell y c (jU y c e);have celllt:∀y c,cl.lookup y=some c->c<s.heap.objs.size:=λy c e=>by
  obtain⟨v,q⟩:=cells y c e;exact q.lt
 have cellk:∀c v,s.heap.IsCell c v->h'.IsCell c v:=λc v ⟨o,e,d⟩=>⟨o,keep c o e,d⟩;have stkl:∀b∈frs X.stack,∃o,s.heap.get? b=some o:=λb hb=>by
  rcases ZC.mp (I.stkSub b hb) with e|hb
  ·obtain⟨_,⟨o,_,_,ho,_⟩,_⟩:=I.loc;exact⟨o,by rw[e];exact ho⟩
  ·obtain⟨_,o,ho,_⟩:=I.funs.mem hb;exact⟨o,ho⟩
 refine⟨⟨I.ok.mod,jA,I.ok.glob,I.ok.blt,WX hC.symm,λy z c h1 h2=>I.ok.inj y z c (jU y c h1) (jU z c h2),λy hy=>?_,λy c h _=>Bool.noConfusion h,I.ok.hd,I.ok.frames,.inl rfl,λb hb=>⟨?_,λy c e z=>?_⟩,I.bs,
  ZE I.ok.bsz I.sz,λb o e hb=>?_,λb hb hf=>?_,I.stack,I.stkFree⟩,rfl,I.bare,Un.kept keep,⟨m,ns,λi y v h1 h2 h3=>?_⟩,λy c e=>?_,?_,λy c e=>?_,λp hp=>absurd hp (by simp[qc7]),I.hok.kept keep,?_⟩
 ·
  have hy:(relabel scope X.env).names.lookup y=some .cell\/(relabel scope X.env).names.lookup y=some .free:=hy;obtain⟨p,hp,e1,e2⟩:∃p∈scope.names,p.1=y/\p.2=.free:=by
   rcases hy with hy|hy
   ·exact qh9 hy j8 (.inl rfl)
   ·exact qh9 hy j8 (.inr rfl)
  obtain⟨c,e⟩:=Xp.mp (hcl2 p hp e2);exact⟨c,by rw[<- e1];exact e⟩
 ·show b≠C;rw[hC];exact Zx (hfs b hb)
 ·exact (hfp b hb).2.2.2.2.1 y c (jU y c e) z
 ·rcases (hfp b hb).2.2.2.1 with z|z
  ·exact I.ok.noex b o e z
  ·exact absurd (ZQ (Zl (I.ok.bs b o e).1) z) (Yk _)
 ·rcases ZC.mp (I.stkSub b hf) with z|z
  ·exact (hfp b hb).2.1 z
  ·exact (hfp b hb).2.2.1 z
 ·
  by_cases jL:i<nn.length
  ·rw[Zo (by simpa using jL)] at h2;simp at h2
  ·obtain⟨j,rfl⟩:∃j,i=nn.length+j:=⟨i-nn.length,by lia⟩;have h1:X.N[j]?=some y:=by
    have h1:(nn++X.N)[nn.length+j]?=some y:=h1;rw[Zv (ZO _ _),Nat.add_sub_cancel_left] at h1;exact h1
   have h2:σ[j]?=some (some v):=by
    rw[Zv (by simp)] at h2;simpa using h2
   have h3:(relabel scope X.env).names.lookup y=some .local\/(relabel scope X.env).names.lookup y=some .cell\/(relabel scope X.env).names.lookup y=some .free:=h3;rcases h3 with h3|h3
   ·exact absurd (qp0 h3) (jK y (Zs h1))
   ·obtain⟨p,hp,e1,e2⟩:∃p∈scope.names,p.1=y/\p.2=.free:=by
     rcases h3 with h3|h3
     ·exact qh9 h3 j8 (.inl rfl)
     ·exact qh9 h3 j8 (.inr rfl)
    obtain⟨hv,hnl⟩:=jI p hp e2;rw[e1] at hv hnl;obtain⟨m0,_,hl0⟩:=I.loc;obtain⟨u,ru,lk⟩:=hl0 j y v h1 h2 hv;rcases lk with ⟨lk,_⟩|⟨_,c,hc,hcv⟩
    ·exact absurd lk hnl
    ·obtain⟨c',e'⟩:=Xp.mp (hcl2 p hp e2);rw[e1] at e';have:=jU y c' e';rw[hc] at this;cases this;refine⟨u,ru,.inr ⟨h3,c,e',cellk c _ hcv⟩⟩
 ·obtain⟨v,q⟩:=cells y c e;exact⟨v,cellk c v q⟩
 ·show H C=none;exact I.hok.fresh (WX hC.symm)
 ·exact I.freeC y c (jU y c e)
 ·show ((nn.map λ_=>none)++σ).length=(nn++X.N).length;simp[I.len]
theorem qK9 {j4:List (Addr×Obj)}{σ σ':St}{H H':Hp}{s s':Shared}{h':Heap}{scope:Scope}{cl:List (Str×Addr)}{C:Addr}{nn:List Str}{fp:List Addr}
  (I:Inv X j4 σ H s) (hC:C=s.heap.objs.size) (hfp:∀b∈fp,FpOk X j4 H b) (J:Inv (qc7 X scope cl C nn fp s H) [] σ' H' s') (sb:Heap.SameBut C s'.heap h'):Inv X j4 σ H' { s' with heap:=h' }:=by
 have ne:∀b o,s.heap.get? b=some o->b≠C:=λb o e=>by rw[hC];exact Zx (Zl e)
 have B:Un (frs X.stack) fp H H' s.heap s'.heap:=J.base;have U:Un (frs X.stack) fp H H' s.heap h':=
  ⟨λb o e n hb hx=>(sb.2 b (ne b o e)).trans (B.keep b o e n hb hx),λb o e n hb hx=>by
   obtain⟨sl,q⟩:=B.slot b o e n hb hx;exact⟨sl,(sb.2 b (ne b o e)).trans q⟩,B.free,λb o e hx=>by
   obtain⟨o',q⟩:=B.there b o e hx;exact⟨o',(sb.2 b (ne b o e)).trans q⟩,B.tups,B.frzs,B.tbls⟩
 have hf:H' C=none:=J.free;have K:HOk X.prog X.w H' h':=λb o e=>(J.hok b o e).stay (λc u hc q=>(sb.2 c (by
  rintro rfl;rcases hc with z|z
  ·rw[z,e] at hf;cases hf
  ·rw[hf] at z;cases z)).trans q) (λ_ q=>q) λ_ _ q=>q
 refine I.call' (s':={ s' with heap:=h' }) (ch:=fp) J.os U K J.bare λb hb=>?_;obtain⟨_,h2,_,h4,h5,h6⟩:=hfp b hb;exact⟨h4,h2,h5,h6⟩
theorem qE7 {nn:List Str}{tg:Expr}{ifs:List Expr}{pos:Pos}{elt iter:Expr}{scope:Scope}{wi:TI}{g:TG}{tt:TT}{te:TE}(T:Env->Sem Bool) (hc:X.calm=true) (hi:PI X tg iter wi)
  (hturn:∀it acc env,compTurn (.ListComp elt [⟨tg,iter,ifs,0⟩] scope pos) 0 it acc env=(standAt iter.pos >>= λ_=>pyNext it >>= λr=>match r with
   |none=>pure (.done .next)
   |some v=>letOwnedTupleGo tg it v >>= λ_=>assign tg env v >>= λ_=>T env >>= λok=>(if ok=true then (eval elt env >>= λx=>call (.builtin "list.append") [acc,x] >>= λ_=>pure ()) else pure ()) >>= λ_=>
     again (.compLoop (.ListComp elt [⟨tg,iter,ifs,0⟩] scope pos) 0 it acc env)))
  (hgt:∀cl C fp s₀ H₀,PG (qc7 X scope cl C nn fp s₀ H₀) tg g)
  (hloc2:∀y (os σ:St) H R,os.length=nn.length->g y (os++σ) H R->g y (os++σ) H λσ' H'=>(∃os':St,os'.length=nn.length/\σ'=os'++σ)/\R σ' H')
  (htt:∀cl C fp s₀ H₀ (j4:List (Addr×Obj)) (s:Shared) (σ:St) (H:Hp) (Q:Bool->Hp->Prop),Inv (qc7 X scope cl C nn fp s₀ H₀) j4 σ H s->tt σ H Q->wpAny (model X.prog X.w) X.A (T (compEnvC scope cl C X.env)) (TP (qc7 X scope cl C nn fp s₀ H₀) j4 σ Q) (λ_ _=>False) s)
  (he:∀cl C fp s₀ H₀,PE (qc7 X scope cl C nn fp s₀ H₀) elt te)
  (jA:scope.kind=.function) (j8:∀y∈scope.names,y.2≠.cell) (jC:∀y∈scope.names,y.2=.local->scope.names.lookup y.1=some .local)
  (jK:∀y∈X.N,scope.names.lookup y≠some .local) (jI:∀p∈scope.names,p.2=.free->Vis X.env.scope p.1/\X.env.scope.names.lookup p.1≠some .local)
  (hs:∀x,foldedSetIterable iter X.env x=pure x):PE X (.ListComp elt [⟨tg,iter,ifs,0⟩] scope pos) (qy0 nn.length wi g tt te):=by
 intro j4 s σ H Q I h;rw[eval_ListComp];obtain⟨cl,hclos,jU,hcl2⟩:=ql0 (scope:=scope) (env:=X.env) (λp hp hk=>by
  obtain⟨hv,hn⟩:=jI p hp hk;refine I.ok.has p.1 ?_;rcases hv with z|z
  ·exact absurd z hn
  ·exact z)
 refine wpAny_comprehension_free (use:=none) rfl hs hclos jA jC (thn (hi j4 s σ H _ I h) λv s1 h1=>thn h1 λitv s2 h2=>?_);obtain⟨it,fp,tn,J,H2,rfl,I2,T',st2,f2,q⟩:=h2;have hD:H2 s2.heap.objs.size=none:=I2.hok.fresh (Zd _);obtain⟨W,⟨m0,w0⟩,turn⟩:=q _ hD;refine ZU (wpAny_newFunctionEnv j8 (by intro y hy;simp at hy) (λh₁ hns₁ hsb₁=>?_) jA);dsimp only at hns₁ hsb₁ ⊢;have I3:Inv X j4 σ (upd H2 s2.heap.objs.size (.lst [])) { s2 with heap:=s2.heap.push { cls:=.type "list",dict:=none,data:=.seq ([]:List Value).toArray } }:=
  I2.laid (t':=s2.toks) (λb u e=>Zc _ e) (Zd _) ⟨ZB _,[],0,.nil,Zk _ rfl⟩
 have fpn:∀b∈fp,b≠s2.heap.objs.size:=λb hb=>by
  obtain⟨o,e,_⟩:=T'.obj 0 s2.heap st2 b hb;exact Zx (Zl e)
 have fplt:∀b∈fp,b<(s2.heap.push { cls:=.type "list",dict:=none,data:=.seq ([]:List Value).toArray }).objs.size:=λb hb=>by
  obtain⟨o,e,_⟩:=T'.obj 0 s2.heap st2 b hb;rw[Yp];exact YD (Zl e)
 have f3:∀b∈fp,FpOk X j4 (upd H2 s2.heap.objs.size (.lst [])) b:=λb hb=>⟨by rw[qa7 (fpn b hb)];exact (f2 b hb).1,(f2 b hb).2⟩;generalize k9:s2.heap.push { cls:=.type "list",dict:=none,data:=.seq ([]:List Value).toArray }=g2 at hns₁ hsb₁ I3 fplt ⊢;have keep:∀b o,g2.get? b=some o->h₁.get? b=some o:=λb o e=>(hsb₁.2 b (Zx (Zl e))).trans (Zc _ e);have J0:=qy1 (nn:=nn) (tk:=s2.toks+([]:List (Str×Value)).length) I3 (C:=g2.objs.size) rfl keep hns₁ f3 fplt jA j8 jK jU hcl2 jI;generalize hY:qc7 X scope cl g2.objs.size nn fp { s2 with heap:=g2 } (upd H2 s2.heap.objs.size (.lst []))=Y at J0;have eY:PE Y elt te:=by rw[<- hY];exact he _ _ _ _ _
 have eG:PG Y tg g:=by rw[<- hY];exact hgt _ _ _ _ _
 have eT:∀(j4:List (Addr×Obj)) (s:Shared) (σ:St) (H:Hp) (Q:Bool->Hp->Prop),Inv Y j4 σ H s->tt σ H Q->wpAny (model Y.prog Y.w) Y.A (T Y.env) (TP Y j4 σ Q) Y.xe s:=by rw[<- hY];exact htt _ _ _ _ _
 have eP:Y.prog=X.prog:=by rw[<- hY];rfl
 have eW:Y.w=X.w:=by rw[<- hY];rfl
 have eK:Y.K=X.K:=by rw[<- hY];rfl
 have eA:Y.A=X.A:=by rw[<- hY];rfl
 have eC:Y.calm=true:=by rw[<- hY];exact hc
 have eE:Y.env=compEnvC scope cl g2.objs.size X.env:=by rw[<- hY];rfl
 have eX:Y.xe=λ_ _=>False:=by rw[<- hY];rfl
 have eN:Y.N=nn++X.N:=by rw[<- hY];rfl
 have eEx:Y.ex=fp:=by rw[<- hY];rfl
 have eFs:Y.fs=frs X.stack:=by rw[<- hY];rfl
 have ePn:Y.pn=[]:=by rw[<- hY];rfl
 have fpY:∀{H':Hp},(∀b∈fp,H' b=none)->∀b∈fp,FpOk Y [] H' b:=λhn b hb=>by
  have g:=f3 b hb;refine⟨hn b hb,?_,?_,.inl (by rw[eEx];exact hb),?_,λp hp=>absurd hp (by rw[ePn];simp)⟩
  ·rw[eE];exact Zx (fplt b hb)
  ·rw[eFs];intro z;rcases ZC.mp (I3.stkSub b z) with z|z
   ·exact g.2.1 z
   ·exact g.2.2.1 z
  ·rw[eE];exact λy c e=>g.2.2.2.2.1 y c (jU y c e)
 have loop:∀s₃:Shared,s₃={ s2 with heap:=h₁,toks:=s2.toks+([]:List (Str×Value)).length } ->
   codeAny (model X.prog X.w) X.A (.compLoop (.ListComp elt [⟨tg,iter,ifs,0⟩] scope pos) 0 (.ref it) (.ref s2.heap.objs.size) (compEnvC scope cl g2.objs.size X.env))
    (compPost (model X.prog X.w) X.A X.xe none (EP X j4 σ Q) (.ref s2.heap.objs.size) g2.objs.size) s₃:=by
  rintro s₃ rfl;refine qK8 (T (compEnvC scope cl g2.objs.size X.env)) (hturn _ _ _) (λn s'=>∃i xs H' os,os.length=nn.length/\Inv Y [] (os++σ) H' s'/\tn i s'.heap/\(∀b∈fp,H' b=none)/\W i n xs H') ?_ m0
   ⟨0,[],_,nn.map λ_=>none,by simp,J0,T'.keep 0 _ _ st2 (λb hb o e=>keep b o (by rw[<- k9];exact Zc _ e)),λb hb=>(f3 b hb).1,w0⟩
  rintro n s3 ⟨i,xs,H3,os,vP,I4,st3,fr3,w3⟩;obtain⟨hDx,wT,alt⟩:=turn i n xs H3 w3;rcases alt with ⟨stop,qn⟩|⟨go,step⟩
  ·have D1:=T'.done Y eP eW eK eC i [] s3 _ H3 (λ_ _=>False) I4 (fpY fr3) st3 stop;rw[eA] at D1;refine thn D1 λr s4 ⟨hr,I5⟩=>?_;subst hr;obtain⟨m4,kH,_⟩:=id I5.loc;rw[eE] at kH;refine⟨m4,kH,λh' sb=>⟨.ref _,H3,?_,rfl,qn⟩⟩;rw[<- hY] at I5;exact qK9 I3 rfl f3 I5 sb
  ·have G1:=T'.item Y eP eW eK eC i [] s3 _ H3 (λ_ _=>False) I4 (fpY fr3) st3 go;rw[eA] at G1;refine thn G1 λr s4 ⟨u,hr,h4⟩=>?_;subst hr;refine thn h4 λ_ s5 ⟨y,H5,I5,r5,y5,st5,fr5⟩=>?_;have I5':=I5.pinned (fpY fr5) (T'.obj _ _ st5);have S1:=eG _ s5 _ H5 y u _ I5' r5 (hloc2 y os σ H5 _ vP (step y _ y5 os vP));rw[eP,eW,eA,eE,eX] at S1;refine thn S1 λ_ s6 ⟨σ6,H6,I6,⟨os6,hos6,e6⟩,q6⟩=>?_;subst e6;have S2:=eT _ s6 _ _ _ I6 q6;rw[eP,eW,eA,eE,eX] at S2;refine thn S2 λok s7 ⟨H7,I7,q7⟩=>?_;have back:∀{s9:Shared}{H9:Hp}{m':Nat}{zs:List V},Inv Y ([]++qA8 fp s5.heap) (os6++σ) H9 s9->m'<n->W (i+1) m' zs H9->∃m,m<n/\∃i xs H' os,os.length=nn.length/\Inv Y [] (os++σ) H' s9/\tn i s9.heap/\(∀b∈fp,H' b=none)/\W i m xs H':=λ{s9 H9 m' zs} I9 hm' w9=>by
    have pin:∀b∈fp,∀ob,s5.heap.get? b=some ob->s9.heap.get? b=some ob/\H9 b=none:=λb hb ob e=>by
     have z:=I9.pin (b,ob) (ZN _ (ZN _ (qj4 hb e)));exact⟨z.1,z.2.1⟩
    refine⟨m',hm',i+1,zs,H9,os6,hos6,I9.unpinned,T'.keep _ _ _ st5 (λb hb ob e=>(pin b hb ob e).1),λb hb=>?_,w9⟩;obtain⟨ob,e,_⟩:=T'.obj _ _ st5 b hb;exact (pin b hb ob e).2
   cases ok with
   |true=>
    rw[Zt rfl] at q7;rw[Zt rfl];have S3:=eY _ s7 _ _ _ I7 q7;rw[eP,eW,eA,eE,eX] at S3;refine thn S3 λxv s8 ⟨v8,H8,I8,r8,hD8,m',hm',w8⟩=>?_;have S4:=qe4 (X:=Y) _ s8 _ H8 (.ref s2.heap.objs.size) [v8] (.ref s2.heap.objs.size) [xv] (λ_ H9=>H9=upd H8 s2.heap.objs.size (.lst (xs++[v8]))) I8 rfl (.cons r8 .nil) ⟨_,xs,v8,rfl,rfl,hD8,wT,rfl⟩;rw[eP,eW,eA,eX] at S4;refine thn S4 λ_ s9 ⟨v9,H9,I9,_,e9⟩=>?_;subst e9;exact back I9 hm' w8
   |false=>
    rw[Zm ZD] at q7;rw[Zm ZD];obtain⟨m',hm',w8⟩:=q7;exact back I7 hm' w8
 exact codeAny_compStart_list (loop _ rfl) (T'.self _ 0 _ _ _ (T'.keep 0 _ _ st2 (λb hb o e=>keep b o (by rw[<- k9];exact Zc _ e))) (loop _ rfl))
theorem qp5 {scope sc:Scope}{N:List Str}(wE:X.N=N) (w4:X.env.scope=sc)
  (j8:scope.names.all (λy=>y.2 != .cell)=true) (jC:scope.names.all (λy=>y.2 != .local||scope.names.lookup y.1==some .local)=true) (jK:N.all (λy=>scope.names.lookup y != some .local)=true)
  (jI:scope.names.all (λp=>p.2 != .free||(sc.names.lookup p.1==some .cell||sc.names.lookup p.1==some .free))=true) :
  (∀y∈scope.names,y.2≠.cell)/\(∀y∈scope.names,y.2=.local->scope.names.lookup y.1=some .local)/\(∀y∈X.N,scope.names.lookup y≠some .local)/\(∀p∈scope.names,p.2=.free->Vis X.env.scope p.1/\X.env.scope.names.lookup p.1≠some .local):=by
 refine⟨λy hy=>?_,λy hy hl=>?_,λy hy=>?_,λp hp hk=>?_⟩
 ·have:=Ym.mp j8 y hy;simpa using this
 ·have:=Ym.mp jC y hy;simpa [hl] using this
 ·have:=Ym.mp jK y (by rw[<- wE];exact hy);simpa using this
 ·have:=Ym.mp jI p hp;rw[hk] at this;have z:sc.names.lookup p.1=some .cell\/sc.names.lookup p.1=some .free:=by simpa using this
  rw[w4];refine⟨.inr z,λq=>?_⟩;rcases z with z|z<;>(rw[z] at q;cases q)
theorem loc1 {y:V}{os σ:St}{H:Hp}{R:St->Hp->Prop}(ho:os.length=1) (h:qg8 0 y (os++σ) H R):qg8 0 y (os++σ) H λσ' H'=>(∃os':St,os'.length=1/\σ'=os'++σ)/\R σ' H':=by
 match os,ho with
 |[o],_=>exact⟨⟨[some y],rfl,rfl⟩,h⟩
theorem loc2 {K:PySem.W.Frag}{y:V}{os σ:St}{H:Hp}{R:St->Hp->Prop}(ho:os.length=2) (h:gTup K 2 (qD5 (qg8 0) (qD5 (qg8 1) gNil)) y (os++σ) H R) :
  gTup K 2 (qD5 (qg8 0) (qD5 (qg8 1) gNil)) y (os++σ) H λσ' H'=>(∃os':St,os'.length=2/\σ'=os'++σ)/\R σ' H':=by
 match os,ho with
 |[o1,o2],_=>
  obtain⟨a,xs,e1,e2,e3,v,r,e4,v2,r2,e5,e6,q⟩:=h;exact⟨a,xs,e1,e2,e3,v,r,e4,v2,r2,e5,e6,⟨[some v,some v2],rfl,rfl⟩,q⟩
theorem qL0 {x:Str}{px pos:Pos}{elt iter c:Expr}{scope:Scope}{wi:TI}{tt:TT}{te:TE}(N:List Str) (sc:Scope) (wE:X.N=N) (w4:X.env.scope=sc) (hc:X.calm=true) (hN:X.N.Nodup) (hi:PI X (.Name x px) iter wi)
  (ht:∀cl C fp s₀ H₀,PT (qc7 X scope cl C [x] fp s₀ H₀) c tt) (he:∀cl C fp s₀ H₀,PE (qc7 X scope cl C [x] fp s₀ H₀) elt te)
  (jA:scope.kind=.function:=by rfl) (j8:scope.names.all (λy=>y.2 != .cell)=true:=by decide +kernel) (jC:scope.names.all (λy=>y.2 != .local||scope.names.lookup y.1==some .local)=true:=by decide +kernel)
  (hx:scope.names.lookup x=some .local:=by rfl) (jK:N.all (λy=>scope.names.lookup y != some .local)=true:=by decide +kernel)
  (jI:scope.names.all (λp=>p.2 != .free||(sc.names.lookup p.1==some .cell||sc.names.lookup p.1==some .free))=true:=by decide +kernel)
  (hs:∀x,foldedSetIterable iter X.env x=pure x:=by intro _;rfl):PE X (.ListComp elt [⟨.Name x px,iter,[c],0⟩] scope pos) (qy0 1 wi (qg8 0) tt te):=by
 obtain⟨s1,s2,s3,s4⟩:=qp5 wE w4 j8 jC jK jI;refine qE7 (nn:=[x]) (λenv=>isTrue c env (eval c env)) hc hi (λit acc env=>xl6 elt _ iter c scope pos it acc env) (λcl C fp s₀ H₀=>?_) (λy os σ H R ho h=>loc1 ho h) (λcl C fp s₀ H₀ j4 s σ H Q I h=>ht cl C fp s₀ H₀ j4 s σ H Q I h) he jA s1 s2 s3 s4 hs;have l:(qc7 X scope cl C [x] fp s₀ H₀).env.scope.names.lookup x=some .local:=Xn hx;exact qr7 (i:=0) (YJ.mpr ⟨λz=>s3 x z hx,hN⟩) rfl (.inl l) (.inr l)
theorem xJ5 {x y:Str}{p1 p2 tpos:Pos}{k:Nat}{scope:Scope}{cl:List (Str×Addr)}{C:Addr}{fp:List Addr}{s₀:Shared}{H₀:Hp}(hc:X.calm=true) (hN:X.N.Nodup) (hxy:x≠y) (s3:∀z∈X.N,scope.names.lookup z≠some .local) (hx:scope.names.lookup x=some .local) (hy:scope.names.lookup y=some .local) :
  PG (qc7 X scope cl C [x,y] fp s₀ H₀) (.Tuple [.Name x p1,.Name y p2] k tpos) (gTup X.K 2 (qD5 (qg8 0) (qD5 (qg8 1) gNil))):=by
 have lx:(qc7 X scope cl C [x,y] fp s₀ H₀).env.scope.names.lookup x=some .local:=Xn hx;have ly:(qc7 X scope cl C [x,y] fp s₀ H₀).env.scope.names.lookup y=some .local:=Xn hy;have nd:(qc7 X scope cl C [x,y] fp s₀ H₀).N.Nodup:=YJ.mpr ⟨λz=>by
  rcases ZC.mp z with z|z
  ·exact hxy z
  ·exact s3 x z hx,YJ.mpr ⟨λz=>s3 y z hy,hN⟩⟩
 exact qo5 (X:=qc7 X scope cl C [x,y] fp s₀ H₀) hc (qb8 (qr7 (i:=0) nd rfl (.inl lx) (.inr lx)) (qb8 (qr7 (i:=1) nd rfl (.inl ly) (.inr ly)) qj7))
def qR7:TT:=λ_ H Q=>Q true H
theorem qV5 {x y:Str}{p1 p2 tpos pos:Pos}{k:Nat}{elt iter:Expr}{scope:Scope}{wi:TI}{te:TE}(N:List Str) (sc:Scope) (wE:X.N=N) (w4:X.env.scope=sc) (hc:X.calm=true) (hN:X.N.Nodup) (hi:PI X (.Tuple [.Name x p1,.Name y p2] k tpos) iter wi)
  (he:∀cl C fp s₀ H₀,PE (qc7 X scope cl C [x,y] fp s₀ H₀) elt te) (hxy:x≠y:=by decide)
  (jA:scope.kind=.function:=by rfl) (j8:scope.names.all (λy=>y.2 != .cell)=true:=by decide +kernel) (jC:scope.names.all (λy=>y.2 != .local||scope.names.lookup y.1==some .local)=true:=by decide +kernel)
  (hx:scope.names.lookup x=some .local:=by rfl) (hy:scope.names.lookup y=some .local:=by rfl) (jK:N.all (λy=>scope.names.lookup y != some .local)=true:=by decide +kernel)
  (jI:scope.names.all (λp=>p.2 != .free||(sc.names.lookup p.1==some .cell||sc.names.lookup p.1==some .free))=true:=by decide +kernel)
  (hs:∀x,foldedSetIterable iter X.env x=pure x:=by intro _;rfl):PE X (.ListComp elt [⟨.Tuple [.Name x p1,.Name y p2] k tpos,iter,[],0⟩] scope pos) (qy0 2 wi (gTup X.K 2 (qD5 (qg8 0) (qD5 (qg8 1) gNil))) qR7 te):=by
 obtain⟨s1,s2,s3,s4⟩:=qp5 wE w4 j8 jC jK jI;exact qE7 (nn:=[x,y]) (λ_=>pure true) hc hi (λit acc env=>qR6 elt _ iter scope pos it acc env) (λcl C fp s₀ H₀=>xJ5 hc hN hxy s3 hx hy) (λy os σ H R ho h=>loc2 ho h) (λcl C fp s₀ H₀ j4 s σ H Q I h=>Zf ⟨H,I,h⟩) he jA s1 s2 s3 s4 hs
end
end L2
namespace L2
open PySem PySem.Spec PyProof.Rows PySem.W PySem.Builtin PySem.Builtin.ObjectAttr PySem.Builtin.Getset_descriptor
section
variable {prog:Program}{w:World}{A:Around}{E:Value->Shared->Prop}{s:Shared}{K:Frag}{x C:Addr}
def ExcAt (x C:Addr) (h:Heap):Prop:=∃ox vs,h.get? x=some ox/\ox.cls=.ref C/\ox.data=.fields vs/\vs[2]?=some .none
theorem ExcAt.type {M:Model}{h:Heap}(I:ExcAt x C h):Looks M h (typeOf (.ref x)) (.ref C):=by
 obtain⟨ox,_,h1,h2,_⟩:=I;have z:=(Looks.ld (M:=M) (part:=none) h1).andThen (f:=λo=>pure o.cls) (Looks.now (a:=ox.cls));rw[h2] at z;exact z
theorem xw6 {tp:Value}{R:Result->Shared->Prop}(X:K.In s.heap) (I:ExcAt x C s.heap) (hm:mroIn K C (.type "object")=some true) (h:R (.ok (.ret (.ref C))) s) :
  codeAny (model prog w) A (.call (.builtin "getset_descriptor.__get__") ⟨[.builtin "object.__class__",.ref x,tp],[]⟩) R s:=by
 obtain⟨h1,g1,d1,t1,o1⟩:=s;have Lt:=I.type (M:=model prog w);have Lm:=looks_mroIn (M:=model prog w) X hm;refine WI KF.slot_gs.plain KF.entry_gs ?_;refine KF.slot_gs.check _ _ _ _ _ _ _ _ KF.type_class (KF.args_gs _ _ _) ?_;unfold Builtin.«getset_descriptor.__get__» descrGet;rw[dga_obj];refine Za (Zf ?_);unfold descrGetter descrCheckInstance descrNameAndClass isInstance;simp only[KF.owner_class]
 repeat lk
 refine⟨Code.quiet_builtin _ (by decide +kernel),Y0 KF.entry_class ?_⟩;unfold Builtin.«object.__class__» shownTypeOf
 repeat lk
 exact h
theorem q97 {tk:Tok}{Q:Fin->Shared->Prop}(X:K.In s.heap) (I:ExcAt x C s.heap)
  (ha:findIn K (.ref C) "__class__" = some (some (.builtin "object.__class__"))) (hn:specialIn K (.builtin "object.__class__") "__get__" = some (some (.builtin "getset_descriptor.__get__"))) (htk:takesIn K (.builtin "object.__class__")=some true)
  (hm:mroIn K C (.type "object")=some true) (hc:(clsIn K C).isSome=true) (h:Q (.done (.ret (.ref C))) s):wpAny (model prog w) A (Builtin.«object.__getattribute__» ⟨[.ref x,.str "__class__" tk],[]⟩) Q E s:=by
 obtain⟨hh,g,d,t,os⟩:=s;have L0:=I.type (M:=model prog w);have L4:Looks (model prog w) hh (Builtin.ObjectAttr.find (.ref x) (.ref C) "__class__") (Builtin.ObjectAttr.Found.bind (.builtin "getset_descriptor.__get__") (.builtin "object.__class__")):=by
  have y1:=looks_findIn (M:=model prog w) X ha;have y2:Looks (model prog w) hh (Builtin.ObjectAttr.getOf (some (.builtin "object.__class__"))) (some (.builtin "getset_descriptor.__get__")):=looks_specialIn X hn;have y3:=looks_takesIn (M:=model prog w) X htk;have y4:Looks (model prog w) hh (Builtin.ObjectAttr.dataDescriptor? (some (.builtin "object.__class__")) (some (.builtin "getset_descriptor.__get__"))) (some (.builtin "getset_descriptor.__get__",.builtin "object.__class__")):=y3.andThen .now;exact y1.andThen (y2.andThen (y4.andThen (Looks.tag .now)))
 unfold Builtin.«object.__getattribute__»
 repeat (first|with_reducible refine L0.at ?_|with_reducible refine L4.at ?_|wp_step)
 refine xw6 X I hm ?_
 repeat (any_goals (first|assumption|wp_step))
theorem q98 {M:Model}{nameV:Value}{P:Unit->Shared->Prop}(X:K.In s.heap) (I:ExcAt x C s.heap) (hb:mroIn K C (.type "BaseException")=some true) (h:P () s) :
  wpAny M A (checkBuiltinCall "BaseException.__getattribute__" ⟨[.ref x,nameV],[]⟩) P E s:=by
 have hk:builtinKind "BaseException.__getattribute__" = some .slot:=by decide +kernel
 have hsplit:splitId "BaseException.__getattribute__" = some ("BaseException", "__getattribute__"):=by decide +kernel
 have hargs:=F.args_bexc_ga (.ref x) nameV;obtain⟨hh,g,d,t,os⟩:=s;have L0:=I.type (M:=M);have L3:=looks_mroIn (M:=M) X hb;simp only[checkBuiltinCall,hk,hsplit];refine Za ?_;unfold isInstance;refine Za (L0.at (L3.at ?_))
 repeat (first|assumption|wp_step)
theorem xl7 {tk:Tok}{R:Result->Shared->Prop}(X:K.In s.heap) (I:ExcAt x C s.heap)
  (ha:findIn K (.ref C) "__class__" = some (some (.builtin "object.__class__"))) (hn:specialIn K (.builtin "object.__class__") "__get__" = some (some (.builtin "getset_descriptor.__get__"))) (htk:takesIn K (.builtin "object.__class__")=some true)
  (hm:mroIn K C (.type "object")=some true) (hb:mroIn K C (.type "BaseException")=some true) (hc:(clsIn K C).isSome=true) (h:R (.ok (.ret (.ref C))) s) :
  codeAny (model prog w) A (.call (.builtin "BaseException.__getattribute__") ⟨[.ref x,.str "__class__" tk],[]⟩) R s:=
 WI F.excAttr_ValueError.ga.plain F.entry_bexc_ga (q98 X I hb (q97 X I ha hn htk hm hc h))
theorem q99 {Q:Option Value->Shared->Prop}(X:K.In s.heap) (I:ExcAt x C s.heap) (hga:findIn K (.ref C) "__getattribute__" = some (some (.builtin "BaseException.__getattribute__"))) (hgt:findIn K (.ref C) "__getattr__" = some none)
  (ha:findIn K (.ref C) "__class__" = some (some (.builtin "object.__class__"))) (hn:specialIn K (.builtin "object.__class__") "__get__" = some (some (.builtin "getset_descriptor.__get__"))) (htk:takesIn K (.builtin "object.__class__")=some true)
  (hm:mroIn K C (.type "object")=some true) (hb:mroIn K C (.type "BaseException")=some true) (hc:(clsIn K C).isSome=true) (h:Q (some (.ref C)) { s with toks:=s.toks+1 }) :
  wpAny (model prog w) A (getAttr? (.ref x) "__class__") Q E s:=by
 have go:=λ(A':Around) (R:Result->Shared->Prop) (tk:Tok)=>xl7 (prog:=prog) (w:=w) (A:=A') (R:=R) (s:={ s with toks:=s.toks+1 }) (tk:=tk) X I ha hn htk hm hb hc;obtain⟨hh,g,d,t,os⟩:=s;have L0:=I.type (M:=model prog w);have L1:=looks_findIn (M:=model prog w) X hga;have L2:=looks_findIn (M:=model prog w) X hgt;have f3:=F.excAttr_ValueError.ga.bind (.ref x);have kW:(Value.builtin "BaseException.__getattribute__" == Value.builtin "object.__getattribute__")=false:=by decide +kernel
 have hx1:(onTheHeap (Value.ref C)&&Value.builtin "BaseException.__getattribute__" == Value.builtin "object.__getattribute__")=false:=by rw[kW];rfl
 unfold getAttr? getAttrBy? getAttrBy;refine Za (wpAny_mkText (Za (Wc (Yu (Za (L0.at (Za (L1.at ?_))))))));dsimp only;rw[Zm (by rw[hx1];exact ZD)];unfold getAttrByItsOwn
 repeat (any_goals (first|assumption|with_reducible refine L0.at ?_|with_reducible refine L2.at ?_|wp_step))
 refine go _ _ _ ?_
 repeat (any_goals (first|assumption|wp_step))
structure ExcCls (K:Frag) (C:Addr):Prop where
 hga:findIn K (.ref C) "__getattribute__" = some (some (.builtin "BaseException.__getattribute__"))
 hgt:findIn K (.ref C) "__getattr__" = some none
 ha:findIn K (.ref C) "__class__" = some (some (.builtin "object.__class__"))
 hn:specialIn K (.builtin "object.__class__") "__get__" = some (some (.builtin "getset_descriptor.__get__"))
 htk:takesIn K (.builtin "object.__class__")=some true
 hm:mroIn K C (.type "object")=some true
 hb:mroIn K C (.type "BaseException")=some true
 hc:(clsIn K C).isSome=true
theorem qV6 (T:ExcCls K C):KitX K (.ref x) (.ref C) (ExcAt x C) where
 ty:=λ_ _ _ I=>I.type
 it:=λ_ _ X _=>by
  have hc:=T.hc;unfold clsIn at hc;split at hc
  ·rename_i c' d' cd' sl' ho;intro A1 Q1 E1 s1 kp q1;unfold isType loadHead;refine Za (wpAny_loadPart (kp _ _ (X _ _ ho)) ?_);exact Zf q1
  ·cases hc
 ne:=λh tp dd its n sl X kN=>by
  have hc:=T.hc;refine YE.mpr λq=>?_;have e:C=tp:=Value.ref.inj (XB.mp q);subst e;unfold clsIn at hc;split at hc
  ·rename_i c' d' cd' sl' ho;have z:=(X _ _ ho).symm.trans kN;cases z
  ·cases hc
 ca:=λX I k=>q99 X I T.hga T.hgt T.ha T.hn T.htk T.hm T.hb T.hc k
end
end L2
namespace L2
open PySem PySem.Spec PyProof.Rows PySem.W
section
variable {K:Frag}{h:Heap}{C:Addr}{bmB:List Value}{newId:String}
theorem xD2 (X:K.In h) (q:excIn K C bmB newId=true):∃bm N nm qn bs hd sn sub ab col dd k0 k1 k2 k3 k5 mN,
  h.get? C=some (excClassObj nm qn C N bs bm hd sn sub ab col dd k0 k1 k2 k3 k5 newId)/\h.Ns N mN/\mN "__init__" = none/\OwnTail h bmB bm:=by
 unfold excIn at q;split at q
 ·rename_i dd cd sl ho;split at q
  ·rename_i C1 tl j0 j1 j2 j3 nn j5 e1 e2;simp only[YN,XB,Bool.not_eq_true'] at q;obtain⟨⟨⟨⟨⟨z1,z2⟩,z3⟩,z4⟩,z5⟩,z6⟩:=q;subst z1 z2;obtain⟨a1,a2,a3,a4,a5,a6,a7,a8,a9,a10,a11⟩:=cd;dsimp only at e1 z3 z5 z6;subst e1 z3;obtain⟨l⟩:=sl;have e3:l=[j0,j1,j2,j3,some (.builtin nn),j5]:=e2;subst e3;have n1:=isNs_of_in X z5;exact⟨tl,a4,a1,a5,a2,a6,a7,a8,a9,a10,dd,j0,j1,j2,j3,j5,_,X _ _ ho,.of_isNs n1,nsMap_none_of_in X z5 z6,tail_of_in X z4⟩
  ·cases q
 ·cases q
end
abbrev bmV:List Value:=[.type "ValueError",.type "Exception",.type "BaseException",.type "object"]
section
variable {X:Cx}{x:Str}{C:Addr}{E:XK}{e₀:Expr}{rest:List Expr}{t:TA}{np cpos pos:Pos}
def xD3 (cls:Value) (E:XK) (t:TA):TS:=λ_ σ H=>t σ H λvs H1=>vs.length<=sizeLine/\E cls none H1
theorem qE8 (hg:Gl X x) (hm:X.mg x=some (.ref C)) (hx:excIn X.K C bmV "ValueError.__new__" = true) (hc:X.calm=true) (hr:xr3 X E) (ha:PA X (e₀::rest) t) (hd:(x==("__debug__" : Str))=false:=by decide)
  (he:starEach (e₀::rest) X.env=(false,eval e₀ X.env)::starEach rest X.env:=by rfl) (hplain:(backTo cpos (starEach rest X.env)).any (·.1)=false:=by rfl) :
  PS X (.Raise (some (.Call (.Name x np) (e₀::rest) [] cpos)) none pos) (xD3 (.ref C) E t):=by
 intro j4 s σ H D I h;obtain⟨bm,N,nm,qn,bs,wB,sn,sub,ab,col,dd,k0,k1,k2,k3,k5,mN,hC,hN,hni,T⟩:=xD2 I.ok.mod.kin hx;refine wpAny_Raise_call_subU (C:=C) (nm:=nm) (q:=qn) (N:=N) (bs:=bs) (bm:=bm) (hdct:=wB) (sn:=sn) (sub:=sub) (ab:=ab) (col:=col) (dd:=dd) (k0:=k0) (k1:=k1) (k2:=k2) (k3:=k3) (k5:=k5) (mN:=mN)
  F.excBase_ValueError (by decide) F.excBase_ValueError (T.hasType F.excBase_ValueError.hasBase) (I.ok.hd hc) (by rw[he];show (false||(backTo cpos (starEach rest X.env)).any (·.1))=false;rw[hplain];rfl) hni (qr6 I hg hm ⟨rfl,?_⟩ hd)
 have A1:=ha cpos j4 s σ H _ I h;rw[he] at A1 ⊢;refine Calls.evalArgs_plain (YA A1 (λus s2 ⟨vs,H1,I1,r,hz,hE⟩=>?_) λ_ _ y=>y);exact⟨rfl,by rw[<- r.length];exact hz,I1.bk _ _ hC,hN.keeps I1.bk,T.keeps I1.bk,λh' e hm'=>hr j4 σ H1 s2 h' e _ _ I1 hm' hE⟩
end
section
variable {X:Cx}{j4:List (Addr×Obj)}{σ:St}{H:Hp}{s:Shared}
def q23 (X:Cx) (j4:List (Addr×Obj)) (E:XK):Cx:={ X with
 pn:=X.pn++j4
 xe:=λe s'=>∃(x:Addr) (cls:Value) (B:Heap) (H':Hp) (σ':St),e=.ref x/\Inv X j4 σ' H' s'/\Over B X.stack x cls .none s'.heap /\
  (∀b o,X.s₀.heap.get? b=some o->b∉frs X.stack->∃ob,B.get? b=some ob)/\(∀b o,H' b=some o->∃ob,B.get? b=some ob)/\(∀p∈X.pn++j4,∃ob,B.get? p.1=some ob)/\H' x=none/\E cls none H' }
def hCx (X:Cx) (x:Addr):Cx:={ X with A:=X.A.mark (some (.ref x)),calm:=false,xe:=λ_ _=>False }
theorem Inv.toTry (I:Inv X j4 σ H s) (E:XK):Inv (q23 X j4 E) [] σ H s:=
 ⟨⟨I.ok.mod,I.ok.kind,I.ok.glob,I.ok.blt,I.ok.above,I.ok.inj,I.ok.has,I.ok.cab,I.ok.hd,I.ok.frames,I.ok.stk,I.ok.exf,I.ok.bs,I.ok.bsz,I.ok.noex,I.ok.exfs,I.ok.funs,I.ok.frf⟩,I.os,I.bare,I.base,I.loc,I.cell,I.free,I.freeC,
  λp hp=>I.pin p (by simpa [q23] using hp),I.hok,I.len⟩
theorem Inv.ofTry {E:XK}{pins':List (Addr×Obj)}(I:Inv (q23 X j4 E) pins' σ H s):Inv X j4 σ H s:=
 ⟨⟨I.ok.mod,I.ok.kind,I.ok.glob,I.ok.blt,I.ok.above,I.ok.inj,I.ok.has,I.ok.cab,I.ok.hd,I.ok.frames,I.ok.stk,I.ok.exf,I.ok.bs,I.ok.bsz,I.ok.noex,I.ok.exfs,I.ok.funs,I.ok.frf⟩,I.os,I.bare,I.base,I.loc,I.cell,I.free,I.freeC,
  λp hp=>I.pin p (YV _ hp),I.hok,I.len⟩
theorem Inv.toH (I:Inv X j4 σ H s) (x:Addr):Inv (hCx X x) j4 σ H s:=
 ⟨⟨I.ok.mod,I.ok.kind,I.ok.glob,I.ok.blt,I.ok.above,I.ok.inj,I.ok.has,I.ok.cab,λz=>Bool.noConfusion z,I.ok.frames,I.ok.stk,I.ok.exf,I.ok.bs,I.ok.bsz,I.ok.noex,I.ok.exfs,I.ok.funs,I.ok.frf⟩,I.os,I.bare,I.base,I.loc,I.cell,I.free,I.freeC,I.pin,I.hok,I.len⟩
theorem Inv.ofH {x:Addr}(hA:X.calm=true->X.A.handled=none) (I:Inv (hCx X x) j4 σ H s):Inv X j4 σ H s:=
 ⟨⟨I.ok.mod,I.ok.kind,I.ok.glob,I.ok.blt,I.ok.above,I.ok.inj,I.ok.has,I.ok.cab,hA,I.ok.frames,I.ok.stk,I.ok.exf,I.ok.bs,I.ok.bsz,I.ok.noex,I.ok.exfs,I.ok.funs,I.ok.frf⟩,I.os,I.bare,I.base,I.loc,I.cell,I.free,I.freeC,I.pin,I.hok,I.len⟩
theorem xa0 {E:XK}(vD:X.ex=[]):qt4 (CX1 X.prog X.w) (q23 X j4 E) E:=by
 intro pins' σ H s e s' I h;obtain⟨x,cls,H',rfl,ho,hb,⟨B,U,HK,FW,c1,c2,hx⟩,hE⟩:=h;have I':Inv (q23 X j4 E) pins' σ H' s':=I.call' ho U HK hb (λb z=>absurd z (by simp));have nof:∀b,b≠X.env.locals->b∉X.fs->b∉frs X.stack:=λb h1 h2 h3=>by
  rcases ZC.mp (I.ofTry.stkSub b h3) with z|z
  ·exact h1 z
  ·exact h2 z
 refine⟨x,cls,B,H',σ,rfl,I'.ofTry,FW,λb o z hb=>?_,c2,λp hp=>?_,hx,hE⟩
 ·obtain⟨o',z'⟩:=I.ofTry.base.there b o z (by rw[vD];simp);exact c1 b o' z' hb
 ·obtain⟨z1,_,z3,z4,_⟩:=I.ofTry.pin p hp;exact c1 p.1 p.2 z1 (nof p.1 z3 z4)
theorem Inv.refly {B h2:Heap}{tk:Nat}(I:Inv X j4 σ H s) (vD:X.ex=[]) (F1:B.StaysIn s.heap) (F2:B.StaysIn h2) (sm:s.heap.UpToSlots h2)
  (c0:∀b o,X.s₀.heap.get? b=some o->b∉frs X.stack->∃ob,B.get? b=some ob) (c2:∀b o,H b=some o->∃ob,B.get? b=some ob) (cp:∀p∈X.pn++j4,∃ob,B.get? p.1=some ob):Inv X j4 σ H { s with heap:=h2,toks:=tk }:=by
 have same:∀b ob o,B.get? b=some ob->s.heap.get? b=some o->h2.get? b=some o:=λb ob o e1 e2=>by
  have q1:=F1 b ob e1;have q2:=F2 b ob e1;rw[e2] at q1;cases q1;exact q2
 have cellk:∀c v,s.heap.IsCell c v->h2.IsCell c v:=λc v ⟨o,e,d⟩=>by
  obtain⟨sl,q⟩:=sm c o e (λvs z=>by rw[d] at z;cases z);exact⟨_,q,d⟩
 have frame:∀b∈frs X.stack,∀o,s.heap.get? b=some o->∃sl,h2.get? b=some { o with slots:=sl }:=λb hb o e=>by
  obtain⟨_,o',e',d⟩:=I.stack.mem hb;rw[e] at e';cases e';exact sm b o e d
 have sub:∀b,b∈X.fs->b∈frs X.stack:=λb hb=>by
  rcases I.ok.stk with z|⟨z,_⟩
  ·rw[z];exact hb
  ·rw[z];show b∈(X.env::X.outer).filterMap (·.frame);rw[ZV];split
   ·exact hb
   ·exact Ze _ hb
 have nl:∀b o,X.s₀.heap.get? b=some o->b≠X.env.locals:=λb o e=>Zx (ZQ (Zl e) I.ok.above);have nst:∀b o,X.s₀.heap.get? b=some o->b∉X.fs->b∉frs X.stack:=λb o e h2 h3=>by
  rcases ZC.mp (I.stkSub b h3) with z|z
  ·exact nl b o e z
  ·exact h2 z
 have nox:∀b:Addr,b∉X.ex:=λb=>by rw[vD];simp
 refine⟨I.ok,I.os,I.bare,⟨λb o e n hb hx=>?_,λb o e n hb hx=>?_,I.base.free,λb o e hx=>?_,I.base.tups,I.base.frzs,I.base.tbls⟩,?_,λy c e=>?_,I.free,I.freeC,λp hp=>?_,λb o e=>?_,I.len⟩
 ·obtain⟨ob,z⟩:=c0 b o e (nst b o e hb);exact same b ob o z (I.base.keep b o e n hb hx)
 ·obtain⟨sl,q⟩:=I.base.slot b o e n hb hx;obtain⟨sl2,q2⟩:=frame b (sub b hb) _ q;exact⟨sl2,q2⟩
 ·obtain⟨o',q⟩:=I.base.there b o e hx;by_cases hb:b∈frs X.stack
  ·obtain⟨sl,q2⟩:=frame b hb o' q;exact⟨_,q2⟩
  ·obtain⟨ob,z⟩:=c0 b o e hb;exact⟨ob,F2 b ob z⟩
 ·obtain⟨m,hn,hl⟩:=I.loc;refine⟨m,sm.ns hn,λi y v h1 h2 h3=>?_⟩;obtain⟨u,r,l⟩:=hl i y v h1 h2 h3;refine⟨u,r,?_⟩;rcases l with l|⟨k,c,e,z⟩
  ·exact .inl l
  ·exact .inr ⟨k,c,e,cellk c _ z⟩
 ·obtain⟨v,z⟩:=I.cell y c e;exact⟨v,cellk c v z⟩
 ·obtain⟨z1,z2,z3,z4,z5⟩:=I.pin p hp;obtain⟨ob,z⟩:=cp p hp;exact⟨same p.1 ob p.2 z z1,z2,z3,z4,z5⟩
 ·refine (I.hok b o e).stay (λc u hc q=>?_) (λ_ q=>q) λ_ _ q=>q;rcases hc with z|z
  ·obtain⟨ob,zz⟩:=c2 b o e;rw[z] at q ⊢;exact same b ob u zz q
  ·obtain⟨ob,zz⟩:=c2 c _ z;exact same c ob u zz q
theorem Inv.caught {x C:Addr}{B:Heap}(I:Inv X j4 σ H s) (kP:X.stack=X.env::X.outer) (jI:X.env.frame=some X.env.locals) (hx:H x=none) (FW:Over B X.stack x (.ref C) .none s.heap)
  (c0:∀b o,X.s₀.heap.get? b=some o->b∉frs X.stack->∃ob,B.get? b=some ob) (cp:∀p∈X.pn++j4,∃ob,B.get? p.1=some ob):Inv X j4 σ (upd H x (.ext (ExcAt x C))) s:=by
 obtain⟨fB,fx,fF,oe,vs,T,oT,ts,he,hcls,hd,_,hv2,_⟩:=FW;have nfr:x∉frs X.stack:=λhm=>by
  obtain⟨_,o,e,d⟩:=fF.mem hm;rw[he] at e;cases e;exact d vs hd
 have nl:X.env.locals≠x:=λz=>nfr (by
  rw[kP];show x∈(X.env::X.outer).filterMap (·.frame);rw[ZV,jI,z];exact Zh)
 have ns₀:∀b o,X.s₀.heap.get? b=some o->b≠x:=λb o e z=>by
  subst z;obtain⟨ob,q⟩:=c0 b o e nfr;rw[fx] at q;cases q
 refine⟨I.ok,I.os,I.bare,⟨I.base.keep,I.base.slot,λb o e n hx'=>?_,I.base.there,λb xs e=>?_,λb o u e=>?_,λb ps e=>?_⟩,I.loc,I.cell,?_,λy c e=>?_,λp hp=>?_,λb o e=>?_,I.len⟩
 ·rw[qa7 (ns₀ b o e)];exact I.base.free b o e n hx'
 ·have z:=I.base.tups b xs e;rw[qa7 (qa4 z hx)];exact z
 ·have z:=I.base.frzs b o u e;rw[qa7 (qa4 z hx)];exact z
 ·obtain⟨m,z⟩:=I.base.tbls b ps e;exact⟨m,by rw[qa7 (qa4 z hx)];exact z⟩
 ·rw[qa7 nl];exact I.free
 ·rw[qa7 (λz=>?_)]
  ·exact I.freeC y c e
  ·obtain⟨v,o,q,d⟩:=I.cell y c e;rw[z,he] at q;cases q;rw[hd] at d;cases d
 ·obtain⟨z1,z2,z3⟩:=I.pin p hp;obtain⟨ob,q⟩:=cp p hp;refine⟨z1,?_,z3⟩;rw[qa7 (λz=>by rw[z,fx] at q;cases q)];exact z2
 ·by_cases hb:b=x
  ·subst hb;rw[qa1] at e;cases e;refine⟨⟨oe,vs,he,hcls,hd,hv2⟩,⟨oe,he⟩,λh1 h2 ⟨ox,vs',q1,q2⟩ k=>⟨ox,vs',k ox q1,q2⟩⟩
  ·rw[qa7 hb] at e;exact (I.hok b o e).stay (λc u _ q=>q) (λc q=>by rw[qa7 (qa4 q hx)];exact q) λc xs q=>by rw[qa7 (qa4 q hx)];exact q
theorem xw7 {h:Heap}{a:Addr}{m m':Str->Option Value}(x:h.Ns a m) (y:h.Ns a m'):m=m':=by
 obtain⟨o,es,ep,e1,e2,_,e3⟩:=x;obtain⟨o',es',ep',f1,f2,_,f3⟩:=y;rw[e1] at f1;cases f1;rw[e2] at f2;cases f2;funext n;rw[<- e3 n,f3 n]
theorem Inv.unbound {i:Nat}{n:Str}{h':Heap}{m:Str->Option Value}{v:Option Value}{tk:Nat}(I:Inv X j4 σ H s) (hN:X.N.Nodup) (hi:X.N[i]?=some n) (hm:s.heap.Ns X.env.locals m) (hn:h'.Ns X.env.locals (λy=>if y=n then v else m y)) (sb:Heap.SameBut X.env.locals s.heap h') :
  Inv X j4 (σ.set i none) H { s with heap:=h',toks:=tk }:=by
 have ns₀:∀b o,X.s₀.heap.get? b=some o->b≠X.env.locals:=λb o e=>Zx (ZQ (Zl e) I.ok.above);have tr:∀b o,H b=some o->b≠X.env.locals:=λb o e z=>by rw[z,I.free] at e;cases e
 refine⟨I.ok,I.os,I.bare,⟨λb o e a c d=>(sb.2 b (ns₀ b o e)).trans (I.base.keep b o e a c d),λb o e a c d=>?_,I.base.free,λb o e d=>?_,I.base.tups,I.base.frzs,I.base.tbls⟩,?_,λy c e=>?_,I.free,I.freeC,λp hp=>?_,λb o e=>?_,by simpa using I.len⟩
 ·obtain⟨sl,q⟩:=I.base.slot b o e a c d;exact⟨sl,(sb.2 b (ns₀ b o e)).trans q⟩
 ·obtain⟨o',q⟩:=I.base.there b o e d;exact⟨o',(sb.2 b (ns₀ b o e)).trans q⟩
 ·obtain⟨m',hm',hl⟩:=I.loc;refine⟨_,hn,λj y w e1 e2 e3=>?_⟩;have hj:j≠i:=λz=>by
   subst z;rw[Wp (by rw[I.len];exact (gS_ hi).1)] at e2;cases e2
  rw[WH (Z0 hj)] at e2;obtain⟨u,r,l⟩:=hl j y w e1 e2 e3;refine⟨u,r,?_⟩;have ny:y≠n:=λz=>hj (qD4 hN e1 (z▸hi));rcases l with ⟨k,e⟩|⟨k,c,e,z⟩
  ·refine .inl ⟨k,?_⟩;show (if y=n then v else m y)=some u;rw[Zm ny,xw7 hm hm'];exact e
  ·exact .inr ⟨k,c,e,z.sameBut sb (I.cne y c e)⟩
 ·obtain⟨w,z⟩:=I.cell y c e;exact⟨w,z.sameBut sb (I.cne y c e)⟩
 ·obtain⟨z1,z2,z3,z4⟩:=I.pin p hp;exact⟨(sb.2 p.1 z3).trans z1,z2,z3,z4⟩
 ·refine (I.hok b o e).stay (λc u hc q=>(sb.2 c ?_).trans q) (λ_ q=>q) λ_ _ q=>q;rcases hc with z|z
  ·rw[z];exact tr b o e
  ·exact tr c _ z
def eTry (X:Cx) (F:Value) (i:Nat) (th:Addr->TS) (D:Ends):XK:=λcls _ H'=>∃C,cls=.ref C/\exmOne X.K cls F=some true/\∀x,H' x=none ->
 th x { nx:=λσ H=>D.nx (σ.set i none) H,rt:=D.rt,bk:=λσ H=>D.bk (σ.set i none) H,ct:=λσ H=>D.ct (σ.set i none) H } ((List.replicate X.N.length none).set i (some (.ref x))) (upd H' x (.ext (ExcAt x C)))
def tTry (X:Cx) (F:Value) (i:Nat) (tb:XK->TS) (th:Addr->TS):TS:=λD σ H=>tb (eTry X F i th D) D σ H
theorem xr5 {body:List Stmt}{b₀:Stmt}{suite:List Stmt}{cn n:Str}{np hpos pos:Pos}{FA:Addr}{i:Nat}{tb:XK->TS}{th:Addr->TS}(vD:X.ex=[]) (kP:X.stack=X.env::X.outer) (jI:X.env.frame=some X.env.locals)
  (hN:X.N.Nodup) (hi:X.N[i]?=some n) (hl:X.env.scope.names.lookup n=some .local) (hg:Gl X cn) (hm:X.mg cn=some (.ref FA)) (hb:∀j4 E,PSs (q23 X j4 E) body (tb E)) (hh:∀x,PSs (hCx X x) (b₀::suite) (th x))
  (hd:(cn==("__debug__" : Str))=false:=by decide):PS X (.Try body [.ExceptHandler (some (.Name cn np)) (some n) (b₀::suite) hpos] [] [] pos) (tTry X (.ref FA) i tb th):=by
 intro j4 s σ H D I h;have hcls:(X.env.scope.kind==.class||(X.env.scope.kind==.module&&X.env.locals != X.env.globals))=false:=by rw[I.ok.kind];rfl
 refine wpAny_Try_except ?_;refine YA (hb j4 _ [] s σ H D (I.toTry _) h) (λf s1 hs=>?_) (λe s1 hx=>?_)
 ·cases f with
  |next=>
   obtain⟨σ',H',I',q⟩:=hs;exact WM ⟨σ',H',I'.ofTry,q⟩
  |brk=>
   obtain⟨σ',H',I',q⟩:=hs;exact⟨σ',H',I'.ofTry,q⟩
  |cont=>
   obtain⟨σ',H',I',q⟩:=hs;exact⟨σ',H',I'.ofTry,q⟩
  |ret u=>
   obtain⟨v,σ',H',I',r,q⟩:=hs;exact⟨v,σ',H',I'.ofTry,r,q⟩
 ·obtain⟨x,cls,B,H',σ',rfl,I',FW,c0,c2,cp,hxn,C,rfl,hex1,hth⟩:=hx;have FW':=FW;rw[kP] at FW';have fr':X.A.frames=some (X.env::X.outer):=by rw[<- kP];exact I.ok.frames
  refine qK6 fr' jI FW' λh4 held sm4=>?_;refine qm2 held λh5 fl5 sm5=>?_;have I5:Inv X j4 σ' H' { s1 with heap:=h5 }:=I'.refly (tk:=s1.toks) vD FW.stays fl5.stays (sm4.trans sm5) c0 c2 cp;obtain⟨ob,wvs,_,_,_,ho,hoc,wQ,_,hov,_⟩:=id fl5.noted;refine wpAny_handleBy_cons (codeAny_handlers_test ?_) (by intro q;cases q);refine qr6 (X:=hCx X x) (I5.toH x) hg hm ?_ hd;have LT:Looks (model X.prog X.w) h5 (typeOf (.ref x)) (.ref C):=ExcAt.type ⟨ob,wvs,ho,hoc,wQ,hov⟩;refine (exm_one (M:=model X.prog X.w) I5.kIn LT hex1).here ?_;refine codeAny_handlers_suite_as ?_;refine qm2 fl5 λh6 fl6 sm6=>?_;have I6:Inv X j4 σ' H' { s1 with heap:=h6 }:=I5.refly (tk:=s1.toks) vD fl5.stays fl6.stays sm6 c0 c2 cp;have I6':Inv X j4 σ' (upd H' x (.ext (ExcAt x C))) { s1 with heap:=h6 }:=I6.caught kP jI hxn (by rw[kP];exact fl6) c0 cp;have I6w:Inv X j4 (List.replicate X.N.length none) (upd H' x (.ext (ExcAt x C))) { s1 with heap:=h6 }:=I6'.weak (by rw[XO,I6'.len]) (λj v e=>by
   rw[Xy] at e;split at e<;>cases e)
  refine qu7 (X:=hCx X x) (v:=.ref x) (I6w.toH x) hN hi (.inl hl) rfl (λs7 I7=>?_) (.inr hl);refine YA (hh x j4 s7 _ _ _ I7 (hth x hxn)) (λf s8 hs8=>?_) λ_ _ z=>z.elim;have fin:∀{σ8:St}{H8:Hp},Inv (hCx X x) j4 σ8 H8 s8->∀{P:Unit->Shared->Prop}{E':Value->Shared->Prop},(∀s9,Inv X j4 (σ8.set i none) H8 s9->P () s9) ->
    wpAny (model X.prog X.w) X.A (do bindName X.env n .none;unbindBehindTheSuite X.env n hpos) P E' s8:=λ{σ8 H8} I8 {P E'} k=>by
   obtain⟨m,hn,_⟩:=id I8.loc;refine wpAny_nameGoes_keeps hl hn hcls λh9 v hn9 sb9=>k _ ?_;exact (I8.ofH I.ok.hd).unbound hN hi hn hn9 sb9
  cases f with
  |next=>
   obtain⟨σ8,H8,I8,q⟩:=hs8;exact fin I8 λs9 I9=>⟨_,H8,I9,q⟩
  |brk=>
   obtain⟨σ8,H8,I8,q⟩:=hs8;exact fin I8 λs9 I9=>⟨_,H8,I9,q⟩
  |cont=>
   obtain⟨σ8,H8,I8,q⟩:=hs8;exact fin I8 λs9 I9=>⟨_,H8,I9,q⟩
  |ret u=>
   obtain⟨v,σ8,H8,I8,r,q⟩:=hs8;exact fin I8 λs9 I9=>⟨v,_,H8,I9,r,q⟩
end
theorem qE9:entryFor table "proto.unchain" = some Builtin.«proto.unchain»:=entryFor_of_tree (by kernel_rfl)
section
variable {prog:Program}{w:World}{A:Around}{E:Value->Shared->Prop}{s:Shared}{x C e:Addr}
theorem xa1 {α:Type}{Q:α->Shared->Prop}{oe:Obj}{vs:Array Value}(hh:A.handled=some (.ref x)) (hx:ExcAt x C s.heap) (ne:x≠e) (he:s.heap.get? e=some oe) (hd:oe.data=.fields vs) (hs:2<vs.size)
  (hQ:E (.ref e) { s with heap:=s.heap.update e (Obj.mapFields (·.setIfInBounds 2 (.ref x))) }):wpAny (model prog w) A (raiseNew (.ref e):Sem α) Q E s:=by
 obtain⟨ox,xs,x1,x2,x3,x4⟩:=hx;unfold raiseNew;refine Za (wpAny_handled ?_);rw[hh];dsimp only;rw[Zt (by simp[ne])];refine Za (Yu (wpAny_runValue (Y0 qE9 ?_)));unfold Builtin.«proto.unchain»;refine Za (Z4 x1 x3 x4 ?_);rw[Zt (by rfl)]
 first
  |refine Za (Zf (Zf ?_))
  |refine Zf ?_
 dsimp only;show wpAny _ _ (setField (.ref e) 2 (.ref x) >>= λ_=>throw (.ref e)) _ _ _;exact Za (YW he hd hs (wpAny_throw hQ))
theorem xl8 {α:Type}{Q:α->Shared->Prop}(hh:A.handled=some (.ref x)) (hx:ExcAt x C s.heap)
  (hQ:∀h' e,(∀b o,s.heap.get? b=some o->h'.get? b=some o)->(∃o,h'.get? e=some o/\o.cls=.type "StopIteration")->E (.ref e) { s with heap:=h' }):wpAny (model prog w) A (newExc (.type "StopIteration") [] >>= λe=>(raiseNew e:Sem α)) Q E s:=by
 refine Za ?_;simp only[newExc,newTuple];refine Za (ZU ?_ (by size_fits));refine Za (m:=firstArgMember _ _) (wpAny_of_eq (a:=Value.none) (by first|rfl|(simp only[firstArgMember];rfl)) ?_);refine ZU ?_ (by size_fits);obtain⟨ox,xs,x1,x2,x3,x4⟩:=id hx;have k1:∀(o1 o2:Obj) b o,s.heap.get? b=some o->((s.heap.push o1).push o2).get? b=some o:=λo1 o2 b o q=>Zc _ (Zc _ q);have nx:x≠(s.heap.push { cls:=.type "tuple",dict:=none,data:=.seq ([]:List Value).toArray }).objs.size:=by
  rw[Yp];exact Zx (YD (Zl x1))
 refine xa1 (C:=C) hh ⟨ox,xs,k1 _ _ _ _ x1,x2,x3,x4⟩ nx (Zk _ rfl) rfl (by simp[Array.size_append];lia) (hQ _ _ (λb o q=>?_) ⟨_,YG _ (Zk _ rfl) (Xc (Yr rfl _)),Ws _ _⟩);refine (ZK _ _ (λz=>?_)).trans (k1 _ _ b o q);have z1:=Zl q;rw[<- z,Yp] at z1;exact Yk _ (Xk (Z2 _) z1)
theorem qF0 {it l:Addr}{i:Nat}{items:Array Value}{Q:Option Value->Shared->Prop}(hh:A.handled=some (.ref x)) (hx:ExcAt x C s.heap) (jE:it≠x) (hit:s.heap.IsListIter it l i) (hl:s.heap.IsList l items) (hi:items[i]?=none)
  (hQ:∀h',(∀b o,b≠it->s.heap.get? b=some o->h'.get? b=some o)->Q none { s with heap:=h' }):wpAny (model prog w) A (pyNext (.ref it)) Q E s:=by
 obtain⟨o,ho,hc,hd⟩:=id hit;obtain⟨ol,hol,_,nl,hdl⟩:=hl;obtain⟨ox,xs,x1,x2,x3,x4⟩:=id hx;unfold pyNext;refine Za (Wc (ZX (name:=Str.ofString "__next__") hit.typeIs slot_listiter_next ?_));refine YM slot_listiter_next hit.typeIs entry_listiter_next ?_ (args_listiter_next _);show wpAny _ _ (field (.ref it) 0 >>= _) _ _ s;refine Za (Z4 ho hd (x:=.ref l) rfl ?_);show wpAny _ _ (if (Value.ref l==Value.none)=true then _ else _) _ _ s;rw[Zm (show ¬((Value.ref l==Value.none)=true) from λz=>Bool.noConfusion z)];show wpAny _ _ (field (.ref it) 1 >>= _) _ _ s;refine Za (Z4 ho hd (x:=.int i 0) rfl ?_);show wpAny _ _ (seqItems? (.ref l) >>= _) _ _ s;refine Za (W4 hol hdl ?_);simp only[Z5,hi];refine Za (wpAny_rule (Za (YW ho hd (by simp) ?_)));show wpAny _ _ (newExc (.type "StopIteration") [] >>= λe=>raiseNew e) _ _ _;refine xl8 (A:=A.in1) (x:=x) (C:=C) hh ⟨ox,xs,(ZK _ _ jE).trans x1,x2,x3,x4⟩ λh' e k1 k2=>?_;refine Za (wpAny_isInstance (T:= "StopIteration") (b:=true) k2 isSubtype_stop ?_);exact Zf (hQ _ λb ob nb q=>k1 b ob ((ZK _ _ (Z0 nb)).trans q))
end
end L2
namespace L2
open PySem PySem.Spec PyProof.Rows
def xa2 (CX:CXT) (P:Program) (w:World) (K:PySem.W.Frag) (mg:Str->Option Value) (base:Heap) (N:List Str) (qual:Str) (scope:Scope) (f:Addr) (cd:Value) (A:Around) (outer:List Env) (s:Shared) (H:Hp) (E:XK):Cx:=
 { cxOf CX P w K mg base N qual scope f cd A outer s H E with calm:=false,xe:=λ_ _=>False }
theorem q24 {CX:CXT}{P:Program}{w:World}{K:PySem.W.Frag}{mg:Str->Option Value}{base:Heap}{N ps:List Str}{qual:Str}{scope:Scope}{f:Addr}{cd:Value}{A:Around}{outer:List Env}{s s1:Shared}{H:Hp}{E:XK}{us:List Value}{vs:List V}
  (S:FnScope N ps scope) (e0:Env0 P w K mg base A outer s H) (hl:vs.length=ps.length) (r:Vals vs us)
  (x:InCallC s s.heap.objs.size (bindL (envOfC qual scope s.heap.objs.size f cd).kindOf (ps.zip us) λ_=>none) (cellsFrom (s.heap.objs.size+1) scope.names []) (bindC (envOfC qual scope s.heap.objs.size f cd).kindOf (ps.zip us) λ_=>none) s1) :
  Inv (xa2 CX P w K mg base N qual scope f cd A outer s H E) [] (start N vs) H s1:=by
 have jF:ps.length<=N.length:=by have:=Yi List.length S.pre;rw[ZS] at this;lia
 obtain⟨h1,tk,rfl,hk⟩:=x.done;have noA:∀b:Addr,b∉(xa2 CX P w K mg base N qual scope f cd A outer s H E).ex:=λb z=>absurd (show b∈([]:List Addr) from z) (by simp);refine⟨⟨e0.mod,S.kind,rfl,rfl,Zd _,λy z c h1 h2=>?_,λy hy=>?_,λy c _ h=>?_,λz=>Bool.noConfusion z,Around.frames_deeper e0.frames,.inr ⟨rfl,rfl⟩,λb z=>absurd z (noA b),e0.bs,e0.bsz,λb _ _=>noA b,λb z=>absurd z (noA b),e0.funs,e0.frf⟩,
  rfl,e0.bare,Un.kept hk,⟨_,x.toInCall.ns,λi y v h1 h2 h3=>?_⟩,λy c h=>⟨_,x.cell y c h⟩,e0.hok.fresh (Zd _),λy c h=>?_,λp hp=>absurd (show p∈([]:List (Addr×Obj)) from hp) (by simp),e0.hok.kept hk,?_⟩
 ·exact name_of_addr x.apart (Z9 h1) (Z9 h2)
 ·have hy:scope.names.lookup y=some .cell\/scope.names.lookup y=some .free:=hy;rcases hy with hy|hy
  ·exact qu9 hy
  ·exact absurd rfl (S.nofree _ (Z9 hy))
 ·exact ZT (x.above y c (Z9 h))
 ·have hi:i<vs.length:=by
   unfold start at h2;by_cases hi:i<vs.length
   ·exact hi
   ·rw[Zv (by simpa using hi)] at h2;rw[Xy] at h2;split at h2<;>cases h2
  have ha:vs[i]?=some v:=by
   unfold start at h2;rw[Zo (by simpa using hi),Zg] at h2;cases e:vs[i]? with
   |none=>rw[e] at h2;cases h2
   |some a=>rw[e] at h2;cases h2;rfl
  obtain⟨u,hu,rv⟩:=r.get ha;have hp:ps[i]?=some y:=by
   rw[<- S.pre,List.getElem?_take_of_lt (by lia)];exact h1
  have ndP:ps.Nodup:=by rw[<- S.pre];exact S.nd.sublist (List.take_sublist _ _)
  refine⟨u,rv,?_⟩;rcases S.par y (Zs hp) with k|k
  ·exact .inl ⟨k,qx1 ndP hp hu k⟩
  ·obtain⟨c,e⟩:=qu9 (n:=s.heap.objs.size+1) k;refine .inr ⟨.inl k,c,e,?_⟩;have q:=x.cell y c e;rw[qx2 ndP hp hu (by show scope.names.lookup y≠_;rw[k];decide)] at q;exact q
 ·exact e0.hok.fresh (ZT (x.above y c (Z9 h)))
 ·unfold start;show _=N.length;rw[Zu,Zi,XO];lia
structure RoomH (k:Nat) (x:Addr) (A:Around):Prop where
 hd:A.handled=some (.ref x)
 dp:A.depth+3*k+5<recursionLimit
 un:A.units+16*k+200<cLine
theorem Room.toH {k:Nat}{A:Around}(r:Room k A) (x:Addr):RoomH k x (A.mark (some (.ref x))):=⟨rfl,r.dp,r.un⟩
theorem RoomH.deeper {k:Nat}{x:Addr}{A:Around}(r:RoomH (k+1) x A) (env:Env):RoomH k x (A.deeper env):=
 ⟨r.hd,by have:=r.dp;show A.depth+1+3*k+5<_;lia,by have:=r.un;show A.units+3+16*k+200<_;lia⟩
theorem RoomH.depth {k:Nat}{x:Addr}{A:Around}(r:RoomH k x A):A.depth<recursionLimit:=by have:=r.dp;lia
abbrev SpH:=List V->Hp->VK->Prop
structure FnOkH (P:Program) (w:World) (K:PySem.W.Frag) (mg:Str->Option Value) (base:Heap) (k:Nat) (x:Addr) (f:Addr) (fd:FuncData) (ps:List Str) (sp:SpH):Prop where
 len:∀vs H Q,sp vs H Q->vs.length=ps.length
 run:∀(A:Around) (outer:List Env) (s:Shared) (H:Hp) (args:Args) (us:List Value) (vs:List V) (Q:VK),RoomH k x A->Env0 P w K mg base A outer s H->BindsTo s fd args (ps.zip us)->Vals vs us->sp vs H Q ->
  codeAny (model P w) A (.call (.ref f) args) (CR CX0 outer P w H s Q E0) s
theorem Fun.okH {P:Program}{w:World}{K:PySem.W.Frag}{mg:Str->Option Value}{base:Heap}{x qual:Str}{st:Stmt}{f xe:Addr}{fd:FuncData}{N ps:List Str}{k:Nat}{sp:SpH}(F:Fun K x qual st f fd) (S:FnScope N ps (qa3 st)) (len:∀vs H Q,sp vs H Q->vs.length=ps.length)
  (jY:∀(cdv:Value) (A:Around) (outer:List Env) (s:Shared) (H:Hp) (vs:List V) (Q:VK),RoomH k xe (A.deeper (envOfC qual (qa3 st) s.heap.objs.size f cdv))->sp vs H Q ->
   ∃t,PSs (xa2 CX0 P w K mg base N qual (qa3 st) f cdv A outer s H E0) (qf6 st) t/\t { nx:=λ_ H'=>Q .non H',rt:=Q } (start N vs) H):FnOkH P w K mg base (k+1) xe f fd ps sp:=by
 obtain⟨oc,od,kV,doc,pm,an,cdv,ct,osl,rfl,lk,kJ⟩:=F.ex;refine⟨len,λA outer s H args us vs Q hr e0 hb r kX=>?_⟩;have hl:=len _ _ _ kX;have KX:K.In s.heap:=e0.mod.kin.keeps λb o e=>(e0.bs b o e).1;have lim:s.heap.NoLimit:=e0.mod.nolimit.keeps λb o e=>(e0.bs b o e).1;have jA:∀y∈ps.zip us,(qa3 st).names.lookup y.1=some .local\/((qa3 st).names.lookup y.1=some .cell/\((cellsFrom (s.heap.objs.size+1) (qa3 st).names []).lookup y.1).isSome=true):=λ⟨n,v⟩ hy=>by
  rcases S.par n (WN hy).1 with q|q
  ·exact .inl q
  ·exact .inr ⟨q,Wq _ _ _ (.inl q)⟩
 refine codeAny_call_function hr.depth (KX _ _ lk) rfl S.co S.gen rfl (PySem.W.codeRec_of KX kJ) (hb _ _ _ _ ?_);refine wpAny_newFunctionEnv_cells S.kind jA λenv he s1 x=>?_;subst he;refine⟨lim.keeps x.toInCall.keep,codeAny_func ?_⟩;obtain⟨t,ht,hq⟩:=jY cdv A outer s H vs Q (hr.deeper _) kX;have I:Inv (xa2 CX0 P w K mg base N qual (qa3 st) f cdv A outer s H E0) [] (start N vs) H s1:=q24 S e0 hl r x;refine YA (ht [] s1 (start N vs) H _ I hq) (λfl s' hs=>?_) λe s' hs=>hs.elim;have fin:∀{σ':St}{H':Hp}{v:V}{u:Value},Inv (xa2 CX0 P w K mg base N qual (qa3 st) f cdv A outer s H E0) [] σ' H' s'->RelV v u->Q v H'->CE outer P w H s Q u s':=
  λ{σ' H' v u} J rv q=>⟨v,H',J.os,J.bare,J.base,J.hok,rv,q⟩
 cases fl with
 |ret u=>
  obtain⟨v,σ',H',J,rv,q⟩:=hs;exact fin J rv q
 |next=>
  obtain⟨σ',H',J,q⟩:=hs;exact fin (v:=V.non) (u:=Value.none) J rfl q
 |brk=>
  obtain⟨_,_,_,q⟩:=hs;exact False.elim q
 |cont=>
  obtain⟨_,_,_,q⟩:=hs;exact False.elim q
section
variable {X:Cx}{k:Nat}{f xe:Addr}{fd:FuncData}{ps:List Str}{sp:SpH}{x:Str}{p pos:Pos}{e:Expr}{es:List Expr}{t:TA}
def xD4 (sp:SpH) (t:TA):TE:=λσ H Q=>t σ H λvs H1=>sp vs H1 Q
theorem qV7 (F:FnOkH X.prog X.w X.K X.mg X.base k xe f fd ps sp) (hr:RoomH k xe X.A) (hg:Gl X x) (hm:X.mg x=some (.ref f)) (hk:PySem.W.keepIn X.K (.ref f)=true) (hb:Binds X.K fd ps [])
  (ha:PA X (e::es) t) (vR:(x==("__debug__" : Str))=false:=by decide) (he:starEach (e::es) X.env=(false,eval e X.env)::starEach es X.env:=by rfl) (jF:(backTo pos (starEach es X.env)).any (·.1)=false:=by rfl) :
  PE X (.Call (.Name x p) (e::es) [] pos) (xD4 sp t):=by
 intro j4 s σ H Q I h;refine XC (qr6 I hg hm ?_ vR);refine W0 (h₀:=X.base) I.ok.mod.kin hk (thn (ha pos j4 s σ H _ I h) λus s1 ⟨vs,H1,I1,r,q⟩=>⟨I1.kIn,?_⟩) he jF;have hl:us.length=ps.length:=by rw[<- r.length];exact F.len _ _ _ q
 have bt:=hb s1 us I1.kIn (by rw[Wg];exact hl);rw[Wg] at bt;refine wpAny_call (X6 (F.run X.A X.stack s1 H1 ⟨us,[]⟩ us vs Q hr I1.env0 bt r q) λrr s' hq=>?_);cases rr with
 |error e=>exact False.elim hq
 |ok fl=>
  cases fl with
  |ret u=>exact I1.after hq
  |next=>exact False.elim hq
  |brk=>exact False.elim hq
  |cont=>exact False.elim hq
end
end L2
namespace L2
open PySem PySem.Spec PyProof.Rows PySem.W
section
variable {X:Cx}
def clsV:V->Option Value
 |.ty n=>some (.type n)
 |.ref a=>some (.ref a)
 |_=>none
theorem xw8 {c:V}{u cv:Value}(r:RelV c u) (e:clsV c=some cv):u=cv:=by
 cases c with
 |ty n=>cases e;exact r
 |ref a=>cases e;exact r
 |_=>cases e
def ExcT (K:Frag) (H:Hp) (x:V) (t:Value):Prop:=∃a C,x=.ref a/\H a=some (.ext (ExcAt a C))/\ExcCls K C/\t=.ref C
theorem qd6:qg3 X (.builtin "isinstance") (λxs H Q=>∃x c t cv b,xs=[x,c]/\clsV c=some cv/\(TyOf X.K H x t\/ExcT X.K H x t)/\kitOne X.K t cv=some b/\Q (.bl b) H):=by
 intro j4 s σ H xs us Q I r h;obtain⟨x,c,t,cv,b,rfl,hc,ht,hk,q⟩:=h;obtain⟨u,u',rfl,rx,rc⟩:=xk4 r;cases xw8 rc hc;rcases ht with ty|⟨a,C,rfl,e,T,rfl⟩
 ·exact q67 I rx ty hk λtk=>⟨.bl b,H,I.tok _,rfl,q⟩
 ·cases (show u=Value.ref a from rx);have p:ExcAt a C s.heap:=(I.hok a _ e).1;exact kia_one (qV6 T) I.kIn p hk (λz=>nomatch z) λtk=>⟨.bl b,H,I.tok _,rfl,q⟩
theorem Walks.listC {prog:Program}{w:World}{A:Around}{x C:Addr}(hh:A.handled=some (.ref x)) (I ax:Addr) (n1:ax≠I) (n2:I≠x) (items:Array Value) :
  Walks prog w A I [I,ax,x] [I] items.size (λi v=>items[i]?=some v) (λi h=>h.IsListIter I ax i/\h.IsList ax items/\ExcAt x C h) where
 sub:=λb hb=>by simp at hb;simp[hb]
 frame:=λi h h' st hk=>⟨st.1.at λo e=>hk I (by simp) o e,st.2.1.at λo e=>hk ax (by simp) o e,by
  obtain⟨ox,vs,x1,x2⟩:=st.2.2;exact⟨ox,vs,hk x (by simp) ox x1,x2⟩⟩
 item:=λi s Q E hi st hQ=>by
  refine wpAny_pyNext_list_item st.1 st.2.1 (x:=items[i]) (by simp[hi]) λh' it' sb=>?_;refine hQ _ h' s.toks (by simp[hi]) ⟨it',st.2.1.at λo e=>(sb.2 ax n1).trans e,?_⟩ λb o hb e=>(sb.2 b (λz=>hb (by simp[z]))).trans e;obtain⟨ox,vs,x1,x2⟩:=st.2.2;exact⟨ox,vs,(sb.2 x (Z0 n2)).trans x1,x2⟩
 done:=λs Q E st hQ=>qF0 hh st.2.2 n2 st.1 st.2.1 (by simp) λh' k=>hQ h' s.toks λb o hb e=>k b o (λz=>hb (by simp[z])) e
 self:=λi s Q E st hQ=>wpAny_pyIter_listiter st.1 hQ
def xa3 (bs:List Bool):Int:=(bs.map λb=>if b=true then (1:Int) else 0).sum
theorem qL1 (bs:List Bool):∀n,n<=bs.length->preSum (λi=>if bs.getD i false=true then 1 else 0) n=xa3 (bs.take n):=by
 intro n
 induction n with
 |zero=>intro _;simp[preSum,xa3]
 |succ n ih=>
  intro h;have hn:n<bs.length:=h;rw[preSum,ih (ZT hn),List.take_succ_eq_append_getElem hn];unfold xa3;rw[ZR,List.sum_append];simp[List.getD,hn]
theorem qL2 {j4:List (Addr×Obj)}{σ:St}{H:Hp}{s s':Shared}{o₁:Obj}{wr:List Addr}(I:Inv X j4 σ H s) (mv:Moved wr (λa b=>b=a) { s with heap:=s.heap.push o₁ } s') (hn:∀b o,s.heap.get? b=some o->b∈wr->False):Inv X j4 σ H s':=by
 obtain⟨h',g',d',t',os'⟩:=s';obtain⟨m1,m2,m3,m4,m5⟩:=mv;cases (show g'=s.gens from m2);cases (show d'=s.drawn from m3);cases (show os'=s.os from m4);exact I.kept (h':=h') (t':=t') λb o e=>m1 b o (λz=>hn b o e z) (Zc _ e)
theorem xa4:qg3 X (.builtin "sum") (λxs H Q=>∃(p:Addr) (bs:List Bool) (x C:Addr),xs=[.ref p]/\H p=some (.lst (bs.map V.bl))/\X.A.handled=some (.ref x)/\H x=some (.ext (ExcAt x C))/\Q (.int (xa3 bs)) H):=by
 intro j4 s σ H xs us Q I r h;obtain⟨p,bs,x,C,rfl,hp,hh,hx,q⟩:=h;obtain⟨u,rfl,rx⟩:=qi3 r;cases rx;obtain⟨z,its,n,rv,hl⟩:=I.hok p _ hp;have hx':ExcAt x C s.heap:=(I.hok x _ hx).1;have isl:s.heap.IsList p its.toArray:=⟨_,hl,rfl,_,rfl⟩;have j6:its.length=bs.length:=by have:=rv.length;simpa using this.symm
 refine call_sum_walkAnyB (XS isl ?_);have nx:s.heap.objs.size≠x:=XZ (by obtain⟨ox,_,x1,_⟩:=hx';exact Zl x1);have np:p≠s.heap.objs.size:=Zx (Zl hl);refine⟨s.heap.objs.size,_,_,_,_,_,_,λi=>if bs.getD i false=true then 1 else 0,rfl,(Walks.listC (A:=X.A.in1) (C:=C) hh s.heap.objs.size p np nx its.toArray).toS,
  ⟨⟨_,Zk _ rfl,rfl,rfl⟩,isl.at λo e=>Zc _ e,?_⟩,?_,?_,?_⟩
 ·obtain⟨ox,vs,x1,x2⟩:=hx';exact⟨ox,vs,Zc _ x1,x2⟩
 ·intro b hb;have l1:s.heap.objs.size<(s.heap.push { cls:=.type "list_iterator",data:=.fields #[.ref p,.int 0 0] }).objs.size:=by rw[Yp];exact Z2 _
  rcases ZC.mp hb with rfl|hb
  ·exact l1
  rcases ZC.mp hb with rfl|hb
  ·exact Xk (Zl hl) l1
  ·have:b=x:=by simpa using hb
   subst this;obtain⟨ox,_,x1,_⟩:=hx';exact Xk (Zl x1) l1
 ·intro i v hv;have hv':its[i]?=some v:=by simpa using hv
  have hi:i<bs.length:=by rw[<- j6];exact (gS_ hv').1
  obtain⟨w',e1,e2⟩:=rv.get (x:=V.bl (bs[i])) (i:=i) (by simp[hi]);rw[hv'] at e1;cases e1;refine .inr ⟨bs[i],e2,?_⟩;simp[List.getD,hi]
 ·intro s' t' mv;have es:its.toArray.size=bs.length:=by simpa using j6
  refine⟨.int (xa3 bs),H,qL2 I mv λb o e hb=>?_,⟨t',?_⟩,q⟩
  ·have:b=s.heap.objs.size:=by simpa using hb
   exact Yk _ (by rw[this] at e;exact Zl e)
  ·rw[es,qL1 bs _ (Zd _),YT]
theorem ql3 (hc:X.calm=true):qg3 X (.builtin "all") (λxs H Q=>∃(p:Addr) (bs:List Bool),xs=[.ref p]/\H p=some (.lst (bs.map V.bl))/\Q (.bl (bs.all id)) H):=by
 intro j4 s σ H xs us Q I r h;obtain⟨p,bs,rfl,hp,q⟩:=h;obtain⟨u,rfl,rx⟩:=qi3 r;cases rx;obtain⟨z,its,n,rv,hl⟩:=I.hok p _ hp;have isl:s.heap.IsList p its.toArray:=⟨_,hl,rfl,_,rfl⟩;have j6:its.length=bs.length:=by have:=rv.length;simpa using this.symm
 have np:p≠s.heap.objs.size:=Zx (Zl hl);refine call_all_walk (XS isl ?_);refine⟨s.heap.objs.size,_,_,_,_,_,λi=>bs.getD i true,rfl,Walks.list (A:=X.A.in1) (I.ok.hd hc) s.heap.objs.size p np its.toArray,⟨⟨_,Zk _ rfl,rfl,rfl⟩,isl.at λo e=>Zc _ e⟩,?_,?_⟩
 ·intro i v s' Q' E' hv hq;have hv':its[i]?=some v:=by simpa using hv
  have hi:i<bs.length:=by rw[<- j6];exact (gS_ hv').1
  obtain⟨w',e1,e2⟩:=rv.get (x:=V.bl (bs[i])) (i:=i) (by simp[hi]);rw[hv'] at e1;cases e1;cases (show v=Value.bool bs[i] from e2);have eg:bs.getD i true=bs[i]:=by simp[List.getD,hi]
  dsimp only at hq;rw[eg] at hq;exact YQ hq
 ·intro h' tk k;refine⟨.bl (bs.all id),H,I.kept (h':=h') (t':=tk) (λb o e=>k b o (λz=>?_) (Zc _ e)),?_,q⟩
  ·have:b=s.heap.objs.size:=by simpa using z
   exact Yk _ (by rw[this] at e;exact Zl e)
  ·have es:its.toArray.size=bs.length:=by simpa using j6
   rw[es];show Value.bool _=Value.bool _;congr 1;rw[YI,Ym,Ym];constructor
   ·intro z b hb;obtain⟨i,hi,e⟩:=ZJ.mp hb;have:=z i (ZW.mpr hi);simpa [List.getD,hi,e] using this
   ·intro z i hi;have hi':=ZW.mp hi;have:=z bs[i] (YO hi');simpa [List.getD,hi'] using this
theorem xa5:∀{ys:List Str}{us:List Value},Vals (ys.map V.str) us->StrsAre us ys
 |[],_,.nil=>.nil
 |y::ys,_,.cons r t=>by
  obtain⟨tk,rfl⟩:=r;exact .cons y tk (xa5 t)
theorem xa6:MtR X "str.join" (λx xs H Q=>∃(sep:Str) (p:Addr) (ys:List Str),x=.str sep/\xs=[.ref p]/\H p=some (.lst (ys.map V.str))/\(ys.map (·.length)).sum+ys.length*sep.length<=16777216/\Q (.str (Txt.join sep ys)) H):=by
 intro j4 s σ H x xs v us Q I rx rv h;obtain⟨sep,p,ys,rfl,rfl,hp,hz,q⟩:=h;obtain⟨t,rfl⟩:=rx;obtain⟨u,rfl,ru⟩:=rv.one;cases ru;obtain⟨z,its,n,r2,hl⟩:=I.hok p _ hp;exact join_list (D:=p) (items:=its.toArray) ⟨_,hl,rfl,_,rfl⟩ (by simpa using xa5 r2) hz λt' k=>⟨.str _,H,I.tok _,⟨_,rfl⟩,q⟩
theorem qL3:qg3 X (.type "int") (λxs H Q=>∃z n,xs=[.str z]/\PySem.intText? z=some n/\z.length<=640/\Q (.int n) H):=by
 intro j4 s σ H xs us Q I r h;obtain⟨z,n,rfl,hn,hz,q⟩:=h;obtain⟨u,rfl,t,rfl⟩:=qi3 r;exact KIN.call_text hn hz ⟨.int n,H,I.tok _,⟨_,rfl⟩,q⟩
theorem qL4 (hc:X.calm=true):qg3 X (.builtin "any") (λxs H Q=>∃(p:Addr) (bs:List Bool),xs=[.ref p]/\H p=some (.lst (bs.map V.bl))/\Q (.bl (bs.any id)) H):=by
 intro j4 s σ H xs us Q I r h;obtain⟨p,bs,rfl,hp,q⟩:=h;obtain⟨u,rfl,rx⟩:=qi3 r;cases rx;obtain⟨z,its,n,rv,hl⟩:=I.hok p _ hp;have isl:s.heap.IsList p its.toArray:=⟨_,hl,rfl,_,rfl⟩;have j6:its.length=bs.length:=by have:=rv.length;simpa using this.symm
 have np:p≠s.heap.objs.size:=Zx (Zl hl);refine call_any_walk (XS isl ?_);refine⟨s.heap.objs.size,_,_,_,_,_,λi=>bs.getD i true,rfl,Walks.list (A:=X.A.in1) (I.ok.hd hc) s.heap.objs.size p np its.toArray,⟨⟨_,Zk _ rfl,rfl,rfl⟩,isl.at λo e=>Zc _ e⟩,?_,?_⟩
 ·intro i v s' Q' E' hv hq;have hv':its[i]?=some v:=by simpa using hv
  have hi:i<bs.length:=by rw[<- j6];exact (gS_ hv').1
  obtain⟨w',e1,e2⟩:=rv.get (x:=V.bl (bs[i])) (i:=i) (by simp[hi]);rw[hv'] at e1;cases e1;cases (show v=Value.bool bs[i] from e2);have eg:bs.getD i true=bs[i]:=by simp[List.getD,hi]
  dsimp only at hq;rw[eg] at hq;exact YQ hq
 ·intro h' tk k;refine⟨.bl (bs.any id),H,I.kept (h':=h') (t':=tk) (λb o e=>k b o (λz=>?_) (Zc _ e)),?_,q⟩
  ·have:b=s.heap.objs.size:=by simpa using z
   exact Yk _ (by rw[this] at e;exact Zl e)
  ·have es:its.toArray.size=bs.length:=by simpa using j6
   rw[es];show Value.bool _=Value.bool _;congr 1;rw[YI,Yb,Yb];constructor
   ·rintro⟨i,hi,e⟩;have hi':=ZW.mp hi;refine⟨bs[i],YO hi',?_⟩;simpa [List.getD,hi'] using e
   ·rintro⟨b,hb,e⟩;obtain⟨i,hi,e2⟩:=ZJ.mp hb;refine⟨i,ZW.mpr hi,?_⟩;have:bs.getD i true=bs[i]:=by simp[List.getD,hi]
    rw[this,e2];exact e
def best (ns:List Int):Nat->Int
 |0=>ns.getD 0 0
 |k+1=>if ns.getD (k+1) 0>best ns k then ns.getD (k+1) 0 else best ns k
theorem qV8 (ns:List Int):∀k,ns.getD (argBest (λi j=>decide (ns.getD i 0>ns.getD j 0)) k) 0=best ns k/\argBest (λi j=>decide (ns.getD i 0>ns.getD j 0)) k<=k
 |0=>⟨rfl,Zd _⟩
 |k+1=>by
  obtain⟨h1,h2⟩:=qV8 ns k;unfold argBest best;rw[<- h1];by_cases hc:ns.getD (k+1) 0>ns.getD (argBest (λi j=>decide (ns.getD i 0>ns.getD j 0)) k) 0
  ·rw[Zt (Zj hc),Zt hc];exact⟨rfl,Zd _⟩
  ·rw[Zm (by simpa using hc),Zm hc];exact⟨rfl,Nat.le_succ_of_le h2⟩
theorem xa7 (hc:X.calm=true):qg3 X (.builtin "max") (λxs H Q=>∃(p:Addr) (ns:List Int),xs=[.ref p]/\H p=some (.lst (ns.map V.int))/\ns≠[]/\Q (.int (best ns (ns.length-1))) H):=by
 intro j4 s σ H xs us Q I r h;obtain⟨p,ns,rfl,hp,jE,q⟩:=h;obtain⟨u,rfl,rx⟩:=qi3 r;cases rx;obtain⟨z,its,n,rv,hl⟩:=I.hok p _ hp;have isl:s.heap.IsList p its.toArray:=⟨_,hl,rfl,_,rfl⟩;have j6:its.length=ns.length:=by have:=rv.length;simpa using this.symm
 have np:p≠s.heap.objs.size:=Zx (Zl hl);have es:its.toArray.size=ns.length:=by simpa using j6
 have pos:0<ns.length:=WU.mpr jE;have item:∀(i:Nat) (v:Value),its.toArray[i]?=some v->∃t,v=.int (ns.getD i 0) t:=λi v hv=>by
  have hv':its[i]?=some v:=by simpa using hv
  have hi:i<ns.length:=by rw[<- j6];exact (gS_ hv').1
  obtain⟨w',e1,t,e2⟩:=rv.get (x:=V.int (ns[i])) (i:=i) (by simp[hi]);rw[hv'] at e1;cases e1;exact⟨t,by rw[e2];simp[List.getD,hi]⟩
 refine call_max_walkS (XS isl ?_);refine⟨s.heap.objs.size,_,_,_,_,_,_,λi j=>decide (ns.getD i 0>ns.getD j 0),rfl,(Walks.list (A:=X.A.in1) (I.ok.hd hc) s.heap.objs.size p np its.toArray).toS,⟨⟨_,Zk _ rfl,rfl,rfl⟩,isl.at λo e=>Zc _ e⟩,?_,by rw[es];exact pos,?_,?_⟩
 ·intro b hb;rw[Yp];rcases ZC.mp hb with rfl|hb
  ·exact Z2 _
  ·have:b=p:=by simpa using hb
   subst this;exact YD (Zl hl)
 ·intro i j vi vj s' Q' E' hi hj hq;obtain⟨t,rfl⟩:=item i vi hi;obtain⟨t',rfl⟩:=item j vj hj;exact gt_int hq
 ·intro v s' hv mv;rw[es] at hv;obtain⟨t,rfl⟩:=item _ v hv;rw[(qV8 ns (ns.length-1)).1];refine⟨.int _,H,qL2 I mv (λb o e hb=>?_),⟨t,rfl⟩,q⟩;have:b=s.heap.objs.size:=by simpa using hb
  exact Yk _ (by rw[this] at e;exact Zl e)
theorem xJ6 {P:Program}{w:World}{k:Key}{v:Value}(h:(qd5 P w).is k v=true):RelV (kV k) v:=by
 rcases qd4 (show qQ2 k v=true from h) with ⟨i,t,rfl,rfl⟩|⟨x,t,rfl,rfl⟩
 ·exact⟨t,rfl⟩
 ·exact⟨t,rfl⟩
theorem qF1:∀{xs:List V}{us:List Value},xs.length=us.length->(∀(i:Nat) x v,xs[i]?=some x->us[i]?=some v->RelV x v)->Vals xs us
 |[],[],_,_=>.nil
 |[],_::_,h,_=>by simp at h
 |_::_,[],h,_=>by simp at h
 |x::xs,u::us,h,f=>.cons (f 0 x u rfl rfl) (qF1 (by simpa using h) λi y v hy hv=>f (i+1) y v (by simpa using hy) (by simpa using hv))
theorem q25 (hc:X.calm=true):qg3 X (.type "list") (λxs H Q=>∃(d:Addr) (kvs:List (Key×V)),xs=[.ref d]/\H d=some (.dK kvs)/\∀l,H l=none->Q (.ref l) (upd H l (.lst (kvs.map λkv=>kV kv.1)))):=by
 intro j4 s σ H xs us Q I r h;obtain⟨d,kvs,rfl,hd,q⟩:=h;obtain⟨u,rfl,ru⟩:=qi3 r;cases ru;obtain⟨z,lo,vs,rel,dd⟩:=xv6 I.hok hd;obtain⟨ep,y8⟩:=dd.dictAt;have hl:=rel.length;refine kdl_call (kdl_dict (knd:=qd5 X.prog X.w) (kvs:=vs) (ep:=ep) lo) (I.ok.hd hc) y8 (by rw[<- hl];exact z) λh' tk acc c kp ho jM=>?_;refine⟨.ref s.heap.objs.size,_,I.laid (a:=s.heap.objs.size) (o:=.lst (kvs.map λkv=>kV kv.1)) (t':=tk) kp (Zd _) ⟨by simpa using z,acc.toList,c,?_,by simpa using ho⟩,rfl,q _ I.fresh⟩;refine qF1 (by simp[hl,jM.1]) λi x v hx hv=>?_;rw[Zg] at hx;obtain⟨kv,hkv,rfl⟩:=Zr.mp hx;obtain⟨k,y,hk,his⟩:=jM.2 i v (by simpa using hv);have e1:vs[i]?=some (k,y):=hk;have e2:kv.1=k:=by
  have z1:(kvs.map (·.1))[i]?=some kv.1:=by rw[Zg,hkv];rfl
  have z2:(vs.map (·.1))[i]?=some k:=by rw[Zg,e1];rfl
  rw[rel.keys] at z1;rw[z1] at z2;exact Zw z2
 rw[e2];exact xJ6 his
theorem qL5:qg3 X (.type "range") (λxs H Q=>∃n:Int,xs=[.int n]/\∀r,H r=none->Q (.ref r) (upd H r (.rng 0 n))):=by
 intro j4 s σ H xs us Q I r h;obtain⟨n,rfl,q⟩:=h;obtain⟨u,rfl,t,rfl⟩:=qi3 r;exact call_range_1 ⟨.ref s.heap.objs.size,_,I.laid (a:=s.heap.objs.size) (o:=.rng 0 n) (λb o e=>Zc _ e) (Zd _) ⟨_,_,_,Zk _ rfl⟩,rfl,q _ I.fresh⟩
theorem q26 (hc:X.calm=true):qg3 X (.type "list") (λxs H Q=>∃(r:Addr) (n:Nat),xs=[.ref r]/\H r=some (.rng 0 (n:Int))/\n<=1000000/\∀l,H l=none->Q (.ref l) (upd H l (.lst ((List.range n).map λ(i:Nat)=>V.int (i:Int))))):=by
 intro j4 s σ H xs us Q I rv h;obtain⟨r,n,rfl,hr,hn,q⟩:=h;obtain⟨u,rfl,ru⟩:=qi3 rv;cases ru;obtain⟨t,u,v,ho⟩:=I.hok r _ hr;refine call_list_range (a:=0) (b:=n) (c:=1) (n:=n) (I.ok.hd hc) ho (small_one (by lia) (by lia) (by lia) (by lia)) (by rw[rangeSize_one];split<;>lia) (by lia) λh' tk acc c kp ho' jM=>?_;refine⟨.ref s.heap.objs.size,_,I.laid (a:=s.heap.objs.size) (o:=.lst ((List.range n).map λ(i:Nat)=>V.int (i:Int))) (t':=tk) kp (Zd _) ⟨?_,acc.toList,c,?_,by simpa using ho'⟩,rfl,q _ I.fresh⟩
 ·rw[Zi,XV,Xj];lia
 ·refine qF1 (by simp[jM.1]) λi x v hx hv=>?_;rw[Zg] at hx;obtain⟨j,hj,rfl⟩:=Zr.mp hx;have e:j=i:=by
   obtain⟨_,e⟩:=gS_ hj;simpa using e.symm
  subst e;obtain⟨t',rfl⟩:=jM.2 j v (by simpa using hv);exact⟨t',by simp⟩
end
namespace TupMul
theorem noFill:fillsNumberSlot (.type "tuple") "mul" = pure false:=
 PySem.fillsNumberSlot_seq (id:= "tuple.__mul__") (r:=some (.builtin "tuple.__rmul__")) F.slot_tuple_mul.lookup (by decide +kernel) F.slot_tuple_rmul.lookup (by decide +kernel)
theorem rep:seqRepeat? (.type "tuple")=pure (some (.builtin "tuple.__mul__")):=by
 unfold seqRepeat?
 rw[PySem.seqSlot_of (T:= "tuple") (name:= "__mul__") (id:= "tuple.__mul__") F.slot_tuple_mul.lookup (by decide +kernel),PySem.seqSlot_of (T:= "tuple") (name:= "__rmul__") (id:= "tuple.__rmul__") F.slot_tuple_rmul.lookup (by decide +kernel)]
 rfl
theorem declines (a:Int) (t:Tok) (l:Addr) (items:Array Value) (n:Nat) (dct:Option Addr) (sl:Array (Option Value)) :
  Meets (Builtin.«int.__rmul__» ⟨[.int a t,.ref l],[]⟩) (λ_ R s=>s.heap.get? l=some { cls:=.type "tuple",dict:=dct,data:=.seq items n,slots:=sl }/\R (.ok (.ret Value.notImplemented)) s):=
 .of_wp λprog w A R s h=>by
  obtain⟨hp,g,d,tk,os⟩:=s;obtain⟨hl,h⟩:=h
  wp_walk
  exact⟨_,rfl,h⟩
theorem mul (k:Int) (t:Tok) (l:Addr) (items:Array Value) (n:Nat) (dct:Option Addr) (sl:Array (Option Value)) (h1:1<k) (h2:k<=1000) (hs:items.size=1) :
  Meets (Builtin.«tuple.__mul__» ⟨[.ref l,.int k t],[]⟩) (λ_ R s=>s.heap.get? l=some { cls:=.type "tuple",dict:=dct,data:=.seq items n,slots:=sl } /\
   R (.ok (.ret (.ref s.heap.objs.size))) { s with heap:=s.heap.push { cls:=.type "tuple",data:=.seq ((List.replicate k.toNat items).foldl (·++·) #[]) } }):=
 .of_wp λprog w A R s h=>by
  obtain⟨hp,g,d,tk,os⟩:=s;obtain⟨hl,h⟩:=h;have c1:(decide (k < -2^63)||decide (k>=2^63))=false:=by simp;lia
  have c0:items.isEmpty=false:=by
   cases he:items.isEmpty with
   |false=>rfl
   |true=>rw[Array.isEmpty_iff.mp he] at hs;cases hs
  have c2:(items.isEmpty||k==1)=false:=by rw[c0];simp;lia
  have c3:(decide (k<=0)||items.isEmpty)=false:=by rw[c0];simp;lia
  have c4:¬((items.size:Int)*k>(2^63-1)/8):=by rw[hs];lia
  have c5:Builtin.Tuple.tupleTooMany ((items.size:Int)*k)=false:=by
   rw[hs];show decide (((1:Nat):Int)*k>(sizeLine:Int))=false;rw[Xj];exact Zp (by lia)
  wp_walk
  refine XM (λz=>by rw[c1] at z;cases z) λ_=>?_
  wp_walk
  refine XM (λz=>by rw[c2] at z;cases z) λ_=>?_;refine XM (λz=>by rw[c3] at z;cases z) λ_=>?_;refine XM (λz=>absurd z c4) λ_=>?_;refine XM (λz=>by rw[c5] at z;cases z) λ_=>?_
  wp_walk
  refine XM (λz=>absurd z ?_) λ_=>?_
  ·have f:∀(m:Nat) (acc:Array Value),(List.foldl (λx1 x2=>x1++x2) acc (List.replicate m items)).size=acc.size+m:=λm=>by
    induction m with
    |zero=>intro acc;rfl
    |succ m ih=>
     intro acc;rw[Xv,Z3,ih,Array.size_append,hs];lia
   rw[f,Xj];simp;lia
  wp_walk
  exact⟨_,rfl,h⟩
end TupMul
section
variable {X:Cx}
theorem qR8:OpR X (binaryOp .Mult) (λx y H Q=>∃(l:Addr) (k:Int) (v:V),x=.ref l/\y=.int k/\H l=some (.tup [v])/\1<k/\k<=1000/\∀p,H p=none->Q (.ref p) (upd H p (.tup (List.replicate k.toNat v)))):=by
 intro j4 s σ H x y v u Q I rx ry h;obtain⟨l,k,v1,rfl,rfl,hH,h1,h2,q⟩:=h;cases rx;obtain⟨t,rfl⟩:=ry;obtain⟨_,its,r,o,ho,hc,⟨n,hdn⟩,hd⟩:=I.hok l _ hH;obtain⟨oc,od,odt,osl⟩:=o
 replace hc:oc=.type "tuple":=hc
 replace hd:odt=.seq its.toArray n:=hd
 subst hc hd;cases r with
 |cons r1 rr=>
  cases rr;rename_i u1;have hnew:List.foldl (λx1 x2=>x1++x2) #[] (List.replicate k.toNat #[u1])=(List.replicate k.toNat u1).toArray:=by
   have f:∀(m:Nat) (acc:List Value),List.foldl (λx1 x2=>x1++x2) acc.toArray (List.replicate m #[u1])=(acc++List.replicate m u1).toArray:=λm=>by
    induction m with
    |zero=>intro acc;simp
    |succ m ih=>
     intro acc;rw[Xv,Z3,show acc.toArray++#[u1]=(acc++[u1]).toArray by simp,ih];simp[Xv]
   have:=f k.toNat [];simpa using this
  refine wpAny_binaryOp_repeat_ref (T:= "tuple") (U:= "int") (by decide) ⟨_,ho,rfl⟩ (λs'=>typeIs_int s' k t) TupMul.noFill F.fills_int_mul F.slot_int_rmul TupMul.rep F.slot_int_index.lookup
   (call_meets F.slot_int_rmul (typeIs_int s k t) F.entry_int_rmul (F.args_int_rmul_2 _ _) (TupMul.declines k t l _ n od osl)
    ⟨ho,rfl,⟨_,ho,rfl⟩,call_meets F.slot_tuple_mul ⟨_,ho,rfl⟩ F.entry_tuple_mul (F.args_tuple_mul_2 _ _) (TupMul.mul k t l _ n od osl h1 h2 rfl) ⟨ho,?_⟩⟩)
  rw[hnew];refine⟨.ref _,_,I.laid (a:=s.heap.objs.size) (o:=.tup (List.replicate k.toNat v1)) (t':=s.toks) (λb o e=>Zc _ e) (Zd _) ⟨?_,List.replicate k.toNat u1,?_,_,Zk _ rfl,rfl,⟨_,rfl⟩,rfl⟩,rfl,q _ I.fresh⟩
  ·rw[XO,Xj];lia
  ·generalize k.toNat=m
   induction m with
   |zero=>exact .nil
   |succ m ih=>exact .cons r1 ih
end
end L2
namespace Qf
abbrev Row:=List Nat
def mx:List Nat->Nat
 |[]=>0
 |a::l=>max a (mx l)
theorem qR9 {x:Nat}:∀{l:List Nat},x∈l->x<=mx l
 |a::l,h=>by
  rcases ZC.mp h with rfl|h
  ·exact Vx _ _
  ·exact ZE (qR9 h) (Vn _ _)
theorem xD5 {b:Nat}:∀{l:List Nat},(∀x∈l,x<=b)->mx l<=b
 |[],_=>ZB _
 |a::l,h=>VB.mpr ⟨h a Zh,xD5 λx hx=>h x (Ze _ hx)⟩
theorem qV9 {f g:Nat->Nat}{l:List Nat}(h:∀x∈l,f x=g x):mx (l.map f)=mx (l.map g):=by
 rw[YB h]
def xl9 (p:Nat) (r:Row):Prop:=r.length=4/\∀x∈r,x<p+2
def qb7 (rows:List Row):Prop:=∀p r,rows[p]?=some r->xl9 p r
def xw9 (ds:List Nat) (r:Row):List Nat:=ds++[1+mx (r.map (ds.getD · 0))]
def deps (rows:List Row):List Nat:=rows.foldl xw9 [0,0]
def dp (rows:List Row) (x:Nat):Nat:=(deps rows).getD x 0
theorem qp6 (rows:List Row) (r:Row):deps (rows++[r])=deps rows++[1+mx (r.map (dp rows))]:=by
 unfold deps dp deps;rw[Vf]
 rfl
theorem qW0 {P:List Row->Prop}(h0:P []) (h1:∀l a,P l->P (l++[a])) (l:List Row):P l:=by
 have:∀m:List Row,P m.reverse:=λm=>by
  induction m with
  |nil=>exact h0
  |cons a m ih=>rw[List.reverse_cons];exact h1 _ _ ih
 have h:=this l.reverse
 rwa [List.reverse_reverse] at h
theorem qp7 (rows:List Row):(deps rows).length=rows.length+2:=by
 induction rows using qW0 with
 |h0=>rfl
 |h1 l a ih=>rw[qp6,Zu,ih,Zu];simp
theorem q27 {rows:List Row}{r:Row}{x:Nat}(h:x<rows.length+2):dp (rows++[r]) x=dp rows x:=by
 unfold dp;rw[qp6,ZG,ZG,Zo (by rw[qp7];exact h)]
theorem q28 {rows:List Row}{r:Row}:dp (rows++[r]) (rows.length+2)=1+mx (r.map (dp rows)):=by
 unfold dp;rw[qp6,ZG,Zv (by rw[qp7];exact Zd _),qp7];simp only[Vr,List.getElem?_cons_zero,Option.getD_some]
 rfl
theorem ql4 {rows more:List Row}{x:Nat}(h:x<rows.length+2):dp (rows++more) x=dp rows x:=by
 induction more using qW0 with
 |h0=>simp
 |h1 l a ih=>
  rw[<- YF,q27 (by simp;lia),ih]
theorem qL6 {rows:List Row}{x:Nat}(h:x<2):dp rows x=0:=by
 have:=ql4 (rows:=[]) (more:=rows) (x:=x) (by simpa using h);rw[List.nil_append] at this;rw[this]
 match x,h with
 |0,_=>rfl
 |1,_=>rfl
theorem xa8 {rows:List Row}{p:Nat}{r:Row}(hp:rows[p]?=some r):rows=rows.take p++[r]++rows.drop (p+1):=by
 have j7:=(gS_ hp).1;have he:=(gS_ hp).2;rw[<- he,Xq j7,XN]
theorem qy2 {rows:List Row}(ok:qb7 rows){p:Nat}{r:Row}(hp:rows[p]?=some r):dp rows (p+2)=1+mx (r.map (dp rows)):=by
 have j7:=(gS_ hp).1;have hl:(rows.take p).length=p:=by simp;lia
 have e:=xa8 hp;have h1:dp rows (p+2)=dp (rows.take p++[r]) (p+2):=by
  have:=ql4 (rows:=rows.take p++[r]) (more:=rows.drop (p+1)) (x:=p+2) (by simp;lia);rw[<- e] at this;exact this
 have h2:=q28 (rows:=rows.take p) (r:=r);rw[hl] at h2;rw[h1,h2];congr 1;refine qV9 λx hx=>?_;have kW:=(ok p r hp).2 x hx;have:=ql4 (rows:=rows.take p) (more:=[r]++rows.drop (p+1)) (x:=x) (by rw[hl];exact kW);rw[<- YF,<- e] at this;exact this.symm
def dfs (rows:List Row):Nat->List Nat->Nat->List Nat
 |0,e,_=>e
 |d+1,e,x=>if x<2\/x-2∈e then e else (rows.getD (x-2) []).foldl (dfs rows d) e++[x-2]
theorem qp8 {f:List Nat->Nat->List Nat}(h:∀e x,∃s,f e x=e++s):∀(l:List Nat) (e:List Nat),∃s,l.foldl f e=e++s
 |[],e=>⟨[],by simp⟩
 |a::l,e=>by
  obtain⟨s,hs⟩:=h e a;obtain⟨s',hs'⟩:=qp8 h l (f e a);exact⟨s++s',by rw[Z3,hs',hs,YF]⟩
theorem qF2 (rows:List Row):∀(d:Nat) (e:List Nat) (x:Nat),∃s,dfs rows d e x=e++s
 |0,e,x=>⟨[],by simp[dfs]⟩
 |d+1,e,x=>by
  unfold dfs;split
  ·exact⟨[],by simp⟩
  ·obtain⟨s,hs⟩:=qp8 (qF2 rows d) (rows.getD (x-2) []) e;exact⟨s++[x-2],by rw[hs,YF]⟩
structure Post (rows:List Row) (e:List Nat):Prop where
 nd:e.Nodup
 lt:∀p∈e,p<rows.length
 ch:∀(i p:Nat),e[i]?=some p->∀q∈rows.getD p [],q<2\/∃j:Nat,j<i/\e[j]?=some (q-2)
theorem qi6 (rows:List Row):Post rows []:=⟨W1,λp hp=>(nomatch hp),λi p h=>by simp at h⟩
theorem xa9 {e s:List Nat}{j a:Nat}(h:e[j]?=some a):(e++s)[j]?=some a:=by
 have:=(gS_ h).1;rw[Zo this];exact h
theorem qf8 {rows:List Row}(ok:qb7 rows):∀(d:Nat) (e:List Nat) (x:Nat),Post rows e->x<rows.length+2->dp rows x<=d->Post rows (dfs rows d e x)/\(x<2\/x-2∈dfs rows d e x)
 |0,e,x,pe,hx,hd=>by
  refine⟨pe,?_⟩;by_cases h:x<2
  ·exact .inl h
  ·exfalso;obtain⟨p,rfl⟩:∃p,x=p+2:=⟨x-2,by lia⟩;have hp:rows[p]?=some (rows[p]'(by lia)):=by simp[show p<rows.length by lia]
   rw[qy2 ok hp] at hd;lia
 |d+1,e,x,pe,hx,hd=>by
  unfold dfs;split
  ·rename_i h;exact⟨pe,h⟩
  ·rename_i h;obtain⟨h1,h2⟩:=not_or.mp h;obtain⟨p,rfl⟩:∃p,x=p+2:=⟨x-2,by lia⟩;rw[W5] at h2 ⊢;have j7:p<rows.length:=by lia
   have hp:rows[p]?=some rows[p]:=by simp[j7]
   have eg:rows.getD p []=rows[p]:=by simp[List.getD,j7]
   rw[eg];have wA:=qy2 ok hp;have rk:=ok p _ hp;have key:∀(l:List Nat) (e0:List Nat),(∀q∈l,q<p+2/\dp rows q<=d)->Post rows e0->Post rows (l.foldl (dfs rows d) e0)/\(∀q∈l,q<2\/q-2∈l.foldl (dfs rows d) e0)/\(∀a∈l.foldl (dfs rows d) e0,a∈e0\/a<p):=λl=>by
    induction l with
    |nil=>exact λe0 _ pe0=>⟨pe0,λq hq=>(nomatch hq),λa ha=>.inl ha⟩
    |cons q l ih=>
     intro e0 hl pe0;obtain⟨hq1,hq2⟩:=hl q Zh;obtain⟨p1,m1⟩:=qf8 ok d e0 q pe0 (by lia) hq2;obtain⟨p2,m2,n2⟩:=ih (dfs rows d e0 q) (λq' hq'=>hl q' (Ze _ hq')) p1;obtain⟨s,hs⟩:=qp8 (qF2 rows d) l (dfs rows d e0 q);refine⟨p2,λq' hq'=>?_,λa ha=>?_⟩
     ·rcases ZC.mp hq' with rfl|hq'
      ·rcases m1 with z|z
       ·exact .inl z
       ·rw[Z3,hs];exact .inr (YV _ z)
      ·exact m2 q' hq'
     ·rcases n2 a ha with z|z
      ·
       have below:∀(d0:Nat) (e1:List Nat) (y:Nat),y<rows.length+2->∀a∈dfs rows d0 e1 y,a∈e1\/a+2<=y:=λd0=>by
        induction d0 with
        |zero=>exact λe1 y _ a ha=>.inl ha
        |succ d0 ihd=>
         intro e1 y hy a ha;unfold dfs at ha;split at ha
         ·exact .inl ha
         ·rename_i hh;obtain⟨hh1,hh2⟩:=not_or.mp hh;rcases Z1.mp ha with ha|ha
          ·have hy2:y-2<rows.length:=by lia
           have eg2:rows.getD (y-2) []=rows[y-2]:=by simp[List.getD,hy2]
           rw[eg2] at ha;have rk2:=ok (y-2) rows[y-2] (by simp[hy2]);have kk:∀(l2:List Nat) (e2:List Nat),(∀q∈l2,q<y-2+2)->∀a∈l2.foldl (dfs rows d0) e2,a∈e2\/a+2<=y:=λl2=>by
            induction l2 with
            |nil=>exact λe2 _ a ha=>.inl ha
            |cons q2 l2 ih2=>
             intro e2 jP a ha;rcases ih2 _ (λq' hq'=>jP q' (Ze _ hq')) a ha with z|z
             ·have hq2:=jP q2 Zh;rcases ihd e2 q2 (by lia) a z with z|z
              ·exact .inl z
              ·exact .inr (by lia)
             ·exact .inr z
           exact kk _ _ rk2.2 a ha
          ·have:a=y-2:=by simpa using ha
           exact .inr (by lia)
       rcases below d e0 q (by lia) a z with z|z
       ·exact .inl z
       ·exact .inr (by lia)
      ·exact .inr z
   obtain⟨k1,k2,k3⟩:=key rows[p] e (λq hq=>⟨rk.2 q hq,by
    have:dp rows q<=mx (rows[p].map (dp rows)):=qR9 (Yo.mpr ⟨q,hq,rfl⟩);lia⟩) pe
   refine⟨⟨?_,?_,?_⟩,.inr (ZN _ (by simp))⟩
   ·rw[Wt];refine⟨k1.nd,by simp,λa ha b hb=>?_⟩;have:b=p:=by simpa using hb
    subst this;intro z;subst z;rcases k3 a ha with z|z
    ·exact h2 z
    ·exact Yk _ z
   ·intro a ha;rcases Z1.mp ha with ha|ha
    ·exact k1.lt a ha
    ·have:a=p:=by simpa using ha
     lia
   ·intro i a hi q hq;by_cases j6:i<(rows[p].foldl (dfs rows d) e).length
    ·rw[Zo j6] at hi;rcases k1.ch i a hi q hq with z|⟨j,hj,ej⟩
     ·exact .inl z
     ·exact .inr ⟨j,hj,xa9 ej⟩
    ·rw[Zv (by lia)] at hi;have wX:i-(rows[p].foldl (dfs rows d) e).length=0:=by
      have:=(gS_ hi).1;simp at this;lia
     rw[wX] at hi;have:a=p:=by simpa using hi.symm
     subst this;rw[eg] at hq;rcases k2 q hq with z|z
     ·exact .inl z
     ·obtain⟨j,hj,ej⟩:=ZJ.mp z;exact .inr ⟨j,by lia,xa9 (by simp[hj,ej])⟩
theorem nd_iff {α:Type}{l:List α}:l.Nodup<->∀i j:Nat,i<j->j<l.length->l[i]?≠l[j]?:=by
 unfold List.Nodup;rw[Vb];constructor
 ·intro h i j kD hj z;rw[Zb (by lia),Zb hj] at z;exact h i j (by lia) hj kD (Zw z)
 ·intro h i j hi hj kD z;refine h i j kD hj ?_;rw[Zb hi,Zb hj,z]
def nm (E:List Nat) (q:Nat):Nat:=if q<2 then q else E.idxOf (q-2)+2
theorem qi7 {E:List Nat}{q:Nat}(h:q<2):nm E q=q:=Zt h
theorem qg4 {E:List Nat}{q:Nat}(h:¬q<2):nm E q=E.idxOf (q-2)+2:=Zm h
def InE (E:List Nat) (q:Nat):Prop:=q<2\/q-2∈E
theorem xr6 {E:List Nat}(nd:E.Nodup){i a:Nat}(h:E[i]?=some a):E.idxOf a=i:=by
 obtain⟨hl,he⟩:=gS_ h;rw[<- he];exact nd.idxOf_getElem _ _
theorem qB4 {E:List Nat}{a:Nat}(h:a∈E):E[E.idxOf a]?=some a:=by
 have hl:=XW h;rw[Zb hl];congr 1;exact List.getElem_idxOf hl
theorem xD6 {E:List Nat}{q r:Nat}(hq:InE E q) (hr:InE E r) (h:nm E q=nm E r):q=r:=by
 by_cases h1:q<2
 ·rw[qi7 h1] at h;by_cases h2:r<2
  ·rwa [qi7 h2] at h
  ·rw[qg4 h2] at h;lia
 ·rw[qg4 h1] at h;by_cases h2:r<2
  ·rw[qi7 h2] at h;lia
  ·rw[qg4 h2] at h;have a:=qB4 (hq.resolve_left h1);have b:=qB4 (hr.resolve_left h2);have e:E.idxOf (q-2)=E.idxOf (r-2):=by lia
   rw[e,b] at a;have:=Zw a;lia
def told (rows:List Row) (E:List Nat):List Row:=E.map λp=>(rows.getD p []).map (nm E)
theorem qf9 (rows:List Row) (E:List Nat):(told rows E).length=E.length:=by simp[told]
theorem qo1 {rows:List Row}{E:List Nat}{i p:Nat}(h:E[i]?=some p):(told rows E)[i]?=some ((rows.getD p []).map (nm E)):=by
 unfold told;rw[Zg,h];rfl
theorem qL7 {rows:List Row}{E:List Nat}(pe:Post rows E){i p:Nat}(h:E[i]?=some p){q:Nat}(hq:q∈rows.getD p []):InE E q/\nm E q<i+2:=by
 rcases pe.ch i p h q hq with z|⟨j,hj,ej⟩
 ·exact⟨.inl z,by rw[qi7 z];lia⟩
 ·have hm:q-2∈E:=Zs ej;refine⟨.inr hm,?_⟩;by_cases z:q<2
  ·rw[qi7 z];lia
  ·rw[qg4 z,xr6 pe.nd ej];lia
theorem qf2 {rows:List Row}{p:Nat}(h:p<rows.length):rows[p]?=some (rows.getD p []):=by
 simp[List.getD,h]
theorem qS0 {rows:List Row}(ok:qb7 rows){E:List Nat}(pe:Post rows E):qb7 (told rows E):=by
 intro i r hi;have hl:i<E.length:=by
  have:=(gS_ hi).1
  rwa [qf9] at this
 have he:E[i]?=some E[i]:=Zb hl;rw[qo1 he] at hi;have hr:=Zw hi;subst hr;have hp:=pe.lt _ (YO hl);refine⟨?_,λx hx=>?_⟩
 ·rw[Zi];exact (ok _ _ (qf2 hp)).1
 ·obtain⟨q,hq,rfl⟩:=Yo.mp hx;exact (qL7 pe he hq).2
theorem q29 {rows:List Row}{E:List Nat}(pe:Post rows E) (nd:rows.Nodup):(told rows E).Nodup:=by
 rw[nd_iff];intro i j kD hj;rw[qf9] at hj;have hi:i<E.length:=by lia
 have ei:E[i]?=some E[i]:=Zb hi;have ej:E[j]?=some E[j]:=Zb hj;rw[qo1 ei,qo1 ej];intro z;have z:=Zw z;have key:∀l m:List Nat,(∀q∈l,InE E q)->(∀q∈m,InE E q)->l.map (nm E)=m.map (nm E)->l=m:=λl=>by
  induction l with
  |nil=>intro m _ _ h;cases m with
   |nil=>rfl
   |cons b m=>simp at h
  |cons a l ih=>intro m h1 h2 h;cases m with
   |nil=>simp at h
   |cons b m=>
    rw[Zz,Zz] at h;injection h with h3 h4
    rw[xD6 (h1 a Zh) (h2 b Zh) h3,ih m (λq hq=>h1 q (Ze _ hq)) (λq hq=>h2 q (Ze _ hq)) h4]
 have e:=key _ _ (λq hq=>(qL7 pe ei hq).1) (λq hq=>(qL7 pe ej hq).1) z;have pi:=pe.lt _ (YO hi);have pj:=pe.lt _ (YO hj);have gi:=qf2 pi;have gj:=qf2 pj;rw[e,<- gj] at gi;have:E[i]=E[j]:=by
  by_cases jE:E[i]=E[j]
  ·exact jE
  ·exfalso;rcases Nat.lt_or_gt_of_ne jE with w|w
   ·exact (nd_iff.mp nd) _ _ w pj gi
   ·exact (nd_iff.mp nd) _ _ w pi gi.symm
 have:=(nd_iff.mp pe.nd) i j kD hj;rw[ei,ej] at this;exact this (by rw[‹E[i]=E[j]›])
def qh3 (r:Row):Prop:=r=[0,0,0,0]\/r=[1,1,1,1]
instance (r:Row):Decidable (qh3 r):=by unfold qh3;infer_instance
theorem qS1 {f:Nat->Nat}{c:Nat}(h:∀q,f q=c->q=c):∀{l:List Nat}{k:Nat},l.map f=List.replicate k c->l=List.replicate k c
 |[],0,_=>rfl
 |[],k+1,z=>by simp[List.replicate] at z
 |a::l,0,z=>by simp at z
 |a::l,k+1,z=>by
  rw[Zz,Xv] at z;injection z with z1 z2
  rw[h a z1,qS1 h z2,Xv]
theorem qW1 {E:List Nat}{c:Nat}(hc:c<2) (q:Nat) (h:nm E q=c):q=c:=by
 by_cases z:q<2
 ·rwa [qi7 z] at h
 ·rw[qg4 z] at h;lia
theorem qL8 {rows:List Row}{E:List Nat}(pe:Post rows E) (np:∀r∈rows,¬qh3 r):∀r∈told rows E,¬qh3 r:=by
 intro r hr;obtain⟨p,hp,rfl⟩:=Yo.mp hr;have hm:rows.getD p []∈rows:=Zs (qf2 (pe.lt p hp));intro z;rcases z with z|z
 ·exact np _ hm (.inl (qS1 (k:=4) (qW1 (by decide)) z))
 ·exact np _ hm (.inr (qS1 (k:=4) (qW1 (by decide)) z))
theorem xx0 {rows:List Row}(ok:qb7 rows){E:List Nat}(pe:Post rows E):∀q,InE E q->dp (told rows E) (nm E q)=dp rows q:=by
 intro q
 induction q using Nat.strongRecOn with
 |ind q ih=>
  intro hq;by_cases z:q<2
  ·rw[qi7 z,qL6 z,qL6 z]
  ·have hm:=hq.resolve_left z;have hp:=pe.lt _ hm;have ea:=qB4 hm;rw[qg4 z,qy2 (qS0 ok pe) (qo1 ea)];have e2:dp rows q=1+mx ((rows.getD (q-2) []).map (dp rows)):=by
    have:=qy2 ok (qf2 hp)
    rwa [show q-2+2=q by lia] at this
   rw[e2,Y5];congr 1;refine qV9 λx hx=>?_;have kW:=(ok _ _ (qf2 hp)).2 x hx;exact ih x (by lia) (qL7 pe ea hx).1
theorem qW2 {rows:List Row}(ok:qb7 rows){E:List Nat}(pe:Post rows E):∀(d:Nat) (e:List Nat) (y:Nat),dfs rows d e y <+: E->dfs (told rows E) d (List.range e.length) (nm E y)=List.range (dfs rows d e y).length
 |0,e,y,_=>rfl
 |d+1,e,y,pf=>by
  have pe1:e <+: E:=by
   obtain⟨s,hs⟩:=qF2 rows (d+1) e y;rw[hs] at pf;exact WV (W6 _ _) pf
  have memi:∀{a:Nat},a∈E->(a∈e<->E.idxOf a<e.length):=λ{a} ha=>by
   obtain⟨s,hs⟩:=pe1;constructor
   ·intro hm;rw[<- hs,Vg,Zt hm];exact XW hm
   ·intro hl;have:=qB4 ha;rw[<- hs,Zo (by rw[hs];exact hl)] at this;exact Zs this
  unfold dfs at pf ⊢;by_cases h:y<2\/y-2∈e
  ·rw[Zt h,Zt];rcases h with h|h
   ·exact .inl (by rw[qi7 h];exact h)
   ·by_cases z:y<2
    ·exact .inl (by rw[qi7 z];exact z)
    ·right;rw[qg4 z,W5,ZW];exact (memi (pe1.subset h)).mp h
  ·rw[Zm h] at pf ⊢;obtain⟨h1,h2⟩:=not_or.mp h;have hE:y-2∈E:=pf.subset (by simp);rw[qg4 h1,W5];have hnot:¬(E.idxOf (y-2)+2<2\/E.idxOf (y-2)∈List.range e.length):=by
    rw[ZW];rintro (z|z)
    ·lia
    ·exact h2 ((memi hE).mpr z)
   rw[Zm hnot];have et:(told rows E).getD (E.idxOf (y-2)) []=(rows.getD (y-2) []).map (nm E):=by
    have:=qo1 (rows:=rows) (qB4 hE);rw[ZG,this];rfl
   rw[et];have key:∀(l:List Nat) (e0:List Nat),l.foldl (dfs rows d) e0 <+: E->(l.map (nm E)).foldl (dfs (told rows E) d) (List.range e0.length)=List.range (l.foldl (dfs rows d) e0).length:=λl=>by
    induction l with
    |nil=>exact λe0 _=>rfl
    |cons q l ih=>
     intro e0 pf0;rw[Zz,Z3,Z3];have:dfs rows d e0 q <+: E:=by
      obtain⟨s,hs⟩:=qp8 (qF2 rows d) l (dfs rows d e0 q);rw[Z3,hs] at pf0;exact WV (W6 _ _) pf0
     rw[qW2 ok pe d e0 q this];exact ih _ pf0
   have pf2:(rows.getD (y-2) []).foldl (dfs rows d) e <+: E:=WV (W6 _ _) pf;rw[key _ e pf2,Zu];have:E.idxOf (y-2)=((rows.getD (y-2) []).foldl (dfs rows d) e).length:=by
    refine xr6 pe.nd ?_;obtain⟨s,hs⟩:=pf;rw[<- hs,YF,Zv (Zd _),Vr]
    rfl
   rw[this];exact Xi.symm
structure Canon (n top:Nat) (rows:List Row):Prop where
 size:n<=12
 rok:qb7 rows
 inn:top<rows.length+2
 deep:dp rows top<=n
 unplain:∀r∈rows,¬qh3 r
 unlike:rows.Nodup
 ends:dfs rows n [] top=List.range rows.length
theorem q30 {n x:Nat}{rows:List Row}(hn:n<=12) (ok:qb7 rows) (hx:x<rows.length+2) (hd:dp rows x<=n) (np:∀r∈rows,¬qh3 r) (nd:rows.Nodup) :
  Canon n (nm (dfs rows n [] x) x) (told rows (dfs rows n [] x)):=by
 obtain⟨pe,hm⟩:=qf8 ok n [] x (qi6 rows) hx hd;refine⟨hn,qS0 ok pe,?_,?_,qL8 pe np,q29 pe nd,?_⟩
 ·rw[qf9];by_cases z:x<2
  ·rw[qi7 z];lia
  ·rw[qg4 z];have:=XW (hm.resolve_left z);lia
 ·rw[xx0 ok pe x hm];exact hd
 ·rw[qf9];exact qW2 ok pe n [] x (List.prefix_refl _)
end Qf
namespace L2
open PySem PySem.Spec PyProof.Rows
section
variable {X:Cx}
theorem xm0 {i0:Nat}{x0:Str}{px0 spos:Pos}{nn:List Str}{tg:Expr}{ifs:List Expr}{pos:Pos}{elt iter:Expr}{scope:Scope}{wi:TI}{g:TG}{tt:TT}{te:TE}(T:Env->Sem Bool) (hc:X.calm=true) (hi:PI X tg iter wi)
  (hturn:∀it acc env,compTurn (.ListComp elt [⟨tg,iter,ifs,0⟩] scope pos) 0 it acc env=(standAt iter.pos >>= λ_=>pyNext it >>= λr=>match r with
   |none=>pure (.done .next)
   |some v=>letOwnedTupleGo tg it v >>= λ_=>assign tg env v >>= λ_=>T env >>= λok=>(if ok=true then (eval elt env >>= λx=>call (.builtin "list.append") [acc,x] >>= λ_=>pure ()) else pure ()) >>= λ_=>
     again (.compLoop (.ListComp elt [⟨tg,iter,ifs,0⟩] scope pos) 0 it acc env)))
  (hgt:∀cl C fp s₀ H₀,PG (qc7 X scope cl C nn fp s₀ H₀) tg g)
  (hloc2:∀y (os σ:St) H R,os.length=nn.length->g y (os++σ) H R->g y (os++σ) H λσ' H'=>(∃os':St,os'.length=nn.length/\σ'=os'++σ)/\R σ' H')
  (htt:∀cl C fp s₀ H₀ (j4:List (Addr×Obj)) (s:Shared) (σ:St) (H:Hp) (Q:Bool->Hp->Prop),Inv (qc7 X scope cl C nn fp s₀ H₀) j4 σ H s->tt σ H Q->wpAny (model X.prog X.w) X.A (T (compEnvC scope cl C X.env)) (TP (qc7 X scope cl C nn fp s₀ H₀) j4 σ Q) (λ_ _=>False) s)
  (he:∀cl C fp s₀ H₀,PE (qc7 X scope cl C nn fp s₀ H₀) elt te)
  (jA:scope.kind=.function) (j8:∀y∈scope.names,y.2≠.cell) (jC:∀y∈scope.names,y.2=.local->scope.names.lookup y.1=some .local)
  (jK:∀y∈X.N,scope.names.lookup y≠some .local) (jI:∀p∈scope.names,p.2=.free->Vis X.env.scope p.1/\X.env.scope.names.lookup p.1≠some .local)
  (hs:∀x,foldedSetIterable iter X.env x=pure x) (hN0:X.N.Nodup) (wX:X.N[i0]?=some x0) (vO:X.env.scope.names.lookup x0=some .local) (hsw:swapsWith (.ListComp elt [⟨tg,iter,ifs,0⟩] scope pos) (some (.Name x0 px0)) spos.line X.env=pure true) :
  PS X (.Assign [.Name x0 px0] (.ListComp elt [⟨tg,iter,ifs,0⟩] scope pos) spos) (tAsg (qy0 nn.length wi g tt te) (qg8 i0)):=by
 intro j4 s σ H EE I h;rw[exec_Assign_Name_used _ _ _ _ hsw];refine Za (wpAny_standAt (Za ?_));show wpAny _ X.A (do let _ <- comprehension (.ListComp elt [⟨tg,iter,ifs,0⟩] scope pos) scope X.env _ (newList []) false (eval iter X.env) (some (assign (.Name x0 px0) X.env))) _ _ s;obtain⟨cl,hclos,jU,hcl2⟩:=ql0 (scope:=scope) (env:=X.env) (λp hp hk=>by
  obtain⟨hv,hn⟩:=jI p hp hk;refine I.ok.has p.1 ?_;rcases hv with z|z
  ·exact absurd z hn
  ·exact z)
 refine Za (YA (wpAny_comprehension_free (use:=some (assign (.Name x0 px0) X.env)) (Q:=λ_ s'=>SP X j4 EE .next s') rfl hs hclos jA jC (thn (hi j4 s σ H _ I h) λv s1 h1=>thn h1 λitv s2 h2=>?_)) (λ_ s' hq=>Zf (Zf hq)) λ_ _ e=>e);obtain⟨it,fp,tn,J,H2,rfl,I2,T',st2,f2,q⟩:=h2;have hD:H2 s2.heap.objs.size=none:=I2.hok.fresh (Zd _);obtain⟨W,⟨m0,w0⟩,turn⟩:=q _ hD;refine ZU (wpAny_newFunctionEnv j8 (by intro y hy;simp at hy) (λh₁ hns₁ hsb₁=>?_) jA);dsimp only at hns₁ hsb₁ ⊢;have I3:Inv X j4 σ (upd H2 s2.heap.objs.size (.lst [])) { s2 with heap:=s2.heap.push { cls:=.type "list",dict:=none,data:=.seq ([]:List Value).toArray } }:=
  I2.laid (t':=s2.toks) (λb u e=>Zc _ e) (Zd _) ⟨ZB _,[],0,.nil,Zk _ rfl⟩
 have fpn:∀b∈fp,b≠s2.heap.objs.size:=λb hb=>by
  obtain⟨o,e,_⟩:=T'.obj 0 s2.heap st2 b hb;exact Zx (Zl e)
 have fplt:∀b∈fp,b<(s2.heap.push { cls:=.type "list",dict:=none,data:=.seq ([]:List Value).toArray }).objs.size:=λb hb=>by
  obtain⟨o,e,_⟩:=T'.obj 0 s2.heap st2 b hb;rw[Yp];exact YD (Zl e)
 have f3:∀b∈fp,FpOk X j4 (upd H2 s2.heap.objs.size (.lst [])) b:=λb hb=>⟨by rw[qa7 (fpn b hb)];exact (f2 b hb).1,(f2 b hb).2⟩;generalize k9:s2.heap.push { cls:=.type "list",dict:=none,data:=.seq ([]:List Value).toArray }=g2 at hns₁ hsb₁ I3 fplt ⊢;have keep:∀b o,g2.get? b=some o->h₁.get? b=some o:=λb o e=>(hsb₁.2 b (Zx (Zl e))).trans (Zc _ e);have J0:=qy1 (nn:=nn) (tk:=s2.toks+([]:List (Str×Value)).length) I3 (C:=g2.objs.size) rfl keep hns₁ f3 fplt jA j8 jK jU hcl2 jI;generalize hY:qc7 X scope cl g2.objs.size nn fp { s2 with heap:=g2 } (upd H2 s2.heap.objs.size (.lst []))=Y at J0;have eY:PE Y elt te:=by rw[<- hY];exact he _ _ _ _ _
 have eG:PG Y tg g:=by rw[<- hY];exact hgt _ _ _ _ _
 have eT:∀(j4:List (Addr×Obj)) (s:Shared) (σ:St) (H:Hp) (Q:Bool->Hp->Prop),Inv Y j4 σ H s->tt σ H Q->wpAny (model Y.prog Y.w) Y.A (T Y.env) (TP Y j4 σ Q) Y.xe s:=by rw[<- hY];exact htt _ _ _ _ _
 have eP:Y.prog=X.prog:=by rw[<- hY];rfl
 have eW:Y.w=X.w:=by rw[<- hY];rfl
 have eK:Y.K=X.K:=by rw[<- hY];rfl
 have eA:Y.A=X.A:=by rw[<- hY];rfl
 have eC:Y.calm=true:=by rw[<- hY];exact hc
 have eE:Y.env=compEnvC scope cl g2.objs.size X.env:=by rw[<- hY];rfl
 have eX:Y.xe=λ_ _=>False:=by rw[<- hY];rfl
 have eN:Y.N=nn++X.N:=by rw[<- hY];rfl
 have eEx:Y.ex=fp:=by rw[<- hY];rfl
 have eFs:Y.fs=frs X.stack:=by rw[<- hY];rfl
 have ePn:Y.pn=[]:=by rw[<- hY];rfl
 have fpY:∀{H':Hp},(∀b∈fp,H' b=none)->∀b∈fp,FpOk Y [] H' b:=λhn b hb=>by
  have g:=f3 b hb;refine⟨hn b hb,?_,?_,.inl (by rw[eEx];exact hb),?_,λp hp=>absurd hp (by rw[ePn];simp)⟩
  ·rw[eE];exact Zx (fplt b hb)
  ·rw[eFs];intro z;rcases ZC.mp (I3.stkSub b z) with z|z
   ·exact g.2.1 z
   ·exact g.2.2.1 z
  ·rw[eE];exact λy c e=>g.2.2.2.2.1 y c (jU y c e)
 have loop:∀s₃:Shared,s₃={ s2 with heap:=h₁,toks:=s2.toks+([]:List (Str×Value)).length } ->
   codeAny (model X.prog X.w) X.A (.compLoop (.ListComp elt [⟨tg,iter,ifs,0⟩] scope pos) 0 (.ref it) (.ref s2.heap.objs.size) (compEnvC scope cl g2.objs.size X.env))
    (compPost (model X.prog X.w) X.A X.xe (some (assign (.Name x0 px0) X.env)) (λ_ s'=>SP X j4 EE .next s') (.ref s2.heap.objs.size) g2.objs.size) s₃:=by
  rintro s₃ rfl;refine qK8 (T (compEnvC scope cl g2.objs.size X.env)) (hturn _ _ _) (λn s'=>∃i xs H' os,os.length=nn.length/\Inv Y [] (os++σ) H' s'/\tn i s'.heap/\(∀b∈fp,H' b=none)/\W i n xs H') ?_ m0
   ⟨0,[],_,nn.map λ_=>none,by simp,J0,T'.keep 0 _ _ st2 (λb hb o e=>keep b o (by rw[<- k9];exact Zc _ e)),λb hb=>(f3 b hb).1,w0⟩
  rintro n s3 ⟨i,xs,H3,os,vP,I4,st3,fr3,w3⟩;obtain⟨hDx,wT,alt⟩:=turn i n xs H3 w3;rcases alt with ⟨stop,qn⟩|⟨go,step⟩
  ·have D1:=T'.done Y eP eW eK eC i [] s3 _ H3 (λ_ _=>False) I4 (fpY fr3) st3 stop;rw[eA] at D1;refine thn D1 λr s4 ⟨hr,I5⟩=>?_;subst hr;obtain⟨m4,kH,_⟩:=id I5.loc;rw[eE] at kH;have hC0:H3 g2.objs.size=none:=by
    have:=I5.free;rw[eE] at this;exact this
   have fC:FpOk X j4 H3 g2.objs.size:=I3.fpOk (Zd _) hC0;rw[<- hY] at I5;have IX:Inv X j4 σ H3 s4:=qK9 I3 rfl f3 I5 (Heap.SameBut.refl _ _);have kH:s4.heap.Ns g2.objs.size m4:=kH;obtain⟨oC,esC,epC,hoC,rC⟩:=id kH;have IP:=IX.pinned (fp:=[g2.objs.size]) (λb hb=>by
    have:b=g2.objs.size:=by simpa using hb
    subst this;exact fC) (λb hb=>by
    have:b=g2.objs.size:=by simpa using hb
    subst this;exact⟨oC,hoC,λv z=>by rw[rC.1] at z;cases z⟩)
   show wpAny _ X.A (assign (.Name x0 px0) X.env (.ref s2.heap.objs.size)) _ _ s4;refine wpAny_assign_Name (qu7 (v:=.ref s2.heap.objs.size) IP hN0 wX (.inl vO) rfl (λs5 I6=>?_) (.inr vO));have pC:=I6.pin (g2.objs.size,oC) (ZN _ (ZN _ (qj4 (by simp) hoC)));refine⟨m4,kH.at' (λo e=>by rw[hoC] at e;cases e;exact pC.1),λh' sb=>⟨_,H3,?_,qn⟩⟩;exact I6.unpinned.turned (t':=s5.toks) (λb o hb e=>(sb.2 b hb).trans e) fC.1 fC.2.1 fC.2.2.2.1 fC.2.2.2.2.1 fC.2.2.2.2.2
  ·have G1:=T'.item Y eP eW eK eC i [] s3 _ H3 (λ_ _=>False) I4 (fpY fr3) st3 go;rw[eA] at G1;refine thn G1 λr s4 ⟨u,hr,h4⟩=>?_;subst hr;refine thn h4 λ_ s5 ⟨y,H5,I5,r5,y5,st5,fr5⟩=>?_;have I5':=I5.pinned (fpY fr5) (T'.obj _ _ st5);have S1:=eG _ s5 _ H5 y u _ I5' r5 (hloc2 y os σ H5 _ vP (step y _ y5 os vP));rw[eP,eW,eA,eE,eX] at S1;refine thn S1 λ_ s6 ⟨σ6,H6,I6,⟨os6,hos6,e6⟩,q6⟩=>?_;subst e6;have S2:=eT _ s6 _ _ _ I6 q6;rw[eP,eW,eA,eE,eX] at S2;refine thn S2 λok s7 ⟨H7,I7,q7⟩=>?_;have back:∀{s9:Shared}{H9:Hp}{m':Nat}{zs:List V},Inv Y ([]++qA8 fp s5.heap) (os6++σ) H9 s9->m'<n->W (i+1) m' zs H9->∃m,m<n/\∃i xs H' os,os.length=nn.length/\Inv Y [] (os++σ) H' s9/\tn i s9.heap/\(∀b∈fp,H' b=none)/\W i m xs H':=λ{s9 H9 m' zs} I9 hm' w9=>by
    have pin:∀b∈fp,∀ob,s5.heap.get? b=some ob->s9.heap.get? b=some ob/\H9 b=none:=λb hb ob e=>by
     have z:=I9.pin (b,ob) (ZN _ (ZN _ (qj4 hb e)));exact⟨z.1,z.2.1⟩
    refine⟨m',hm',i+1,zs,H9,os6,hos6,I9.unpinned,T'.keep _ _ _ st5 (λb hb ob e=>(pin b hb ob e).1),λb hb=>?_,w9⟩;obtain⟨ob,e,_⟩:=T'.obj _ _ st5 b hb;exact (pin b hb ob e).2
   cases ok with
   |true=>
    rw[Zt rfl] at q7;rw[Zt rfl];have S3:=eY _ s7 _ _ _ I7 q7;rw[eP,eW,eA,eE,eX] at S3;refine thn S3 λxv s8 ⟨v8,H8,I8,r8,hD8,m',hm',w8⟩=>?_;have S4:=qe4 (X:=Y) _ s8 _ H8 (.ref s2.heap.objs.size) [v8] (.ref s2.heap.objs.size) [xv] (λ_ H9=>H9=upd H8 s2.heap.objs.size (.lst (xs++[v8]))) I8 rfl (.cons r8 .nil) ⟨_,xs,v8,rfl,rfl,hD8,wT,rfl⟩;rw[eP,eW,eA,eX] at S4;refine thn S4 λ_ s9 ⟨v9,H9,I9,_,e9⟩=>?_;subst e9;exact back I9 hm' w8
   |false=>
    rw[Zm ZD] at q7;rw[Zm ZD];obtain⟨m',hm',w8⟩:=q7;exact back I7 hm' w8
 exact codeAny_compStart_list (loop _ rfl) (T'.self _ 0 _ _ _ (T'.keep 0 _ _ st2 (λb hb o e=>keep b o (by rw[<- k9];exact Zc _ e))) (loop _ rfl))
theorem qS2 {i0:Nat}{x0:Str}{px0 spos:Pos}{x:Str}{px pos:Pos}{elt iter:Expr}{scope:Scope}{wi:TI}{te:TE}(N:List Str) (sc:Scope) (wE:X.N=N) (w4:X.env.scope=sc) (hc:X.calm=true) (hN:X.N.Nodup) (wX:X.N[i0]?=some x0) (vO:X.env.scope.names.lookup x0=some .local) (hi:PI X (.Name x px) iter wi)
  (he:∀cl C fp s₀ H₀,PE (qc7 X scope cl C [x] fp s₀ H₀) elt te)
  (jA:scope.kind=.function:=by rfl) (j8:scope.names.all (λy=>y.2 != .cell)=true:=by decide +kernel) (jC:scope.names.all (λy=>y.2 != .local||scope.names.lookup y.1==some .local)=true:=by decide +kernel)
  (hx:scope.names.lookup x=some .local:=by rfl) (jK:N.all (λy=>scope.names.lookup y != some .local)=true:=by decide +kernel)
  (jI:scope.names.all (λp=>p.2 != .free||(sc.names.lookup p.1==some .cell||sc.names.lookup p.1==some .free))=true:=by decide +kernel)
  (hs:∀x,foldedSetIterable iter X.env x=pure x:=by intro _;rfl) (hsw:swapsWith (.ListComp elt [⟨.Name x px,iter,[],0⟩] scope pos) (some (.Name x0 px0)) spos.line X.env=pure true:=by rfl) :
  PS X (.Assign [.Name x0 px0] (.ListComp elt [⟨.Name x px,iter,[],0⟩] scope pos) spos) (tAsg (qy0 1 wi (qg8 0) qR7 te) (qg8 i0)):=by
 obtain⟨s1,s2,s3,s4⟩:=qp5 wE w4 j8 jC jK jI;refine xm0 (nn:=[x]) (λ_=>pure true) hc hi (λit acc env=>qR6 elt _ iter scope pos it acc env) (λcl C fp s₀ H₀=>?_) (λy os σ H R ho h=>loc1 ho h) (λcl C fp s₀ H₀ j4 s σ H Q I h=>Zf ⟨H,I,h⟩) he jA s1 s2 s3 s4 hs hN wX vO hsw;have l:(qc7 X scope cl C [x] fp s₀ H₀).env.scope.names.lookup x=some .local:=Xn hx;exact qr7 (i:=0) (YJ.mpr ⟨λz=>s3 x z hx,hN⟩) rfl (.inl l) (.inr l)
end
end L2
namespace L2
open PySem PySem.Spec PyProof.Rows PySem.W
section
variable {X:Cx}
def Its (z:Str):It:=⟨λi _=>i<z.cps.size,λi H x H'=>H'=H/\∃c,z.cps[i]?=some c/\x=.str ⟨#[c]⟩,λi _=>z.cps.size<=i⟩
theorem qW3 {P:Program}{w:World}{K:PySem.W.Frag}{x:Str}{px:Pos}(it:Addr) (z:Str) (t:Tok) (kind:String) (vQ:kind = "str_ascii_iterator" \/ kind = "str_iterator")
  (W:∀A:Around,A.handled=none->Walks P w A it [it] [it] z.cps.size (SignAt z) (λi h=>h.IsStrIter it kind z t i)):Turn P w K (.Name x px) (Its z) [it] it (λi h=>i<=z.cps.size/\h.IsStrIter it kind z t i) where
 mem:=by simp
 obj:=λi h st b hb=>by
  have e:b=it:=by simpa using hb
  subst e;obtain⟨_,o,e,c,d⟩:=st;exact⟨o,e,λv q=>by rw[d] at q;cases q⟩
 keep:=λi h h' st k=>⟨st.1,by
  obtain⟨_,o,e,r⟩:=st;exact⟨o,k it (by simp) o e,r⟩⟩
 item:=by
  intro X hP hw hK hc i j4 s σ H E I hf st hg;subst hP hw hK;obtain⟨f0,f1,f2,f3,f4,f5⟩:=hf it (by simp);have hg':i<z.cps.size:=hg;refine (W X.A (I.ok.hd hc)).item i s _ _ hg' st.2 λv h' tk hv st' kk=>?_;obtain⟨c,u,e1,rfl⟩:=hv;have I1:Inv X j4 σ H { s with heap:=h',toks:=tk }:=I.turned (λb o hb e=>kk b o (by simpa using hb) e) f0 f1 f3 f4 f5;exact⟨_,rfl,Zf ⟨.str ⟨#[c]⟩,H,I1,⟨_,rfl⟩,⟨rfl,c,e1,rfl⟩,⟨hg',st'⟩,λb hb=>(hf b hb).1⟩⟩
 done:=by
  intro X hP hw hK hc i j4 s σ H E I hf st hg;subst hP hw hK;obtain⟨f0,f1,f2,f3,f4,f5⟩:=hf it (by simp);have hi:i=z.cps.size:=Vw st.1 hg;subst hi;exact (W X.A (I.ok.hd hc)).done s _ _ st.2 λh' tk kk=>⟨rfl,I.turned (λb o hb e=>kk b o (by simpa using hb) e) f0 f1 f3 f4 f5⟩
 self:=λA i s Q E st h=>by
  rcases vQ with ha|ha
  ·subst ha;exact wpAny_pyIter_striter_ascii st.2 h
  ·subst ha;exact wpAny_pyIter_striter_wide st.2 h
def iStr (te:TE):TI:=λσ H R=>te σ H λx H1=>∃z,x=.str z/\R (Its z) H1
theorem xb0 {e:Expr}{te:TE}{x:Str}{px:Pos}(he:PE X e te):PI X (.Name x px) e (iStr te):=by
 intro j4 s σ H R I h;refine thn (he j4 s σ H _ I h) λv s1 ⟨y,H1,I1,r1,z,ez,q⟩=>?_;subst ez;obtain⟨t,rfl⟩:=r1;have fp:∀b∈[s1.heap.objs.size],FpOk X j4 H1 b:=λb hb=>by
  have e:b=s1.heap.objs.size:=by simpa using hb
  subst e;exact I1.fpOk (Zd _) (I1.hok.fresh (Zd _))
 cases ha:z.cps.all (·<128) with
 |true=>
  refine wpAny_pyIter_ascii ha ?_;exact⟨s1.heap.objs.size,[s1.heap.objs.size],_,_,H1,rfl,I1.kept (t':=s1.toks) (λb o e=>Zc _ e),qW3 _ z t "str_ascii_iterator" (.inl rfl) (λA hA=>Walks.strAscii hA _ z t),⟨ZB _,_,Zk _ rfl,rfl,rfl⟩,fp,q⟩
 |false=>
  refine wpAny_pyIter_wide ha ?_;exact⟨s1.heap.objs.size,[s1.heap.objs.size],_,_,H1,rfl,I1.kept (t':=s1.toks) (λb o e=>Zc _ e),qW3 _ z t "str_iterator" (.inr rfl) (λA hA=>Walks.strWide hA _ z t),⟨ZB _,_,Zk _ rfl,rfl,rfl⟩,fp,q⟩
def xb1:TE:=λ_ H Q=>∀p,H p=none->Q (.ref p) (upd H p (.dK []))
theorem qp9 {pos:Pos}:PE X (.Dict [] [] pos) xb1:=λj4 s σ H Q I h=>by
 have hb:sysModules<s.heap.objs.size:=Xk (by decide) (I.mod.glob.keeps I.bk).lt;exact wpAny_Dict_empty ⟨.ref s.heap.objs.size,_,I.laid (a:=s.heap.objs.size) (o:=.dK []) (t':=s.toks) (λ_ _ q=>Zc _ q) (Zd _) ⟨ZB _,Yz.mpr (Z0 (Zx hb)),[],.nil,Heap.DictOf.new _⟩,rfl,h _ (I.hok.fresh (Zd _))⟩
theorem xb2:OpR X (binaryOp .Mult) (λx y H Q=>∃z n,x=.str z/\y=.int n/\MulOk z n/\Q (.str (Txt.mul z n)) H):=by
 intro j4 s σ H x y v u Q I rx ry h;obtain⟨z,n,rfl,rfl,hok,q⟩:=h;obtain⟨t,rfl⟩:=rx;obtain⟨t',rfl⟩:=ry;exact SB.mul hok λt' k=>⟨.str _,H,I.tok _,⟨_,rfl⟩,q⟩
theorem xb3:MtR X "list.index" (λx xs H Q=>∃(l:Addr) (bs:List Bool) (j:Nat),x=.ref l/\xs=[.bl true]/\H l=some (.lst (bs.map V.bl))/\bs[j]?=some true/\(∀m,m<j->bs[m]?=some false)/\(j:Int)<1000/\Q (.int j) H):=by
 intro j4 s σ H x xs v us Q I rx rv h;obtain⟨l,bs,j,rfl,rfl,hl,hj,wR,hs,q⟩:=h;cases rx;obtain⟨u,rfl,ru⟩:=rv.one;cases ru;obtain⟨z,its,n,r2,ho⟩:=I.hok l _ hl;have j6:bs.length=its.length:=by have:=r2.length;simpa using this
 have item:∀(m:Nat) (hm:m<its.length),∃b,bs[m]?=some b/\its[m]=.bool b:=λm hm=>by
  obtain⟨w',e1,e2⟩:=r2.get (i:=m) (x:=V.bl (bs[m]'(by lia))) (by simp[show m<bs.length by lia]);refine⟨bs[m]'(by lia),by simp[show m<bs.length by lia],?_⟩;have:its[m]?=some its[m]:=by simp[hm]
  rw[this] at e1;cases e1;exact e2
 have hjl:j<its.length:=by rw[<- j6];exact (gS_ hj).1
 refine call_meets F.slot_list_index ⟨_,ho,rfl⟩ F.entry_list_index (F.args_list_index_2 _ _) (MeetsSeq.list_index l its.toArray n (.bool true) (λy=>y==.bool true) (λy hy=>?_) j (by simpa using hjl) (by lia) ?_ ?_) ⟨ho,?_⟩
 ·obtain⟨m,hm,e⟩:=ZJ.mp (show y∈its by simpa using hy);obtain⟨b,_,e2⟩:=item m hm;rw[e] at e2;subst e2;intro prog w A E s' Q' hq;refine SeqAt.EqAt.bool_bool b true prog w E Q' ?_;cases b<;>exact hq
 ·obtain⟨b,e1,e2⟩:=item j hjl;rw[hj] at e1;cases e1;simpa using e2
 ·intro m hm hmj;have hm':m<its.length:=by simpa using hm
  obtain⟨b,e1,e2⟩:=item m hm';rw[wR m hmj] at e1;cases e1;have:its.toArray[m]=.bool false:=by simpa using e2
  rw[this]
  rfl
 ·exact⟨.int j,H,I.tok _,⟨_,rfl⟩,q⟩
end
end L2
namespace L2
open PySem PySem.Spec PyProof.Rows
theorem xm1 {wi:TI}{te:TE}:xl2 wi te=qy0 1 wi (qg8 0) qR7 te:=by
 funext σ H Q;unfold xl2 qy0;congr 1;funext J H1;refine propext (YU λD=>YU λ_=>exists_congr λW=>WP λ_=>YU λi=>YU λm=>YU λxs=>YU λH2=>YU λ_=>WP λ_=>WP λ_=>or_congr_right (WP λ_=>YU λy=>YU λH3=>YU λ_=>⟨λh os ho=>?_,λh=>?_⟩))
 ·match os,ho with
  |[o],_=>
   unfold qg8 qR7;dsimp only;rw[Zt rfl];exact h
 ·have z:=h [none] rfl;unfold qg8 qR7 at z;dsimp only at z;rw[Zt rfl] at z;exact z
section
variable {X:Cx}
theorem qg6 {x:Str}{px pos:Pos}{elt iter:Expr}{scope:Scope}{wi:TI}{te:TE}(N:List Str) (sc:Scope) (wE:X.N=N) (w4:X.env.scope=sc) (hc:X.calm=true) (hN:X.N.Nodup) (hi:PI X (.Name x px) iter wi) (he:∀cl C fp s₀ H₀,PE (qc7 X scope cl C [x] fp s₀ H₀) elt te)
  (jA:scope.kind=.function:=by rfl) (j8:scope.names.all (λy=>y.2 != .cell)=true:=by decide +kernel) (jC:scope.names.all (λy=>y.2 != .local||scope.names.lookup y.1==some .local)=true:=by decide +kernel)
  (hx:scope.names.lookup x=some .local:=by rfl) (jK:N.all (λy=>scope.names.lookup y != some .local)=true:=by decide +kernel)
  (jI:scope.names.all (λp=>p.2 != .free||(sc.names.lookup p.1==some .cell||sc.names.lookup p.1==some .free))=true:=by decide +kernel)
  (hs:∀x,foldedSetIterable iter X.env x=pure x:=by intro _;rfl):PE X (.ListComp elt [⟨.Name x px,iter,[],0⟩] scope pos) (xl2 wi te):=by
 obtain⟨s1,s2,s3,s4⟩:=qp5 wE w4 j8 jC jK jI;rw[xm1];refine qE7 (nn:=[x]) (λ_=>pure true) hc hi (λit acc env=>qR6 elt _ iter scope pos it acc env) (λcl C fp s₀ H₀=>?_) (λy os σ H R ho h=>loc1 ho h) (λcl C fp s₀ H₀ j4 s σ H Q I h=>Zf ⟨H,I,h⟩) he jA s1 s2 s3 s4 hs;have l:(qc7 X scope cl C [x] fp s₀ H₀).env.scope.names.lookup x=some .local:=Xn hx;exact qr7 (i:=0) (YJ.mpr ⟨λz=>s3 x z hx,hN⟩) rfl (.inl l) (.inr l)
end
end L2
namespace L2
open PySem
theorem qc0 {H:Hp}{a b:Addr}{o u:HO}(e:H a=some o) (hn:H b=none):upd H b u a=some o:=by rw[qa7 (qa4 e hn)];exact e
theorem qb3 {H:Hp}{a:Addr}{o:HO}(h:H a=none):Same H (upd H a o):=λb u e=>qc0 e h
def Tups (H H':Hp):Prop:=∀b u,H b=some (.tup u)->H' b=some (.tup u)
theorem Same.tups {H H':Hp}(s:Same H H'):Tups H H':=λb u e=>s b _ e
structure Goes (J:It) (H:Hp) (n:Nat) (item:Nat->V->Hp->Prop):Prop where
 go:∀i H2,i<n->Same H H2->J.go i H2
 yl:∀i H2 y H3,i<n->Same H H2->J.yld i H2 y H3->Same H2 H3/\item i y H3
 st:∀H2,Same H H2->J.stop n H2
theorem qm4 {K:PySem.W.Frag}{H:Hp}{a:Addr}{xs:List V}(ha:H a=some (.tup xs)):Goes (Itt K a) H xs.length (λi y _=>xs[i]?=some y) where
 go:=λi H2 hi s=>⟨xs,xs[i],SqT.of (s _ _ ha),by simp[hi]⟩
 yl:=λi H2 y H3 hi s h=>by
  obtain⟨e,h⟩:=h;subst e;exact⟨Same.refl _,h xs (SqT.of (s _ _ ha))⟩
 st:=λH2 s=>⟨xs,SqT.of (s _ _ ha),Zd _⟩
theorem qW4 {K:PySem.W.Frag}{H:Hp}{a:Addr}{xs:List V}(ha:H a=some (.lst xs)):Goes (Itl K a) H xs.length (λi y _=>xs[i]?=some y) where
 go:=λi H2 hi s=>⟨xs,xs[i],SqL.of (s _ _ ha),by simp[hi]⟩
 yl:=λi H2 y H3 hi s h=>by
  obtain⟨e,h⟩:=h;subst e;exact⟨Same.refl _,h xs (SqL.of (s _ _ ha))⟩
 st:=λH2 s=>⟨xs,SqL.of (s _ _ ha),Zd _⟩
theorem qL9 {K:PySem.W.Frag}{H:Hp}{a:Addr}{xs:List V}(ha:H a=some (.tup xs)):Goes (Ite K a) H xs.length (λi y H3=>∃p x,y=.ref p/\xs[i]?=some x/\H3 p=some (.tup [.int i,x])) where
 go:=λi H2 hi s=>⟨xs,xs[i],SqT.of (s _ _ ha),by simp[hi]⟩
 yl:=λi H2 y H3 hi s h=>by
  obtain⟨p,x,hp,hx,rfl,rfl⟩:=h;exact⟨qb3 hp,p,x,rfl,hx xs (SqT.of (s _ _ ha)),qa1⟩
 st:=λH2 s=>⟨xs,SqT.of (s _ _ ha),Zd _⟩
theorem qi0 {J:It}{H:Hp}{n:Nat}{item:Nat->V->Hp->Prop}{te:TE}{σ:St}{Fin:Hp->Prop}{D:Addr}(hD:H D=none) (Rel:Nat->V->Hp->Prop) (G:Goes J H n item) (hsz:n<sizeLine)
  (mono:∀i y H1 H2,i<n->Tups H1 H2->Rel i y H1->Rel i y H2)
  (step:∀i x H2,i<n->item i x H2->Same H H2->∀Q':VK,(∀y H3,Same H2 H3->Rel i y H3->Q' y H3)->te (some x::σ) H2 Q')
  (fin:∀ys H2,Same H H2->H2 D=some (.lst ys)->ys.length=n->(∀i y,ys[i]?=some y->Rel i y H2)->Fin H2) :
  ∃W:Nat->Nat->List V->Hp->Prop,(∃m,W 0 m [] (upd H D (.lst []))) /\
   ∀i m xs H2,W i m xs H2->H2 D=some (.lst xs)/\xs.length<sizeLine/\((J.stop i H2/\Fin H2)\/(J.go i H2/\∀y H3,J.yld i H2 y H3 ->
    te (some y::σ) H3 λv H4=>H4 D=some (.lst xs)/\∃m',m'<m/\W (i+1) m' (xs++[v]) (upd H4 D (.lst (xs++[v]))))):=by
 refine⟨λi m ys H2=>i<=n/\m=n-i/\ys.length=i/\H2 D=some (.lst ys)/\Same H H2/\∀j y,ys[j]?=some y->Rel j y H2,⟨n,ZB _,rfl,rfl,qa1,qb3 hD,λj y h=>by simp at h⟩,?_⟩;rintro i m ys H2 ⟨hi,rfl,hl,hd,s2,rel⟩;refine⟨hd,by lia,?_⟩;by_cases he:i=n
 ·subst he;exact .inl ⟨G.st H2 s2,fin ys H2 s2 hd hl rel⟩
 ·refine .inr ⟨G.go i H2 (by lia) s2,λy H3 hy=>?_⟩;obtain⟨s3,it⟩:=G.yl i H2 y H3 (by lia) s2 hy;refine step i y H3 (by lia) it (s2.trans s3) _ λv H4 s4 r4=>?_;have jN:=s4 _ _ (s3 _ _ hd);refine⟨jN,n-(i+1),by lia,by lia,rfl,by rw[Zu,hl];rfl,qa1,?_,?_⟩
  ·intro b o e;rw[qa7 (qa4 e hD)];exact s4 _ _ (s3 _ _ (s2 _ _ e))
  ·have tk:Tups H4 (upd H4 D (.lst (ys++[v]))):=λb u e=>by
    have:b≠D:=λz=>by subst z;rw[jN] at e;cases e
    rw[qa7 this];exact e
   intro j z hz;by_cases hj:j<i
   ·rw[Zo (by lia)] at hz;exact mono j z H4 _ (by lia) tk (mono j z H2 H4 (by lia) (s3.trans s4).tups (rel j z hz))
   ·rw[Zv (by lia)] at hz;have:j-ys.length=0:=by
     have:=(gS_ hz).1;simp at this;lia
    rw[this] at hz;have:z=v:=by simpa using hz.symm
    subst this;have:j=i:=by lia
    subst this;exact mono _ _ H4 _ (by lia) tk r4
theorem qs4 {J:It}{H:Hp}{n k:Nat}{item:Nat->V->Hp->Prop}{g:TG}{tt:TT}{te:TE}{σ:St}{Fin:Hp->Prop}{D:Addr}(hD:H D=none) (yes:Nat->Bool) (val:Nat->V) (G:Goes J H n item) (hsz:n<sizeLine)
  (step:∀i x H2,i<n->item i x H2->Same H H2->∀os:St,os.length=k->∀(Q1:Hp->Prop) (Q2:VK),(yes i=false->∀H3,Same H2 H3->Q1 H3)->(yes i=true->∀H3,Same H2 H3->Q2 (val i) H3) ->
   g x (os++σ) H2 λσ4 H4=>tt σ4 H4 λb H5=>if b=true then te σ4 H5 Q2 else Q1 H5)
  (fin:∀H2,Same H H2->H2 D=some (.lst (((List.range n).filter yes).map val))->Fin H2) :
  ∃W:Nat->Nat->List V->Hp->Prop,(∃m,W 0 m [] (upd H D (.lst []))) /\
   ∀i m xs H2,W i m xs H2->H2 D=some (.lst xs)/\xs.length<sizeLine/\((J.stop i H2/\Fin H2)\/(J.go i H2/\∀y H3,J.yld i H2 y H3->∀os:St,os.length=k ->
    g y (os++σ) H3 λσ4 H4=>tt σ4 H4 λb H5=>if b=true then te σ4 H5 λv H6=>H6 D=some (.lst xs)/\∃m',m'<m/\W (i+1) m' (xs++[v]) (upd H6 D (.lst (xs++[v]))) else ∃m',m'<m/\W (i+1) m' xs H5)):=by
 refine⟨λi m ys H2=>i<=n/\m=n-i/\ys=((List.range i).filter yes).map val/\H2 D=some (.lst ys)/\Same H H2,⟨n,ZB _,rfl,rfl,qa1,qb3 hD⟩,?_⟩;rintro i m ys H2 ⟨hi,rfl,hl,hd,s2⟩;have j6:ys.length<=i:=by
  rw[hl,Zi];exact ZE (XR _ _) (by simp)
 refine⟨hd,by lia,?_⟩;by_cases he:i=n
 ·subst he;exact .inl ⟨G.st H2 s2,fin H2 s2 (hl▸hd)⟩
 ·refine .inr ⟨G.go i H2 (by lia) s2,λy H3 hy os ho=>?_⟩;obtain⟨s3,it⟩:=G.yl i H2 y H3 (by lia) s2 hy;refine step i y H3 (by lia) it (s2.trans s3) os ho _ _ (λwR H4 s4=>?_) (λhyes H4 s4=>?_)
  ·refine⟨n-(i+1),by lia,by lia,rfl,?_,s4 _ _ (s3 _ _ hd),(s2.trans s3).trans s4⟩;rw[hl,Xi,W7];simp[wR]
  ·have jN:=s4 _ _ (s3 _ _ hd);refine⟨jN,n-(i+1),by lia,by lia,rfl,?_,qa1,λb o e=>?_⟩
   ·rw[hl,Xi,W7];simp[hyes]
   ·rw[qa7 (qa4 e hD)];exact s4 _ _ (s3 _ _ (s2 _ _ e))
theorem ixL {X:Cx}(K:PySem.W.Frag) (h:X.K=K):IxR X (rIxL K):=h▸ix_list
theorem ixT {X:Cx}(K:PySem.W.Frag) (h:X.K=K):IxR X (rIxT K):=h▸ix_tup
theorem tupO {X:Cx}(K:PySem.W.Frag) (h:X.K=K):qg3 X (.type "tuple") (λxs H Q=>∃p ys,xs=[.ref p]/\((SqL K H p ys/\∀l,H l=none->Q (.ref l) (upd H l (.tup ys)))\/(SqT K H p ys/\Q (.ref p) H))):=h▸qo9
theorem piT {X:Cx}{tg l:Expr}{tl:TE}(K:PySem.W.Frag) (h:X.K=K) (hl:PE X l tl):PI X tg l (iTup K tl):=h▸qw4 hl
end L2
namespace Pr
open PySem L2
abbrev qt8:Stmt:=top 11
abbrev qy3:Stmt:=top 12
abbrev qM0:Stmt:=top 13
abbrev qW5:Stmt:=top 14
abbrev q31:Stmt:=top 15
abbrev sEnd:Stmt:=top 16
abbrev qy4:Stmt:=top 17
abbrev qt9:Stmt:=top 18
abbrev qq0:Stmt:=top 19
abbrev qF3:Stmt:=qg9 (top 20) 0
abbrev qM1:Stmt:=qg9 (top 20) 1
abbrev qF4:Stmt:=qg9 (top 20) 2
abbrev q32:Stmt:=top 23
abbrev xb4:Stmt:=top 24
abbrev qM2:Stmt:=top 25
abbrev ql5:Stmt:=top 27
abbrev sRow:Stmt:=top 28
abbrev qM3:Stmt:=top 29
abbrev qm5:Stmt:=top 30
abbrev qB5:Stmt:=top 31
abbrev qM4:Stmt:=top 32
abbrev xm2:Stmt:=top 34
abbrev qW6:Stmt:=top 35
abbrev qF5:Stmt:=top 36
abbrev lPot:Stmt:=top 38
abbrev qk6:Stmt:=top 39
abbrev qM5:Stmt:=top 40
abbrev lBox:Stmt:=top 41
abbrev qM6:Stmt:=top 42
abbrev qy5:Stmt:=top 43
abbrev lHas:Stmt:=top 44
abbrev ql6:Stmt:=top 45
abbrev qB6:Stmt:=top 46
abbrev qq1:Stmt:=top 47
abbrev qF6:Stmt:=top 48
abbrev qF7:Stmt:=top 49
abbrev xb5:Stmt:=top 50
abbrev qM7:Stmt:=top 51
abbrev qW7:Stmt:=top 52
abbrev qF8:Stmt:=top 53
abbrev qM8:Stmt:=top 54
abbrev qW8:Stmt:=top 55
abbrev qW9:Stmt:=top 56
abbrev q33:Stmt:=top 57
abbrev lAt:Stmt:=top 58
abbrev xb6:Stmt:=top 59
abbrev qv1:Stmt:=top 60
abbrev lLaw:Stmt:=top 61
end Pr
namespace L2
open PySem PySem.Spec PyProof.Rows
theorem qd0 {N P:List Str}{sc:Scope}(a:sc.kind=.function:=by rfl) (b:sc.isCoroutine=false:=by rfl) (c:sc.isGenerator=false:=by rfl) (d:N.Nodup:=by decide +kernel) (e:N.take P.length=P:=by rfl) (f:∀x∈P,sc.names.lookup x=some .local\/sc.names.lookup x=some .cell:=by decide +kernel) (g:∀y∈sc.names,y.2≠.free:=by decide +kernel):FnScope N P sc:=⟨a,b,c,d,e,f,g⟩
section
variable {X:Cx}
theorem psN (i:Nat){x:Str}{e:Expr}{te:TE}{pos pos':Pos}(hN:X.N.Nodup) (he:PE X e te) (hi:X.N[i]?=some x:=by rfl) (hx:Loc X.env.scope x:=by first|left;rfl|right;rfl) (hs:swapsWith e (some (.Name x pos')) pos.line X.env=pure false:=by rfl) (hf:X.fn x=true\/X.env.scope.names.lookup x=some .local:=by first|left;rfl|right;rfl|assumption):PS X (.Assign [.Name x pos'] e pos) (tAsg te (qg8 i)):=xq6 hN hi hx he hs hf
theorem pgN (i:Nat){x:Str}{pos:Pos}(hN:X.N.Nodup) (hi:X.N[i]?=some x:=by rfl) (hx:Loc X.env.scope x:=by first|left;rfl|right;rfl) (hf:X.fn x=true\/X.env.scope.names.lookup x=some .local:=by first|left;rfl|right;rfl|assumption):PG X (.Name x pos) (qg8 i):=qr7 hN hi hx hf
theorem pcN {k:Nat}{f:Addr}{fd:FuncData}{ps:List Str}{sp:Sp}{x:Str}{p pos:Pos}{e:Expr}{es:List Expr}{t:TA}(F:FnOk X.prog X.w X.K X.mg X.base CX0 k f fd ps sp) (hr:Room k X.A) (hm:X.mg x=some (.ref f)) (hk:PySem.W.keepIn X.K (.ref f)=true) (hb:Binds X.K fd ps []) (ha:PA X (e::es) t) (hg:Gl X x:=by rfl) (vR:(x==("__debug__" : Str))=false:=by decide) (he:starEach (e::es) X.env=(false,eval e X.env)::starEach es X.env:=by rfl) (jF:(backTo pos (starEach es X.env)).any (·.1)=false:=by rfl) :
  PE X (.Call (.Name x p) (e::es) [] pos) (xk7 sp [] E0 t):=qh8 F hr hg hm hk hb .nil qE1 ha vR he jF
theorem pxN {r:R2}{a b:Expr}{pos:Pos}{ta tb:TE}(hr:IxR X r) (ha:PE X a ta) (hb:PE X b tb) (hs:q71 b:=by intro _ _;rfl):PE X (.Subscript a b pos) (tOp r ta tb):=xC2 hr ha hb hs
end
end L2
namespace Pr
open PySem L2 Qf
structure Blt (mg:Str->Option Value):Prop where
 isi:mg "isinstance" = none
 int:mg "int" = none
 bool:mg "bool" = none
 tuple:mg "tuple" = none
 list:mg "list" = none
 set:mg "set" = none
 len:mg "len" = none
 all:mg "all" = none
 any:mg "any" = none
 enum:mg "enumerate" = none
 range:mg "range" = none
 max:mg "max" = none
 min:mg "min" = none
structure Cst (mg:Str->Option Value):Prop where
 first:∃t,mg "FIRST" = some (.int 2 t)
 full:∃t,mg "FULL" = some (.int 1 t)
 great:∃t,mg "GREATEST_SIZE" = some (.int 12 t)
def vN (r:List Nat):List V:=r.map λn:Nat=>V.int (n:Int)
theorem qf3 (r:List Nat):(vN r).length=r.length:=Zi ..
theorem qB7 {r:List Nat}{i:Nat}{x:V}(h:(vN r)[i]?=some x):∃n:Nat,r[i]?=some n/\x=.int (n:Int):=by
 unfold vN at h;rw[Zg] at h;obtain⟨n,h1,h2⟩:=Zr.mp h;exact⟨n,h1,h2.symm⟩
theorem xm3 {r:List Nat}{i n:Nat}(h:r[i]?=some n):(vN r)[i]?=some (.int (n:Int)):=by
 unfold vN;rw[Zg,h];rfl
theorem qu0 {r:List Nat}{i n:Nat}(h:r[i]?=some n):atI (vN r) (i:Int)=some (.int (n:Int)):=qd8 (xm3 h)
theorem qu1 (r:List Nat):vN r=(r.map λn:Nat=>(n:Int)).map V.int:=by unfold vN;rw[Y5];rfl
def RowsAt (H:Hp) (p:Addr) (rows:List Row):Prop:=∃bs:List Addr,H p=some (.tup (bs.map V.ref))/\bs.length=rows.length/\∀(i:Nat) b r,bs[i]?=some b->rows[i]?=some r->H b=some (.tup (vN r))
theorem RowsAt.mono {H H':Hp}{p:Addr}{rows:List Row}(h:RowsAt H p rows) (t:Tups H H'):RowsAt H' p rows:=by
 obtain⟨bs,h1,h2,h3⟩:=h;exact⟨bs,t _ _ h1,h2,λi b r e1 e2=>t _ _ (h3 i b r e1 e2)⟩
theorem RowsAt.same {H H':Hp}{p:Addr}{rows:List Row}(h:RowsAt H p rows) (t:Same H H'):RowsAt H' p rows:=h.mono t.tups
def RowsS (H:Hp) (p:Addr) (rows:List Row):Prop:=∃bs:List Addr,(H p=some (.tup (bs.map V.ref))\/H p=some (.lst (bs.map V.ref)))/\bs.length=rows.length/\∀(i:Nat) b r,bs[i]?=some b->rows[i]?=some r->H b=some (.tup (vN r))
theorem RowsAt.s {H:Hp}{p:Addr}{rows:List Row}(h:RowsAt H p rows):RowsS H p rows:=let ⟨bs,a,b,c⟩:=h;⟨bs,.inl a,b,c⟩
theorem RowsS.same {H H':Hp}{p:Addr}{rows:List Row}(h:RowsS H p rows) (s:Same H H'):RowsS H' p rows:=by
 obtain⟨bs,h1,h2,h3⟩:=h;exact⟨bs,h1.imp (s _ _) (s _ _),h2,λi b r e1 e2=>s _ _ (h3 i b r e1 e2)⟩
def rIxS (K:PySem.W.Frag):R2:=λx y H Q=>rIxL K x y H Q\/rIxT K x y H Q
theorem ixS {X:Cx}(K:PySem.W.Frag) (h:X.K=K):IxR X (rIxS K):=(ixL K h).or (ixT K h)
section
variable {P:Program}{w:World}{K:PySem.W.Frag}{mg:Str->Option Value}{base:Heap}
theorem xb7:FnScope ["thing"] ["thing"] (qa3 qt8):=qd0
def qS3:Sp:=λvs H Q _=>∃i:Int,vs=[.int i]/\Q (.bl true) H
theorem qX0 {f:Addr}{fd:FuncData}(F:Fun K "is_whole" "is_whole" qt8 f fd) (B:Blt mg):FnOk P w K mg base CX0 1 f fd ["thing"] qS3:=by
 refine F.ok xb7 (λvs H Q E h=>?_) (λcdv A outer s H vs Q E hr h=>?_)
 ·obtain⟨i,rfl,_⟩:=h
  rfl
 ·obtain⟨i,rfl,q⟩:=h;refine⟨_,qa8 (qa9 (qi4 (qa6 qd6 (by rfl) B.isi ZA (qa0 (pv 0) (qa0 (qh0 (v:=.ty "int") (by rfl) B.int Xd rfl) qa2)))
   (qj3 (xq5 (qa6 qd6 (by rfl) B.isi ZA (qa0 (pv 0) (qa0 (qh0 (v:=.ty "bool") (by rfl) B.bool PyProof.Rows.boot_bool rfl) qa2))))))),?_⟩
  exact⟨_,rfl,_,_,_,_,true,rfl,rfl,.inl (.int i),rfl,_,rfl,iteT ⟨_,rfl,_,_,_,_,false,rfl,rfl,.inl (.int i),rfl,_,rfl,q⟩⟩
theorem xr7:FnScope ["thing"] ["thing"] (qa3 q32):=qd0
def xr8:Sp:=λvs H Q _=>∃n:Nat,vs=[.int n]/\n<=12/\Q (.bl true) H
theorem xx1 {f fW:Addr}{fd fdW:FuncData}(F:Fun K "is_size" "is_size" q32 f fd) (B:Blt mg) (T:Cst mg) (hW:mg "is_whole" = some (.ref fW)) (FW:Fun K "is_whole" "is_whole" qt8 fW fdW) (bW:Binds K fdW ["thing"] []):FnOk P w K mg base CX0 2 f fd ["thing"] xr8:=by
 have GW:FnOk P w K mg base CX0 1 fW fdW ["thing"] qS3:=qX0 FW B;obtain⟨tg,hgr⟩:=T.great;refine F.ok xr7 (λvs H Q E h=>?_) (λcdv A outer s H vs Q E hr h=>?_)
 ·obtain⟨x,rfl,_⟩:=h
  rfl
 ·obtain⟨n,rfl,hn,q⟩:=h;refine⟨_,qa8 (qa9 (qi4 (pcN GW hr hW FW.kp bW (qa0 (pv 0) qa2)) (qj3 (qu8 qr9 qr9 qa5 (pv 0) (qc6 (v:=.int 12) (by rfl) hgr ⟨_,rfl⟩))))),?_⟩;refine⟨_,rfl,n,rfl,_,rfl,iteT ⟨_,rfl,_,_,rfl,rfl,_,rfl,?_⟩⟩;have e:decide ((n:Int)<=12)=true:=Zj (by lia);refine ite2 (λ_=>⟨_,_,rfl,rfl,?_⟩) (λh1=>absurd (Zj (Int.natCast_nonneg n)) h1);show Q (V.bl (decide ((n:Int)<=12))) H;rw[e];exact q
theorem qX1:FnScope ["thing", "many"] ["thing", "many"] (qa3 ql5):=qd0
def qF9:Sp:=λvs H Q _=>∃n m:Nat,vs=[.int n,.int m]/\n<m+2/\Q (.bl true) H
theorem xb8 {f fW:Addr}{fd fdW:FuncData}(F:Fun K "is_number" "is_number" ql5 f fd) (B:Blt mg) (T:Cst mg) (hW:mg "is_whole" = some (.ref fW)) (FW:Fun K "is_whole" "is_whole" qt8 fW fdW) (bW:Binds K fdW ["thing"] []):FnOk P w K mg base CX0 2 f fd ["thing", "many"] qF9:=by
 have GW:FnOk P w K mg base CX0 1 fW fdW ["thing"] qS3:=qX0 FW B;obtain⟨tf,hf⟩:=T.first;refine F.ok qX1 (λvs H Q E h=>?_) (λcdv A outer s H vs Q E hr h=>?_)
 ·obtain⟨n,m,rfl,_⟩:=h
  rfl
 ·obtain⟨n,m,rfl,hn,q⟩:=h;refine⟨_,qa8 (qa9 (qi4 (pcN GW hr hW FW.kp bW (qa0 (pv 0) qa2)) (qj3 (qu8 qr9 qn8 qa5 (pv 0) (qb0 qc4 (pv 1) (qc6 (v:=.int 2) (by rfl) hf ⟨_,rfl⟩)))))),?_⟩;refine⟨_,rfl,n,rfl,_,rfl,iteT ⟨_,rfl,_,_,rfl,rfl,_,rfl,?_⟩⟩;have e:decide ((n:Int)<(m:Int)+2)=true:=Zj (by lia);refine ite2 (λ_=>⟨_,rfl,_,_,rfl,rfl,_,_,rfl,rfl,?_⟩) (λh1=>absurd (Zj (Int.natCast_nonneg n)) h1);show Q (V.bl (decide ((n:Int)<(m:Int)+2))) H;rw[e];exact q
theorem xx2:FnScope ["row"] ["row"] (qa3 qy3):=qd0
def qS4:Sp:=λvs H Q _=>∃(b:Addr) (r:Row),vs=[.ref b]/\H b=some (.tup (vN r))/\r.length=4/\∀H',Same H H'->Q (.bl (decide (qh3 r))) H'
theorem qG0 {l m:List Nat}(h:(l.map λn:Nat=>(n:Int))=m.map λn:Nat=>(n:Int)):l=m:=by
 induction l generalizing m with
 |nil=>cases m with
  |nil=>rfl
  |cons b m=>simp at h
 |cons a l ih=>cases m with
  |nil=>simp at h
  |cons b m=>
   rw[Zz,Zz] at h;injection h with h1 h2
   rw[ih h2,Int.ofNat.inj h1]
theorem qX2 {f:Addr}{fd:FuncData}(F:Fun K "is_plain" "is_plain" qy3 f fd) (T:Cst mg):FnOk P w K mg base CX0 2 f fd ["row"] qS4:=by
 obtain⟨tf,hf⟩:=T.first;refine F.ok xx2 (λvs H Q E h=>?_) (λcdv A outer s H vs Q E hr h=>?_)
 ·obtain⟨b,r,rfl,_⟩:=h
  rfl
 ·obtain⟨b,r,rfl,hb,hl,q⟩:=h;refine⟨_,qa8 (qa9 (qi4 (qf7 qn8 (pxN ix_tup (pv 0) qa5) (qc6 (v:=.int 2) (by rfl) hf ⟨_,rfl⟩) (qb4 _))
   (qj3 (qf7 (q90 hr) (pv 0) (qb0 qR8 (qg0 (qa0 (pxN ix_tup (pv 0) qa5) qa2)) qa5) (qb4 _))))),?_⟩
  match r,hl with
  |[x0,x1,x2,x3],_=>
   refine⟨_,rfl,b,_,0,.int x0,rfl,rfl,SqT.of hb,rfl,_,_,rfl,rfl,_,rfl,?_⟩;refine ite2 (λhc=>?_) (λhc=>?_)
   ·have h2:x0<2:=by have:=Zq hc;lia
    refine⟨_,rfl,_,rfl,b,_,0,.int x0,rfl,rfl,SqT.of hb,rfl,(by show 1<=sizeLine;decide),λp hp=>⟨p,4,.int x0,rfl,rfl,qa1,by decide,by decide,λp2 jR=>?_⟩⟩;have kB:=qc0 (u:=.tup (List.replicate 4 (V.int x0))) (qc0 (u:=.tup [V.int x0]) hb hp) jR;refine⟨dT [(x0:Int),(x1:Int),(x2:Int),(x3:Int)],dT [(x0:Int),(x0:Int),(x0:Int),(x0:Int)],.tup kB (DatasAt.ints [(x0:Int),(x1:Int),(x2:Int),(x3:Int)]),.tup qa1 (DatasAt.ints [(x0:Int),(x0:Int),(x0:Int),(x0:Int)]),qK7 _,qK7 _,(by show 1<=60;decide),?_⟩;rw[q91];have e:decide (([(x0:Int),(x1:Int),(x2:Int),(x3:Int)]:List Int)=([(x0:Int),(x0:Int),(x0:Int),(x0:Int)]:List Int))=decide (qh3 [x0,x1,x2,x3]):=by
     congr 1;apply propext;unfold qh3;constructor
     ·intro z;have:[x0,x1,x2,x3]=[x0,x0,x0,x0]:=qG0 (l:=[x0,x1,x2,x3]) (m:=[x0,x0,x0,x0]) z;have:x0=0\/x0=1:=by lia
      rcases this with rfl|rfl
      ·exact .inl ‹_›
      ·exact .inr ‹_›
     ·rintro (z|z)<;>(cases z;rfl)
    rw[e];exact q _ ((qb3 hp).trans (qb3 jR))
   ·have h2:¬x0<2:=λz=>hc (Zj (by lia));have e:decide (qh3 [x0,x1,x2,x3])=false:=Zp (by
     rintro (z|z)<;>(cases z;lia))
    have:=q H (Same.refl H);rw[e] at this;exact this
end
end Pr
namespace Qf
theorem xx3 (l:List Nat) (a:Nat):mx (l++[a])=max (mx l) a:=by
 induction l with
 |nil=>show max a 0=max 0 a;lia
 |cons b l ih=>show max b (mx (l++[a]))=max (max b (mx l)) a;rw[ih];lia
theorem xb9 (l:List Nat):∀k,k<l.length->L2.best (l.map λn:Nat=>(n:Int)) k=(mx (l.take (k+1)):Nat)
 |0,h=>by
  cases l with
  |nil=>simp at h
  |cons a l=>show ((a:Nat):Int)=((max a 0:Nat):Int);simp
 |k+1,h=>by
  have ih:=xb9 l k (by lia);have e:(l.map λn:Nat=>(n:Int)).getD (k+1) 0=((l[k+1]:Nat):Int):=by simp[List.getD,h]
  have t:l.take (k+1+1)=l.take (k+1)++[l[k+1]]:=by rw[Xq h]
  unfold L2.best;rw[e,ih,t,xx3];split<;>lia
theorem xm4 {l:List Nat}(h:l≠[]):L2.best (l.map λn:Nat=>(n:Int)) ((l.map λn:Nat=>(n:Int)).length-1)=(mx l:Nat):=by
 have hl:0<l.length:=WU.mpr h;rw[Zi,xb9 l (l.length-1) (by lia),show l.length-1+1=l.length by lia,YT]
theorem xc3 {rows:List Row}{i:Nat}{r:Row}(h:rows[i]?=some r):deps (rows.take (i+1))=deps (rows.take i)++[1+mx (r.map (dp (rows.take i)))]:=by
 have hl:=(gS_ h).1;have he:=(gS_ h).2;rw[<- qp6,<- he,Xq hl]
theorem xr9 {rows:List Row}{x:Nat}(h:x<rows.length+2):(deps rows)[x]?=some (dp rows x):=by
 unfold dp;rw[ZG];have:x<(deps rows).length:=by rw[qp7];exact h
 rw[Zb this];rfl
end Qf
namespace Pr
open PySem L2 Qf
theorem qi8 {xs ys:List V}(hl:xs.length=ys.length) (h:∀(i:Nat) x,xs[i]?=some x->ys[i]?=some x):xs=ys:=by
 refine Wu λi=>?_;cases e:xs[i]? with
 |some x=>exact (h i x e).symm
 |none=>
  have:xs.length<=i:=List.getElem?_eq_none_iff.mp e;exact (YH (by lia)).symm
section
variable {P:Program}{w:World}{K:PySem.W.Frag}{mg:Str->Option Value}{base:Heap}
theorem scDeps:FnScope ["rows", "depths", "row"] ["rows"] (qa3 q31):=qd0
def xc4:Sp:=λvs H Q _=>∃(p:Addr) (rows:List Row),vs=[.ref p]/\RowsAt H p rows/\qb7 rows/\rows.length<=990/\∀H' D,Same H H'->H' D=some (.lst (vN (deps rows)))->Q (.ref D) H'
theorem xc5 {f:Addr}{fd:FuncData}(F:Fun K "depths_of" "depths_of" q31 f fd) (B:Blt mg):FnOk P w K mg base CX0 1 f fd ["rows"] xc4:=by
 refine F.ok scDeps (λvs H Q E h=>?_) (λcdv A outer s H vs Q E hr h=>?_)
 ·obtain⟨p,rows,rfl,_⟩:=h
  rfl
 ·obtain⟨p,rows,rfl,hR,ok,hn,q⟩:=h;refine⟨_,qb6 (psN 1 scDeps.nd (qg1 (qa0 qa5 (qa0 qa5 qa2))))
   (qb6 (qo6 YS rfl (qw4 (pv 0)) (pgN 2 scDeps.nd)
    (qa8 (qf0 (q72 ZY Z7 Z8 qe4 (pv 1) (qa0 (qb0 qc4 qa5 (qa6 (xa7 rfl) (by rfl) B.max Xe
     (qa0 (qg6 ["rows", "depths", "row"] (qa3 q31) rfl rfl rfl scDeps.nd (qw4 (pv 2)) (λcl C fp s₀ H₀=>pxN (ixL K rfl) (pv 2) (pv 0))) qa2))) qa2)))))
   (qa8 (qa9 (pv 1)))),?_⟩
  refine⟨(by show 2<=sizeLine;decide),λD hD=>?_⟩;obtain⟨bs,hp,j6,jB⟩:=id hR;have jG:=qc0 (u:=.lst [.int 0,.int 0]) hp hD;have jT:(bs.map V.ref).length=rows.length:=by rw[Zi];exact j6
  refine⟨_,rfl,p,rfl,⟨_,SqT.of jG⟩,qQ5 (K:=K) (a:=p) (xs:=bs.map V.ref) (λi σ H2=>Same H H2/\H2 D=some (.lst (vN (deps (rows.take i))))/\∃v2,σ=[some (.ref p),some (.ref D),v2])
   ⟨qb3 hD,qa1,none,rfl⟩ (λi σ H2 _ ⟨s2,_⟩=>SqT.of (s2 _ _ hp)) ?_ ?_⟩
  ·rintro i y σ H2 hy ⟨s2,jW,v2,rfl⟩;have hi:i<rows.length:=by rw[<- jT];exact (gS_ hy).1
   rw[Zg] at hy;obtain⟨b,hb,rfl⟩:=Zr.mp hy;have jD:rows[i]?=some rows[i]:=by simp[hi]
   have kU:=s2 _ _ (jB i b rows[i] hb jD);have rk:=ok i _ jD;have tl:(rows.take i).length=i:=by rw[ZS];lia
   have j9:∀x,x<i+2->(deps (rows.take i))[x]?=some (dp (rows.take i) x):=λx hx=>xr9 (by rw[tl];exact hx);generalize rows[i]=r at jD kU rk;refine⟨_,rfl,.inl ⟨rfl,_,SqL.of jW⟩,_,rfl,b,rfl,⟨_,SqT.of kU⟩,λD2 kM=>qi0 kM (λj z _=>∃x,r[j]?=some x/\z=.int (dp (rows.take i) x:Nat)) (qm4 (K:=K) kU) (by rw[qf3,rk.1];decide) (λ_ _ _ _ _ _ h=>h) ?_ ?_⟩
   ·intro j x H3 hj hx s3 Q' hq;obtain⟨m,hm,rfl⟩:=qB7 hx;have j7:=rk.2 m (Zs hm);exact⟨_,rfl,_,rfl,D,_,(m:Int),.int (dp (rows.take i) m:Nat),rfl,rfl,SqL.of (s3 _ _ jW),qu0 (j9 m j7),hq _ _ (Same.refl _) ⟨m,hm,rfl⟩⟩
   ·intro ys H3 s3 jV kZ vG;have ey:ys=(r.map (dp (rows.take i))).map (λn:Nat=>V.int (n:Int)):=by
     refine qi8 (by rw[kZ,qf3,Zi,Zi]) λj x hx=>?_;obtain⟨m,hm,rfl⟩:=vG j x hx;rw[Zg,Zg,hm];rfl
    have e2:ys=((r.map (dp (rows.take i))).map (λn:Nat=>(n:Int))).map V.int:=ey.trans (qu1 _);have jE:r.map (dp (rows.take i))≠[]:=λz=>by
     have:=Yi List.length z;rw[Zi,rk.1] at this;cases this
    refine⟨D2,(r.map (dp (rows.take i))).map (λn:Nat=>(n:Int)),rfl,e2▸jV,λz=>jE (List.map_eq_nil_iff.mp z),_,_,rfl,rfl,?_⟩;rw[xm4 jE];have jN:=s3 _ _ jW;refine⟨D,_,_,rfl,rfl,jN,?_,?_⟩
    ·rw[qf3,qp7,tl];exact qb5 (by lia)
    ·have nD:∀b o,H b=some o->b≠D:=λb o e=>qa4 e hD;refine⟨λb o e=>by rw[qa7 (nD b o e)];exact s3 _ _ (s2 _ _ e),?_,_,rfl⟩;rw[qa1,xc3 jD];unfold vN;rw[ZR]
     rfl
  ·rintro σ H2 ⟨s2,jW,v2,rfl⟩;refine⟨_,rfl,q H2 D s2 ?_⟩;rw[jT,YT] at jW;exact jW
end
end Pr
namespace Qf
theorem qG1 {rows:List Row}{e:List Nat}(h:Post rows e):e.length<=rows.length:=by
 have:=h.nd.length_le_of_subset (l₂:=List.range rows.length) λp hp=>ZW.mpr (h.lt p hp);simpa using this
theorem qy6 {rows:List Row}(ok:qb7 rows){d p:Nat}{r:Row}(hp:rows[p]?=some r) (hd:dp rows (p+2)<=d+1):∀(l e:List Nat),(∀q∈l,q∈r)->Post rows e->Post rows (l.foldl (dfs rows d) e)
 |[],_,_,pe=>pe
 |q::l,e,hl,pe=>by
  have hq:=hl q Zh;have j7:=(ok p r hp).2 q hq;have jF:=(gS_ hp).1;have hdq:dp rows q<=d:=by
   have:=qR9 (Yo.mpr ⟨q,hq,rfl⟩:dp rows q∈r.map (dp rows));have e:=qy2 ok hp;lia
  exact qy6 ok hp hd l _ (λz hz=>hl z (Ze _ hz)) (qf8 ok d e q pe (by lia) hdq).1
theorem qh5 {rows:List Row}(ok:qb7 rows){d p:Nat}{r:Row}(hp:rows[p]?=some r) (hd:dp rows (p+2)<=d+1){q:Nat}(hq:q∈r):q<rows.length+2/\dp rows q<=d:=by
 have j7:=(ok p r hp).2 q hq;have jF:=(gS_ hp).1;have:=qR9 (Yo.mpr ⟨q,hq,rfl⟩:dp rows q∈r.map (dp rows));have e:=qy2 ok hp;exact⟨by lia,by lia⟩
theorem qB8 {rows:List Row}(ok:qb7 rows){x:Nat}(hx:x<rows.length+2) (h:dp rows x<=0):x<2:=by
 by_cases z:x<2
 ·exact z
 ·exfalso;have hp:x-2<rows.length:=by lia
  have:=qy2 ok (qf2 hp);rw[show x-2+2=x by lia] at this;lia
end Qf
namespace Pr
open PySem L2 Qf
theorem qB9 {n:Nat}(h:n<=1191000):n<sizeLine:=Yg h (by decide)
def But (e:Addr) (H H':Hp):Prop:=∀b o,H b=some o->b≠e->H' b=some o
theorem But.refl (e:Addr) (H:Hp):But e H H:=λ_ _ h _=>h
theorem But.trans {e:Addr}{H H1 H2:Hp}(a:But e H H1) (b:But e H1 H2):But e H H2:=λc o h n=>b c o (a c o h n) n
theorem But.upd {e:Addr}{H:Hp}{o:HO}:But e H (upd H e o):=λb u h n=>by rw[qa7 n];exact h
theorem But.of {e:Addr}{H H':Hp}(h:Same H H'):But e H H':=λb o q _=>h b o q
theorem But.tups {e:Addr}{H H':Hp}(h:But e H H'){o:HO}(he:H e=some o) (no:∀u,o≠.tup u):Tups H H':=λb u q=>h b _ q λz=>by
 subst z;rw[q] at he;exact no u (Zw he).symm
def eK (es:List Nat):List (Key×V):=es.map λp:Nat=>(Sum.inl (p:Int),V.bl true)
theorem xs0 (es:List Nat) (p:Nat):(valV (eK es) (Sum.inl (p:Int))).isSome=decide (p∈es):=by
 rw[<- qi5];unfold eK;rw[List.any_map];by_cases h:p∈es
 ·rw[Zj h,Yb];exact⟨p,h,by simp⟩
 ·rw[Zp h,Vc];intro q hq;simp only[Function.comp,Vh];intro z;have:(q:Int)=p:=WG z;exact h (by rw[<- Int.ofNat.inj this];exact hq)
theorem xD7 {es:List Nat}{p:Nat}(h:p∉es):putK (eK es) (Sum.inl (p:Int)) (.bl true)=eK (es++[p]):=by
 unfold putK;have:=xs0 es p;rw[<- qi5,Zp h] at this;rw[Zm (by rw[this];decide)];unfold eK;rw[ZR];rfl
section
variable {P:Program}{w:World}{K:PySem.W.Frag}{mg:Str->Option Value}{base:Heap}
theorem scEnd:FnScope ["rows", "number", "ended", "quarter"] ["rows", "number", "ended"] (qa3 sEnd):=qd0
def xD8 (d:Nat):Sp:=λvs H Q _=>∃(p e:Addr) (x:Nat) (rows:List Row) (es:List Nat),vs=[.ref p,.int (x:Nat),.ref e]/\RowsS H p rows/\qb7 rows/\rows.length<=1190900/\x<rows.length+2/\dp rows x<=d/\Post rows es /\
 H e=some (.dK (eK es))/\∀H',But e H H'->H' e=some (.dK (eK (dfs rows d es x)))->Q .non H'
theorem xD9 {f:Addr}{fd:FuncData}(F:Fun K "end_rows" "end_rows" sEnd f fd) (T:Cst mg) (hE:mg "end_rows" = some (.ref f)) (bE:Binds K fd ["rows", "number", "ended"] []):∀d,FnOk P w K mg base CX0 (d+1) f fd ["rows", "number", "ended"] (xD8 d):=by
 obtain⟨tf,hf⟩:=T.first;intro d
 induction d with
 |zero=>
  refine F.ok scEnd (λvs H Q E h=>?_) (λcdv A outer s H vs Q E hr h=>?_)
  ·obtain⟨p,e,x,rows,es,rfl,_⟩:=h
   rfl
  ·obtain⟨p,e,x,rows,es,rfl,hR,ok,hn,hx,hd,pe,he,q⟩:=h;have hu:A.units+3+1<cLine:=by have:=hr.un;exact Yg (ZO _ _) (show A.units+3+1+199<cLine from by simpa using this)
   have x2:=qB8 ok hx hd;refine⟨_,qb6 (qc9 (qj6 (qb2 qn8 (pv 1) (qc6 (v:=.int 2) (by rfl) hf ⟨_,rfl⟩) (qb4 _)) (qg7 (qA7 (xr1 hu (qb0 qe0 (pv 1) (qc6 (v:=.int 2) (by rfl) hf ⟨_,rfl⟩)) (pv 2))))).pt (qa8 q58) qb1) qc3,?_⟩;refine⟨_,rfl,_,_,rfl,rfl,_,rfl,?_⟩;rw[Zj (show (x:Int)<2 by lia)];exact iteT (iteT (q H (But.refl e H) he))
 |succ d ih=>
  refine F.ok scEnd (λvs H Q E h=>?_) (λcdv A outer s H vs Q E hr h=>?_)
  ·obtain⟨p,e,x,rows,es,rfl,_⟩:=h
   rfl
  ·obtain⟨p,e,x,rows,es,rfl,hR,ok,hn,hx,hd,pe,he,q⟩:=h;have hu:A.units+3+1<cLine:=by have:=hr.un;exact Yg (ZO _ (16*(d+1)+199)) (show A.units+3+1+(16*(d+1)+199)<cLine from by
    have h2:A.units+3+16*(d+1)+200<cLine:=this;lia)
   refine⟨_,qb6 (qc9 (qj6 (qb2 qn8 (pv 1) (qc6 (v:=.int 2) (by rfl) hf ⟨_,rfl⟩) (qb4 _)) (qg7 (qA7 (xr1 hu (qb0 qe0 (pv 1) (qc6 (v:=.int 2) (by rfl) hf ⟨_,rfl⟩)) (pv 2))))).pt (qa8 q58) qb1)
    (qb6 (qo6 YS rfl (qw4 (pxN (ixS K rfl) (pv 0) (qb0 qe0 (pv 1) (qc6 (v:=.int 2) (by rfl) hf ⟨_,rfl⟩)))) (pgN 3 scEnd.nd)
     (qa8 (qf0 (pcN ih hr hE F.kp bE (qa0 (pv 0) (qa0 (pv 3) (qa0 (pv 2) qa2)))))))
    (qa8 (qs3 hu (pv 2) (qb0 qe0 (pv 1) (qc6 (v:=.int 2) (by rfl) hf ⟨_,rfl⟩)) qk8 (by rfl)))),?_⟩
   refine⟨_,rfl,_,_,rfl,rfl,_,rfl,?_⟩;unfold dfs at q;refine ite2 (λhc=>?_) (λhc=>?_)
   ·have x2:x<2:=by have:=Zq hc;lia
    rw[Zt (.inl x2)] at q;exact iteT (q H (But.refl e H) he)
   ·have x2:¬x<2:=λz=>hc (Zj (by lia));have ex:(x:Int)-2=((x-2:Nat):Int):=by lia
    have dg:DGet H e (.int ((x:Int)-2)) (valV (eK es) (Sum.inl ((x-2:Nat):Int))):=by rw[ex];exact DGet.k (k:=Sum.inl ((x-2:Nat):Int)) he
    refine⟨_,rfl,_,_,rfl,rfl,_,rfl,e,_,rfl,dg,_,rfl,?_⟩;rw[xs0];refine ite2 (λhm=>?_) (λhm=>?_)
    ·rw[Zt (.inr (Zq hm))] at q;exact q H (But.refl e H) he
    ·have hnm:x-2∉es:=λz=>hm (Zj z);rw[Zm (by rintro (z|z);exact x2 z;exact hnm z)] at q;have j7:x-2<rows.length:=by lia
     have hg:=qf2 j7;generalize rows.getD (x-2) []=r at q hg;obtain⟨bs,hp,j6,jB⟩:=id hR;have wZ:dp rows (x-2+2)<=d+1:=by rw[show x-2+2=x by lia];exact hd
     have wC:bs[x-2]?=some (bs[x-2]'(by lia)):=by simp[show x-2<bs.length by lia]
     have kU:=jB (x-2) _ r wC hg;have nbe:∀b∈bs,b≠e:=λb hb z=>by
      obtain⟨j,hj,ej⟩:=ZJ.mp hb;have:=jB j b (rows[j]'(by lia)) (by rw[Zb hj,ej]) (Zb (by lia));rw[z,he] at this;cases this
     have npe:p≠e:=λz=>by
      rw[z,he] at hp;rcases hp with hp|hp<;>cases hp
     have hRm:∀H2,But e H H2->RowsS H2 p rows:=λH2 s2=>⟨bs,hp.imp (λh=>s2 _ _ h npe) (λh=>s2 _ _ h npe),j6,λi b r e1 e2=>s2 _ _ (jB i b r e1 e2) (nbe b (Zs e1))⟩;have ixx:∀Q':VK,Q' (.ref (bs[x-2]'(by lia))) H->rIxS K (.ref p) (.int ((x:Int)-2)) H Q':=λQ' hQ=>by
      rcases hp with h|h
      ·exact .inr ⟨p,_,((x-2:Nat):Int),.ref (bs[x-2]'(by lia)),rfl,Yi V.int ex,SqT.of h,qd8 (by rw[Zg,wC];rfl),hQ⟩
      ·exact .inl ⟨p,_,((x-2:Nat):Int),.ref (bs[x-2]'(by lia)),rfl,Yi V.int ex,SqL.of h,qd8 (by rw[Zg,wC];rfl),hQ⟩
     refine⟨_,rfl,_,rfl,_,_,rfl,rfl,ixx _ ⟨_,rfl,⟨_,SqT.of kU⟩,
      qQ5 (K:=K) (xs:=vN r) (λi σ H2=>But e H H2/\H2 e=some (.dK (eK ((r.take i).foldl (dfs rows d) es)))/\∃v3,σ=[some (.ref p),some (.int (x:Nat)),some (.ref e),v3])
      ⟨But.refl e H,he,none,rfl⟩ (λi σ H2 _ ⟨s2,_⟩=>SqT.of (s2.tups he (λu z=>by cases z) _ _ kU)) ?_ ?_⟩⟩
     ·rintro i y σ H2 hy ⟨s2,kE,v3,rfl⟩;obtain⟨m,hm,rfl⟩:=qB7 hy;have hq:=Zs hm;obtain⟨b1,b2⟩:=qh5 ok hg wZ hq;refine⟨_,rfl,_,rfl,_,rfl,p,e,m,rows,(r.take i).foldl (dfs rows d) es,rfl,hRm H2 s2,ok,hn,b1,b2,qy6 ok hg wZ _ es (λz hz=>WJ hz) pe,kE,λH3 s3 vF=>⟨s2.trans s3,?_,_,rfl⟩⟩;have hml:=(gS_ hm).1;have hme:=(gS_ hm).2;rw[<- Xq hml,Vf,hme];exact vF
     ·rintro σ H2 ⟨s2,kE,v3,rfl⟩;rw[qf3,YT] at kE;have pf:=qy6 ok hg wZ r es (λz hz=>hz) pe;have fin:=(qf8 ok (d+1) es x pe hx hd).1;unfold dfs at fin;rw[Zm (by rintro (z|z);exact x2 z;exact hnm z)] at fin;have eg:rows.getD (x-2) []=r:=by
       rw[ZG,hg];rfl
      rw[eg] at fin;have hni:x-2∉r.foldl (dfs rows d) es:=λz=>by
       have:=(Wt.mp fin.nd).2.2 (x-2) z (x-2) (by simp);exact this rfl
      have dq:DPut H2 e (.int ((x:Int)-2)) (.bl true) (upd H2 e (.dK (eK (r.foldl (dfs rows d) es++[x-2])))):=by
       rw[ex,<- xD7 hni];refine DPut.k (k:=Sum.inl ((x-2:Nat):Int)) kE ?_;unfold eK;rw[Zi];exact qB9 (by have:=qG1 pf;lia)
      exact⟨_,rfl,_,rfl,_,_,rfl,rfl,e,_,rfl,dq,q _ (s2.trans But.upd) qa1⟩
theorem scPlaces:FnScope ["rows", "top", "ended"] ["rows", "top"] (qa3 qy4):=qd0
def qv2 (d:Nat):Sp:=λvs H Q _=>∃(p:Addr) (x:Nat) (rows:List Row),vs=[.ref p,.int (x:Nat)]/\RowsS H p rows/\qb7 rows/\rows.length<=1190900/\x<rows.length+2/\dp rows x<=d /\
 ∀H' D,Same H H'->H' D=some (.lst (vN (dfs rows d [] x)))->Q (.ref D) H'
theorem qM9 {f fE:Addr}{fd fdE:FuncData}(F:Fun K "places_as_ended" "places_as_ended" qy4 f fd) (B:Blt mg) (T:Cst mg) (hE:mg "end_rows" = some (.ref fE)) (FE:Fun K "end_rows" "end_rows" sEnd fE fdE) (bE:Binds K fdE ["rows", "number", "ended"] []) (d:Nat):FnOk P w K mg base CX0 (d+2) f fd ["rows", "top"] (qv2 d):=by
 have GE:FnOk P w K mg base CX0 (d+1) fE fdE ["rows", "number", "ended"] (xD8 d):=xD9 FE T hE bE d;refine F.ok scPlaces (λvs H Q E h=>?_) (λcdv A outer s H vs Q E hr h=>?_)
 ·obtain⟨p,x,rows,rfl,_⟩:=h
  rfl
 ·obtain⟨p,x,rows,rfl,hR,ok,hn,hx,hd,q⟩:=h;refine⟨_,qb6 (psN 2 scPlaces.nd qp9)
   (qb6 (qf0 (pcN GE hr hE FE.kp bE (qa0 (pv 0) (qa0 (pv 1) (qa0 (pv 2) qa2)))))
   (qa8 (qa9 (qc1 (q25 rfl) (by rfl) B.list Wv (qa0 (pv 2) qa2))))),?_⟩
  refine λe he=>⟨_,rfl,_,rfl,_,rfl,p,e,x,rows,[],rfl,hR.same (qb3 he),ok,hn,hx,hd,qi6 rows,qa1,λH2 s2 kE=>?_⟩;refine⟨_,rfl,e,_,rfl,kE,λl hl=>q _ l ?_ ?_⟩
  ·intro b o z;have nb:b≠e:=qa4 z he;exact qc0 (s2 b o (qc0 z he) nb) hl
  ·rw[qa1];unfold eK vN;rw[Y5]
   rfl
end
end Pr
namespace Qf
inductive Tr
 |z|o|nd (a b c d:Tr) deriving DecidableEq
namespace Tr
def kids:Tr->List Tr
 |nd a b c d=>[a,b,c,d]
 |_=>[]
def dep:Tr->Nat
 |nd a b c d=>1+mx [dep a,dep b,dep c,dep d]
 |_=>0
def Red:Tr->Prop
 |nd a b c d=>¬(a=z/\b=z/\c=z/\d=z)/\¬(a=o/\b=o/\c=o/\d=o)/\Red a/\Red b/\Red c/\Red d
 |_=>True
def post:Tr->List Tr->List Tr
 |nd a b c d,e=>if nd a b c d∈e then e else post d (post c (post b (post a e)))++[nd a b c d]
 |_,e=>e
def In (L:List Tr) (t:Tr):Prop:=t=z\/t=o\/t∈L
theorem In.app {L s:List Tr}{t:Tr}(h:In L t):In (L++s) t:=h.imp id λh=>h.imp id λh=>YV _ h
structure Ord (L:List Tr):Prop where
 nd:L.Nodup
 ch:∀(i:Nat) t,L[i]?=some t->(∃a b c d,t=.nd a b c d)/\∀s∈kids t,s=z\/s=o\/∃j:Nat,j<i/\L[j]?=some s
theorem ord_nil:Ord []:=⟨W1,λi t h=>by simp at h⟩
theorem post_ext:∀(t:Tr) (e:List Tr),∃s,post t e=e++s
 |z,e=>⟨[],by simp[post]⟩
 |o,e=>⟨[],by simp[post]⟩
 |nd a b c d,e=>by
  unfold post;split
  ·exact⟨[],by simp⟩
  ·obtain⟨s1,h1⟩:=post_ext a e;obtain⟨s2,h2⟩:=post_ext b (post a e);obtain⟨s3,h3⟩:=post_ext c (post b (post a e));obtain⟨s4,h4⟩:=post_ext d (post c (post b (post a e)));exact⟨s1++s2++s3++s4++[nd a b c d],by rw[h4,h3,h2,h1];simp⟩
theorem In.post {L:List Tr}{t:Tr}(s:Tr) (h:In L t):In (post s L) t:=by
 obtain⟨u,e⟩:=post_ext s L;rw[e];exact h.app
theorem qi9:∀(t:Tr) (e:List Tr) (s:Tr),s∈post t e->s∈e\/sizeOf s<=sizeOf t
 |z,e,s,h=>.inl h
 |o,e,s,h=>.inl h
 |nd a b c d,e,s,h=>by
  unfold post at h;split at h
  ·exact .inl h
  ·have sz:sizeOf (nd a b c d)=1+sizeOf a+sizeOf b+sizeOf c+sizeOf d:=by simp
   rcases Z1.mp h with h|h
   ·rcases qi9 d _ s h with h|h
    ·rcases qi9 c _ s h with h|h
     ·rcases qi9 b _ s h with h|h
      ·rcases qi9 a _ s h with h|h
       ·exact .inl h
       ·exact .inr (by lia)
      ·exact .inr (by lia)
     ·exact .inr (by lia)
    ·exact .inr (by lia)
   ·have:s=nd a b c d:=by simpa using h
    rw[this];exact .inr (Zd _)
theorem not_below {a b c d:Tr}{e:List Tr}(h:nd a b c d∉e):nd a b c d∉post d (post c (post b (post a e))):=λh2=>by
 have sz:sizeOf (nd a b c d)=1+sizeOf a+sizeOf b+sizeOf c+sizeOf d:=by simp
 rcases qi9 d _ _ h2 with h2|h2
 ·rcases qi9 c _ _ h2 with h2|h2
  ·rcases qi9 b _ _ h2 with h2|h2
   ·rcases qi9 a _ _ h2 with h2|h2
    ·exact h h2
    ·lia
   ·lia
  ·lia
 ·lia
theorem post_ord:∀(t:Tr) (e:List Tr),Ord e->Ord (post t e)/\In (post t e) t
 |z,e,h=>⟨h,.inl rfl⟩
 |o,e,h=>⟨h,.inr (.inl rfl)⟩
 |nd a b c d,e,h=>by
  unfold post;split
  ·rename_i hm;exact⟨h,.inr (.inr hm)⟩
  ·rename_i hm;obtain⟨o1,i1⟩:=post_ord a e h;obtain⟨o2,i2⟩:=post_ord b _ o1;obtain⟨o3,i3⟩:=post_ord c _ o2;obtain⟨o4,i4⟩:=post_ord d _ o3;have i1:=((i1.post b).post c).post d;have i2:=(i2.post c).post d;have i3:=i3.post d;have nb:=not_below hm;generalize post d (post c (post b (post a e)))=L at o4 i1 i2 i3 i4 nb;refine⟨⟨?_,?_⟩,.inr (.inr (by simp))⟩
   ·rw[Wt];exact⟨o4.nd,by simp,λx hx y hy e=>nb (by
     have:y=nd a b c d:=by simpa using hy
     rw[<- this,<- e];exact hx)⟩
   ·intro i t ht;by_cases hi:i<L.length
    ·rw[Zo hi] at ht;obtain⟨h1,h2⟩:=o4.ch i t ht;refine⟨h1,λs hs=>(h2 s hs).imp id λh=>h.imp id λ⟨j,hj,e⟩=>⟨j,hj,?_⟩⟩;rw[Zo (by lia)];exact e
    ·have j6:=(gS_ ht).1;rw[Zu] at j6;have vW:i=L.length:=by simp at j6;lia
     subst vW;have et:t=nd a b c d:=by simpa using ht.symm
     subst et;refine⟨⟨a,b,c,d,rfl⟩,λs hs=>?_⟩;have jL:In L s:=by
      have:s=a\/s=b\/s=c\/s=d:=by simpa [kids] using hs
      rcases this with rfl|rfl|rfl|rfl<;>assumption
     refine jL.imp id λh=>h.imp id λhm=>?_;obtain⟨j,hj,e⟩:=ZJ.mp hm;exact⟨j,hj,by rw[Zo hj,Zb hj,e]⟩
def name (L:List Tr):Tr->Nat
 |z=>0
 |o=>1
 |t=>L.idxOf t+2
def rowsOf (L:List Tr):List Row:=L.map λt=>(kids t).map (name L)
theorem qy7 (L:List Tr) (a b c d:Tr):name L (.nd a b c d)=L.idxOf (.nd a b c d)+2:=rfl
theorem name_at {L:List Tr}(h:Ord L){i:Nat}{t:Tr}(e:L[i]?=some t):name L t=i+2:=by
 obtain⟨⟨a,b,c,d,rfl⟩,_⟩:=h.ch i t e;rw[qy7];congr 1;have hl:=(gS_ e).1;have he:=(gS_ e).2;rw[<- he];exact h.nd.idxOf_getElem i hl
theorem name_in {L:List Tr}(h:Ord L){t:Tr}(hi:In L t):(t=z/\name L t=0)\/(t=o/\name L t=1)\/∃i:Nat,L[i]?=some t/\name L t=i+2:=by
 rcases hi with rfl|rfl|hm
 ·exact .inl ⟨rfl,rfl⟩
 ·exact .inr (.inl ⟨rfl,rfl⟩)
 ·obtain⟨j,hj,e⟩:=ZJ.mp hm;have e':L[j]?=some t:=by rw[Zb hj,e]
  exact .inr (.inr ⟨j,e',name_at h e'⟩)
theorem xm5 {L:List Tr}(h:Ord L){s t:Tr}(hs:In L s) (ht:In L t) (e:name L s=name L t):s=t:=by
 rcases name_in h hs with ⟨rfl,e1⟩|⟨rfl,e1⟩|⟨i,e0,e1⟩
 ·rcases name_in h ht with ⟨rfl,e2⟩|⟨rfl,e2⟩|⟨j,e3,e2⟩
  ·rfl
  ·lia
  ·lia
 ·rcases name_in h ht with ⟨rfl,e2⟩|⟨rfl,e2⟩|⟨j,e3,e2⟩
  ·lia
  ·rfl
  ·lia
 ·rcases name_in h ht with ⟨rfl,e2⟩|⟨rfl,e2⟩|⟨j,e3,e2⟩
  ·lia
  ·lia
  ·have:i=j:=by lia
   subst this;rw[e0] at e3;exact Zw e3
theorem name_app {L s:List Tr}{t:Tr}(h:In L t) (hz:Ord L):name (L++s) t=name L t:=by
 rcases name_in hz h with ⟨rfl,_⟩|⟨rfl,_⟩|⟨i,e,_⟩
 ·rfl
 ·rfl
 ·obtain⟨⟨a,b,c,d,rfl⟩,_⟩:=hz.ch i t e;rw[qy7,qy7,Vg,Zt (Zs e)]
theorem kid_in {L:List Tr}(h:Ord L){i:Nat}{t s:Tr}(e:L[i]?=some t) (hs:s∈kids t):In L s/\name L s<i+2:=by
 rcases (h.ch i t e).2 s hs with rfl|rfl|⟨j,hj,e2⟩
 ·exact⟨.inl rfl,by show 0<_;lia⟩
 ·exact⟨.inr (.inl rfl),by show 1<_;lia⟩
 ·exact⟨.inr (.inr (Zs e2)),by rw[name_at h e2];lia⟩
theorem rowsOf_len (L:List Tr):(rowsOf L).length=L.length:=by simp[rowsOf]
theorem rowsOf_at {L:List Tr}{i:Nat}{t:Tr}(e:L[i]?=some t):(rowsOf L)[i]?=some ((kids t).map (name L)):=by
 unfold rowsOf;rw[Zg,e];rfl
theorem qs5 {L:List Tr}{i:Nat}{r:Row}(e:(rowsOf L)[i]?=some r):∃t,L[i]?=some t/\r=(kids t).map (name L):=by
 unfold rowsOf at e;rw[Zg] at e;obtain⟨t,h1,h2⟩:=Zr.mp e;exact⟨t,h1,h2.symm⟩
theorem rowsOf_ok {L:List Tr}(h:Ord L):qb7 (rowsOf L):=λp r hp=>by
 obtain⟨t,ht,rfl⟩:=qs5 hp;obtain⟨⟨a,b,c,d,rfl⟩,_⟩:=h.ch p t ht;refine⟨rfl,λx hx=>?_⟩;obtain⟨s,hs,rfl⟩:=Yo.mp hx;exact (kid_in h ht hs).2
theorem ql7 {L:List Tr}(h:Ord L):∀{k l:List Tr},(∀s∈k,In L s)->(∀s∈l,In L s)->k.map (name L)=l.map (name L)->k=l
 |[],[],_,_,_=>rfl
 |[],_::_,_,_,e=>by simp at e
 |_::_,[],_,_,e=>by simp at e
 |a::k,b::l,h1,h2,e=>by
  simp only[Zz,Y1] at e;rw[xm5 h (h1 a Zh) (h2 b Zh) e.1,ql7 h (λs hs=>h1 s (Ze _ hs)) (λs hs=>h2 s (Ze _ hs)) e.2]
theorem qX3 {s t:Tr}(hs:∃a b c d,s=.nd a b c d) (ht:∃a b c d,t=.nd a b c d) (e:kids s=kids t):s=t:=by
 obtain⟨a,b,c,d,rfl⟩:=hs;obtain⟨a',b',c',d',rfl⟩:=ht;simpa [kids] using e
theorem rowsOf_nodup {L:List Tr}(h:Ord L):(rowsOf L).Nodup:=by
 rw[nd_iff];intro i j kD hj e;rw[rowsOf_len] at hj;have ei:L[i]?=some L[i]:=Zb (by lia);have ej:L[j]?=some L[j]:=Zb hj;rw[rowsOf_at ei,rowsOf_at ej] at e;have:=qX3 (h.ch i _ ei).1 (h.ch j _ ej).1 (ql7 h (λs hs=>(kid_in h ei hs).1) (λs hs=>(kid_in h ej hs).1) (Zw e));have h2:=nd_iff.mp h.nd i j kD hj;rw[ei,ej] at h2;exact h2 (by rw[this])
end Tr
open Tr
def tr (rows:List Row):Nat->Nat->Tr
 |0,x=>if x=1 then .o else .z
 |d+1,x=>if x=0 then .z else if x=1 then .o else .nd (tr rows d ((rows.getD (x-2) []).getD 0 0)) (tr rows d ((rows.getD (x-2) []).getD 1 0)) (tr rows d ((rows.getD (x-2) []).getD 2 0)) (tr rows d ((rows.getD (x-2) []).getD 3 0))
theorem qy8 (rows:List Row) (d:Nat):tr rows d 0=.z:=by cases d<;>rfl
theorem qN0 (rows:List Row) (d:Nat):tr rows d 1=.o:=by cases d<;>rfl
theorem ql8 {r:Row}(h:r.length=4):∃a b c d,r=[a,b,c,d]:=by
 match r,h with
 |[a,b,c,d],_=>exact⟨a,b,c,d,rfl⟩
theorem xc6 {rows:List Row}{d p a b c e:Nat}(hp:rows[p]?=some [a,b,c,e]):tr rows (d+1) (p+2)=.nd (tr rows d a) (tr rows d b) (tr rows d c) (tr rows d e):=by
 have:rows.getD p []=[a,b,c,e]:=by rw[ZG,hp];rfl
 show (if p+2=0 then _ else if p+2=1 then _ else _)=_;rw[Zm (by lia),Zm (by lia),show p+2-2=p by lia,this]
 rfl
theorem qu2 {rows:List Row}(ok:qb7 rows){x:Nat}(hx:x<rows.length+2) (h:¬x<2):∃p a b c d,x=p+2/\rows[p]?=some [a,b,c,d]:=by
 have hp:x-2<rows.length:=by lia
 have hg:rows[x-2]?=some rows[x-2]:=Zb hp;obtain⟨a,b,c,d,e⟩:=ql8 (ok _ _ hg).1;exact⟨x-2,a,b,c,d,by lia,by rw[hg,e]⟩
theorem qq2 {rows:List Row}(ok:qb7 rows):∀(d d' x:Nat),dp rows x<=d->dp rows x<=d'->x<rows.length+2->tr rows d x=tr rows d' x:=by
 intro d
 induction d with
 |zero=>
  intro d' x h1 h2 hx;have x2:=qB8 ok hx h1
  match x,x2 with
  |0,_=>rw[qy8,qy8]
  |1,_=>rw[qN0,qN0]
 |succ d ih=>
  intro d' x h1 h2 hx;by_cases x2:x<2
  ·match x,x2 with
   |0,_=>rw[qy8,qy8]
   |1,_=>rw[qN0,qN0]
  ·obtain⟨p,a,b,c,e,rfl,hp⟩:=qu2 ok hx x2
   match d',h2 with
   |0,h2=>exact absurd (qB8 ok hx h2) x2
   |d'+1,h2=>
    have q:=λy (hy:y∈[a,b,c,e])=>qh5 ok hp h1 hy;have q':=λy (hy:y∈[a,b,c,e])=>qh5 ok hp h2 hy;rw[xc6 hp,xc6 hp,ih d' a (q a (by simp)).2 (q' a (by simp)).2 (q a (by simp)).1,ih d' b (q b (by simp)).2 (q' b (by simp)).2 (q b (by simp)).1,ih d' c (q c (by simp)).2 (q' c (by simp)).2 (q c (by simp)).1,ih d' e (q e (by simp)).2 (q' e (by simp)).2 (q e (by simp)).1]
def T (rows:List Row) (x:Nat):Tr:=tr rows (dp rows x) x
theorem qi1 (rows:List Row):T rows 0=.z:=qy8 _ _
theorem qo2 (rows:List Row):T rows 1=.o:=qN0 _ _
theorem qq3 {rows:List Row}(ok:qb7 rows){p a b c e:Nat}(hp:rows[p]?=some [a,b,c,e]):T rows (p+2)=.nd (T rows a) (T rows b) (T rows c) (T rows e):=by
 have jF:=(gS_ hp).1;obtain⟨d,hd⟩:∃d,dp rows (p+2)=d+1:=⟨_,by rw[qy2 ok hp];exact Nat.add_comm _ _⟩;have q:=λy (hy:y∈[a,b,c,e])=>qh5 ok hp (WX hd) hy;unfold T;rw[hd,xc6 hp,qq2 ok d _ a (q a (by simp)).2 (Zd _) (q a (by simp)).1,qq2 ok d _ b (q b (by simp)).2 (Zd _) (q b (by simp)).1,qq2 ok d _ c (q c (by simp)).2 (Zd _) (q c (by simp)).1,qq2 ok d _ e (q e (by simp)).2 (Zd _) (q e (by simp)).1]
theorem xJ7 {rows:List Row}(ok:qb7 rows) (nd:rows.Nodup):∀(d x y:Nat),dp rows x<=d->x<rows.length+2->y<rows.length+2->T rows x=T rows y->x=y:=by
 intro d;have low:∀x y,x<2->y<rows.length+2->T rows x=T rows y->x=y:=λx y x2 hy e=>by
  by_cases y2:y<2
  ·match x,y,x2,y2 with
   |0,0,_,_=>rfl
   |1,1,_,_=>rfl
   |0,1,_,_=>rw[qi1,qo2] at e;cases e
   |1,0,_,_=>rw[qi1,qo2] at e;cases e
  ·obtain⟨p,a,b,c,f,rfl,hp⟩:=qu2 ok hy y2;rw[qq3 ok hp] at e
   match x,x2 with
   |0,_=>rw[qi1] at e;cases e
   |1,_=>rw[qo2] at e;cases e
 induction d with
 |zero=>exact λx y h hx hy e=>low x y (qB8 ok hx h) hy e
 |succ d ih=>
  intro x y h hx hy e;by_cases x2:x<2
  ·exact low x y x2 hy e
  ·by_cases y2:y<2
   ·exact (low y x y2 hx e.symm).symm
   ·obtain⟨p,a,b,c,f,rfl,hp⟩:=qu2 ok hx x2;obtain⟨p',a',b',c',f',rfl,hp'⟩:=qu2 ok hy y2;rw[qq3 ok hp,qq3 ok hp'] at e;have q:=λy (hy:y∈[a,b,c,f])=>qh5 ok hp h hy;have q':∀y∈[a',b',c',f'],y<rows.length+2:=λy hy=>by
     have:=(ok _ _ hp').2 y hy;have:=(gS_ hp').1;lia
    injection e with e1 e2 e3 e4
    have h1:=ih a a' (q a (by simp)).2 (q a (by simp)).1 (q' a' (by simp)) e1;have h2:=ih b b' (q b (by simp)).2 (q b (by simp)).1 (q' b' (by simp)) e2;have h3:=ih c c' (q c (by simp)).2 (q c (by simp)).1 (q' c' (by simp)) e3;have h4:=ih f f' (q f (by simp)).2 (q f (by simp)).1 (q' f' (by simp)) e4;subst h1 h2 h3 h4;have:p=p':=by
     rcases Ww p p' with z|z|z
     ·exact absurd (hp.trans hp'.symm) (nd_iff.mp nd p p' z (gS_ hp').1)
     ·exact z
     ·exact absurd (hp'.trans hp.symm) (nd_iff.mp nd p' p z (gS_ hp).1)
    rw[this]
def tau (rows:List Row) (p:Nat):Tr:=T rows (p+2)
theorem xx4 {rows:List Row}(ok:qb7 rows) (nd:rows.Nodup){e:List Nat}(pe:Post rows e){p:Nat}(hp:p<rows.length):tau rows p∈e.map (tau rows)<->p∈e:=by
 constructor
 ·intro h;obtain⟨q,hq,e2⟩:=Yo.mp h;have:=xJ7 ok nd _ (q+2) (p+2) (Zd _) (by have:=pe.lt q hq;lia) (by lia) e2;have:q=p:=by lia
  rw[<- this];exact hq
 ·exact λh=>Yo.mpr ⟨p,h,rfl⟩
theorem qX4 {rows:List Row}(ok:qb7 rows) (nd:rows.Nodup):∀(d:Nat) (e:List Nat) (x:Nat),Post rows e->x<rows.length+2->dp rows x<=d->(dfs rows d e x).map (tau rows)=post (T rows x) (e.map (tau rows)):=by
 intro d
 induction d with
 |zero=>
  intro e x pe hx hd;have x2:=qB8 ok hx hd
  match x,x2 with
  |0,_=>rw[qi1];rfl
  |1,_=>rw[qo2];rfl
 |succ d ih=>
  intro e x pe hx hd;by_cases x2:x<2
  ·have:dfs rows (d+1) e x=e:=by
    show (if x<2\/x-2∈e then e else _)=e;rw[Zt (.inl x2)]
   rw[this]
   match x,x2 with
   |0,_=>rw[qi1];rfl
   |1,_=>rw[qo2];rfl
  ·obtain⟨p,a,b,c,f,rfl,hp⟩:=qu2 ok hx x2;have jF:=(gS_ hp).1;have hm:=xx4 ok nd pe jF;have hg:rows.getD p []=[a,b,c,f]:=by rw[ZG,hp];rfl
   have et:tau rows p=.nd (T rows a) (T rows b) (T rows c) (T rows f):=qq3 ok hp;rw[qq3 ok hp];show (if p+2<2\/p+2-2∈e then e else (rows.getD (p+2-2) []).foldl (dfs rows d) e++[p+2-2]).map (tau rows)=(if _∈e.map (tau rows) then _ else _);rw[show p+2-2=p by lia,<- et,hg];by_cases k6:p∈e
   ·rw[Zt (.inr k6),Zt (hm.mpr k6)]
   ·rw[Zm (by rintro (z|z);lia;exact k6 z),Zm (λz=>k6 (hm.mp z))];have q:=λy (hy:y∈[a,b,c,f])=>qh5 ok hp hd hy;obtain⟨qa,qa'⟩:=q a (by simp);obtain⟨qb,qb'⟩:=q b (by simp);obtain⟨qc,qc'⟩:=q c (by simp);obtain⟨qf,qf'⟩:=q f (by simp);have p1:=(qf8 ok d e a pe qa qa').1;have p2:=(qf8 ok d _ b p1 qb qb').1;have p3:=(qf8 ok d _ c p2 qc qc').1;show (dfs rows d (dfs rows d (dfs rows d (dfs rows d e a) b) c) f++[p]).map (tau rows)=_;rw[ZR,ih _ f p3 qf qf',ih _ c p2 qc qc',ih _ b p1 qb qb',ih _ a pe qa qa',et];show _++[tau rows p]=_;rw[et]
theorem qm6 {n top:Nat}{rows:List Row}(c:Canon n top rows):rows=rowsOf (post (T rows top) [])/\top=name (post (T rows top) []) (T rows top):=by
 have h:=qX4 c.rok c.unlike n [] top (qi6 rows) c.inn c.deep;rw[c.ends] at h;have hord:Ord (post (T rows top) [])/\In (post (T rows top) []) (T rows top):=post_ord _ _ ord_nil;have hpost:post (T rows top) []=(List.range rows.length).map (tau rows):=h.symm;obtain⟨ho,hi⟩:=hord;generalize post (T rows top) []=L at ho hi hpost;have lat:∀p,p<rows.length->L[p]?=some (tau rows p):=λp hp=>by
  rw[hpost,Zg,Y4 hp];rfl
 have hL:L.length=rows.length:=by rw[hpost];simp
 have nmq:∀q,q<rows.length+2->name L (T rows q)=q:=λq hq=>by
  by_cases q2:q<2
  ·match q,q2 with
   |0,_=>rw[qi1];rfl
   |1,_=>rw[qo2];rfl
  ·have:=name_at ho (lat (q-2) (by lia));unfold tau at this;rw[show q-2+2=q by lia] at this;exact this
 refine⟨?_,(nmq top c.inn).symm⟩;refine Wu λp=>?_;by_cases hp:p<rows.length
 ·have hg:rows[p]?=some rows[p]:=Zb hp;obtain⟨a,b,e,f,er⟩:=ql8 (c.rok p _ hg).1;rw[er] at hg;rw[hg,rowsOf_at (lat p hp)];have et:tau rows p=.nd (T rows a) (T rows b) (T rows e) (T rows f):=qq3 c.rok hg;have lt:∀y∈[a,b,e,f],y<rows.length+2:=λy hy=>by
   have:=(c.rok _ _ hg).2 y hy;lia
  rw[et];show some [a,b,e,f]=some [name L (T rows a),name L (T rows b),name L (T rows e),name L (T rows f)];rw[nmq a (lt a (by simp)),nmq b (lt b (by simp)),nmq e (lt e (by simp)),nmq f (lt f (by simp))]
 ·rw[YH (by lia),YH (by rw[rowsOf_len];lia)]
theorem q34 {n n' top top':Nat}{rows rows':List Row}(c:Canon n top rows) (c':Canon n' top' rows') (e:T rows top=T rows' top'):top=top'/\rows=rows':=by
 obtain⟨h1,h2⟩:=qm6 c;obtain⟨h3,h4⟩:=qm6 c';rw[e] at h1 h2;exact⟨h2.trans h4.symm,h1.trans h3.symm⟩
theorem qo3 {L:List Tr}(h:Ord L):∀t:Tr,In L t->dp (rowsOf L) (name L t)=dep t
 |.z,_=>qL6 (by decide:(0:Nat)<2)
 |.o,_=>qL6 (by decide:(1:Nat)<2)
 |.nd a b c d,hi=>by
  rcases name_in h hi with ⟨e,_⟩|⟨e,_⟩|⟨i,e,e2⟩
  ·cases e
  ·cases e
  ·have hk:=λs (hs:s∈kids (.nd a b c d))=>(kid_in h e hs).1;rw[e2,qy2 (rowsOf_ok h) (rowsOf_at e)];show 1+mx [_,_,_,_]=1+mx [dep a,dep b,dep c,dep d];rw[qo3 h a (hk a (by simp[kids])),qo3 h b (hk b (by simp[kids])),qo3 h c (hk c (by simp[kids])),qo3 h d (hk d (by simp[kids]))]
theorem qq4 {L:List Tr}(h:Ord L):∀t:Tr,In L t->T (rowsOf L) (name L t)=t
 |.z,_=>qi1 _
 |.o,_=>qo2 _
 |.nd a b c d,hi=>by
  rcases name_in h hi with ⟨e,_⟩|⟨e,_⟩|⟨i,e,e2⟩
  ·cases e
  ·cases e
  ·have hk:=λs (hs:s∈kids (.nd a b c d))=>(kid_in h e hs).1;rw[e2,qq3 (rowsOf_ok h) (rowsOf_at e),qq4 h a (hk a (by simp[kids])),qq4 h b (hk b (by simp[kids])),qq4 h c (hk c (by simp[kids])),qq4 h d (hk d (by simp[kids]))]
def ql9 (L:List Tr):Prop:=∀t∈L,Red t
theorem qq5:∀(t:Tr) (e:List Tr),Red t->ql9 e->ql9 (post t e)
 |.z,_,_,h=>h
 |.o,_,_,h=>h
 |.nd a b c d,e,hr,h=>by
  unfold post;split
  ·exact h
  ·have h4:=qq5 d _ hr.2.2.2.2.2 (qq5 c _ hr.2.2.2.2.1 (qq5 b _ hr.2.2.2.1 (qq5 a e hr.2.2.1 h)));intro s hs;rcases Z1.mp hs with hs|hs
   ·exact h4 s hs
   ·have:s=.nd a b c d:=by simpa using hs
    rw[this];exact hr
theorem qd7 {L:List Tr}{t:Tr}(h:name L t=0):t=.z:=by
 cases t with
 |z=>rfl
 |o=>cases h
 |nd a b c d=>rw[qy7] at h;lia
theorem qe9 {L:List Tr}{t:Tr}(h:name L t=1):t=.o:=by
 cases t with
 |z=>cases h
 |o=>rfl
 |nd a b c d=>rw[qy7] at h;lia
theorem qn6 {L:List Tr}(h:Ord L) (hr:ql9 L):∀r∈rowsOf L,¬qh3 r:=λr hm=>by
 obtain⟨i,hi,e⟩:=ZJ.mp hm;obtain⟨t,ht,rfl⟩:=qs5 (i:=i) (r:=r) (by rw[Zb hi,e]);obtain⟨⟨a,b,c,d,rfl⟩,_⟩:=h.ch i t ht;have rd:=hr _ (Zs ht);rintro (z|z)
 ·have z':[name L a,name L b,name L c,name L d]=[0,0,0,0]:=z;simp only[Y1,Vo] at z';exact rd.1 ⟨qd7 z'.1,qd7 z'.2.1,qd7 z'.2.2.1,qd7 z'.2.2.2⟩
 ·have z':[name L a,name L b,name L c,name L d]=[1,1,1,1]:=z;simp only[Y1,Vo] at z';exact rd.2.1 ⟨qe9 z'.1,qe9 z'.2.1,qe9 z'.2.2.1,qe9 z'.2.2.2⟩
theorem qC0 {n:Nat}(hn:n<=12){t:Tr}(hr:Red t) (hd:dep t<=n):Canon n (name (post t []) t) (rowsOf (post t [])):=by
 obtain⟨ho,hi⟩:=post_ord t [] ord_nil;have kY:=qq5 t [] hr (λs hs=>nomatch hs);have hT:=qq4 ho t hi;have wA:=qo3 ho t hi;have hpost:post t []=post t []:=rfl;generalize hL:post t []=L at ho hi kY hT wA;have ok:=rowsOf_ok ho;have ndr:=rowsOf_nodup ho;have jL:name L t<(rowsOf L).length+2:=by
  rw[rowsOf_len];rcases name_in ho hi with ⟨_,e⟩|⟨_,e⟩|⟨i,e,e2⟩
  ·lia
  ·lia
  ·have:=(gS_ e).1;lia
 refine⟨hn,ok,jL,by rw[wA];exact hd,qn6 ho kY,ndr,?_⟩;have hdt:=qX4 ok ndr n [] (name L t) (qi6 _) jL (by rw[wA];exact hd);rw[hT] at hdt;have e2:(dfs (rowsOf L) n [] (name L t)).map (tau (rowsOf L))=L:=by rw[hdt];exact hL
 have pe:=(qf8 ok n [] (name L t) (qi6 _) jL (by rw[wA];exact hd)).1;generalize dfs (rowsOf L) n [] (name L t)=E at e2 pe;have hE:E.length=L.length:=by rw[<- e2];simp
 refine Wu λi=>?_;by_cases vW:i<E.length
 ·have hg:E[i]?=some E[i]:=Zb vW;have j7:=pe.lt E[i] (YO vW);rw[rowsOf_len] at j7;have e3:L[i]?=some (tau (rowsOf L) E[i]):=by
   conv=>lhs;rw[<- e2]
   rw[Zg,hg];rfl
  have e4:tau (rowsOf L) E[i]=L[E[i]]:=by
   have ea:L[E[i]]?=some L[E[i]]:=Zb j7;have:=qq4 ho L[E[i]] (.inr (.inr (YO j7)));rw[name_at ho ea] at this;exact this
  rw[e4] at e3;have:E[i]=i:=by
   rcases Ww E[i] i with z|z|z
   ·exact absurd (by rw[e3];exact Zb j7) (nd_iff.mp ho.nd E[i] i z (by lia))
   ·exact z
   ·exact absurd (by rw[e3];exact (Zb j7).symm) (nd_iff.mp ho.nd i E[i] z j7)
  rw[hg,this,Y4 (by rw[rowsOf_len];lia)]
 ·rw[YH (by lia),YH (by rw[XV,rowsOf_len];lia)]
end Qf
namespace Pr
open PySem L2 Qf
def TellAt (H:Hp) (t:Addr) (n top:Nat) (rows:List Row):Prop:=∃p:Addr,H t=some (.tup [.int (n:Nat),.int (top:Nat),.ref p])/\RowsAt H p rows
theorem TellAt.mono {H H':Hp}{t:Addr}{n top:Nat}{rows:List Row}(h:TellAt H t n top rows) (s:Tups H H'):TellAt H' t n top rows:=by
 obtain⟨p,h1,h2⟩:=h;exact⟨p,s _ _ h1,h2.mono s⟩
theorem xx5 {ys:List V}(h:∀(i:Nat) y,ys[i]?=some y->y=.bl true):ys=(List.replicate ys.length true).map V.bl:=by
 refine qi8 (by simp) λi x hx=>?_;have hi:=(gS_ hx).1;rw[h i x hx];simp[hi]
theorem xc7 (k:Nat):(List.replicate k true).all id=true:=by
 rw[Ym];intro x hx;exact (List.mem_replicate.mp hx).2
section
variable {P:Program}{w:World}{K:PySem.W.Frag}{mg:Str->Option Value}{base:Heap}
theorem scRow:FnScope ["thing", "before"] ["thing", "before"] (qa3 sRow):=qd0
def xE0:Sp:=λvs H Q _=>∃(b:Addr) (i:Nat) (r:Row),vs=[.ref b,.int (i:Nat)]/\H b=some (.tup (vN r))/\xl9 i r/\∀H',Same H H'->Q (.bl true) H'
theorem xE1 {f fN:Addr}{fd fdN:FuncData}(F:Fun K "is_row" "is_row" sRow f fd) (B:Blt mg) (hN:mg "is_number" = some (.ref fN)) (FN:Fun K "is_number" "is_number" ql5 fN fdN) (bN:Binds K fdN ["thing", "many"] []) (GN:FnOk P w K mg base CX0 2 fN fdN ["thing", "many"] qF9):FnOk P w K mg base CX0 3 f fd ["thing", "before"] xE0:=by
 refine F.ok scRow (λvs H Q E h=>?_) (λcdv A outer s H vs Q E hr h=>?_)
 ·obtain⟨b,i,r,rfl,_⟩:=h
  rfl
 ·obtain⟨b,i,r,rfl,hb,rk,q⟩:=h;refine⟨_,qb6 (qc9 (qj6 (qh2 (qe3 (qa6 qd6 (by rfl) B.isi ZA (qa0 (pv 0) (qa0 (qh0 (v:=.ty "tuple") (by rfl) B.tuple ZH rfl) qa2)))))
    (qg7 (qb2 qw6 (qa6 qb9 (by rfl) B.len ZM (qa0 (pv 0) qa2)) qa5 (qb4 _)))).pt (qa8 (qa9 qk8)) qb1)
   (qa8 (qa9 (qa6 (ql3 rfl) (by rfl) B.all Xf (qa0 (qg6 ["thing", "before"] (qa3 sRow) rfl rfl rfl scRow.nd (piT K rfl (pv 0)) (λcl C fp s₀ H₀=>pcN GN hr hN FN.kp bN (qa0 (pv 0) (qa0 (pv 2) qa2)))) qa2)))),?_⟩
  refine⟨_,rfl,_,_,_,_,true,rfl,rfl,.inl (.tup hb),rfl,_,rfl,iteF ⟨_,rfl,b,_,rfl,.inr (SqT.of hb),rfl,_,rfl,xv5 (by rw[qf3,rk.1];rfl) ?_⟩⟩;refine⟨_,rfl,b,rfl,⟨_,SqT.of hb⟩,λD hD=>qi0 hD (λ_ z _=>z=.bl true) (qm4 (K:=K) hb) (by rw[qf3,rk.1];decide) (λ_ _ _ _ _ _ h=>h) ?_ ?_⟩
  ·intro j x H3 hj hx s3 Q' hq;obtain⟨m,hm,rfl⟩:=qB7 hx;exact⟨_,rfl,_,rfl,m,i,rfl,rk.2 m (Zs hm),hq _ _ (Same.refl _) rfl⟩
  ·intro ys H3 s3 jV kZ vG;have e:=xx5 vG;refine⟨D,List.replicate ys.length true,rfl,by rw[<- e];exact jV,?_⟩;rw[xc7];exact q H3 s3
theorem scRows:FnScope ["thing"] ["thing"] (qa3 qM3):=qd0
def xs1:Sp:=λvs H Q _=>∃(p:Addr) (rows:List Row),vs=[.ref p]/\RowsAt H p rows/\qb7 rows/\rows.length<=990/\∀H',Same H H'->Q (.bl true) H'
theorem xx6 {f fR:Addr}{fd fdR:FuncData}(F:Fun K "are_rows" "are_rows" qM3 f fd) (B:Blt mg) (hR:mg "is_row" = some (.ref fR)) (FR:Fun K "is_row" "is_row" sRow fR fdR) (bR:Binds K fdR ["thing", "before"] []) (GR:FnOk P w K mg base CX0 3 fR fdR ["thing", "before"] xE0):FnOk P w K mg base CX0 4 f fd ["thing"] xs1:=by
 refine F.ok scRows (λvs H Q E h=>?_) (λcdv A outer s H vs Q E hr h=>?_)
 ·obtain⟨p,rows,rfl,_⟩:=h
  rfl
 ·obtain⟨p,rows,rfl,jS,ok,hn,q⟩:=h;obtain⟨bs,hp,j6,jB⟩:=id jS;refine⟨_,qa8 (qa9 (qi4 (qa6 qd6 (by rfl) B.isi ZA (qa0 (pv 0) (qa0 (qh0 (v:=.ty "tuple") (by rfl) B.tuple ZH rfl) qa2)))
   (qj3 (qa6 (ql3 rfl) (by rfl) B.all Xf (qa0 (qV5 ["thing"] (qa3 qM3) rfl rfl rfl scRows.nd (qV4 (by rfl) B.enum (qa0 (pv 0) qa2)) (λcl C fp s₀ H₀=>pcN GR hr hR FR.kp bR (qa0 (pv 1) (qa0 (pv 0) qa2)))) qa2))))),?_⟩
  refine⟨_,rfl,_,_,_,_,true,rfl,rfl,.inl (.tup hp),rfl,_,rfl,iteT ?_⟩;have jT:(bs.map V.ref).length=rows.length:=by rw[Zi];exact j6
  refine⟨_,rfl,p,rfl,⟨_,SqT.of hp⟩,λD hD=>qs4 hD (λ_=>true) (λ_=>.bl true) (qL9 (K:=K) hp) (by rw[jT];exact qb5 (by lia)) ?_ ?_⟩
  ·rintro i x H2 hi ⟨t,y,rfl,hy,ht⟩ s2 os ho Q1 Q2 q1 q2
   match os,ho with
   |[o1,o2],_=>
    have vW:i<rows.length:=by rw[<- jT];exact hi
    rw[Zg] at hy;obtain⟨b,hb,rfl⟩:=Zr.mp hy;have jD:rows[i]?=some rows[i]:=by simp[vW]
    refine⟨t,_,rfl,SqT.of ht,rfl,_,_,rfl,_,_,rfl,rfl,?_⟩;refine iteT (B:=Q1 H2) ?_;exact⟨_,rfl,_,rfl,b,i,rows[i],rfl,s2 _ _ (jB i b _ hb jD),ok i _ jD,λH3 s3=>q2 rfl H3 s3⟩
  ·intro H2 s2 jW;refine⟨D,List.replicate (bs.map V.ref).length true,rfl,?_,?_⟩
   ·rw[jW];congr 2;rw[List.map_replicate,List.filter_eq_self.mpr (λ_ _=>rfl)];refine qi8 (by simp) λi x hx=>?_;have hi:=(gS_ hx).1;rw[Zg] at hx;obtain⟨_,_,rfl⟩:=Zr.mp hx;simp at hi;rw[Zi,Xy,Zt hi]
   ·rw[xc7];exact q H2 s2
theorem scTelling:FnScope ["thing", "n", "top", "rows"] ["thing"] (qa3 qm5):=qd0
end
def xc8 (H:Hp) (t:Addr) (n top:Nat) (rows:List Row):Prop:=TellAt H t n top rows/\Canon n top rows/\rows.length<=990
def keyN (r:List Nat):List Key:=r.map λn:Nat=>Sum.inl (n:Int)
theorem qn7 (r:List Nat):(keyN r).map kV=vN r:=by unfold keyN vN;rw[Y5];rfl
theorem qv3 {l m:List Nat}(h:keyN l=keyN m):l=m:=by
 have:vN l=vN m:=by rw[<- qn7,<- qn7,h]
 rw[qu1,qu1] at this;exact qG0 ((W8 (λ_ _ z=>V.int.inj z)).mp this)
theorem qC1 {rows:List Row}(h:rows.Nodup):(rows.map keyN).Nodup:=by
 rw[nd_iff] at h ⊢;intro i j kD hj z;rw[Zi] at hj;refine h i j kD hj ?_;rw[Zg,Zg,Zb (by lia),Zb hj] at z;rw[Zb (by lia),Zb hj];congr 1;exact qv3 (Zw z)
theorem qC2 (ns:List Int):PyData.depthAll (ns.map PyData.int)<=1:=by
 induction ns with
 |nil=>simp[PyData.depthAll]
 |cons a ns ih=>
  rw[Zz];simp only[PyData.depthAll,PyData.depth];lia
theorem qX5 (ns:List Int):(dL ns).depth<=2:=by
 have:=qC2 ns;unfold dL;simp only[PyData.depth];lia
section
variable {P:Program}{w:World}{K:PySem.W.Frag}{mg:Str->Option Value}{base:Heap}
theorem scShape:FnScope ["thing", "top", "rows"] ["thing"] (qa3 qB5):=qd0
theorem xx7:FnScope ["shape"] ["shape"] (qa3 qM4):=qd0
end
end Pr
namespace L2
open PySem PySem.Spec PyProof.Rows
section
variable {prog:Program}{w:World}{κ:Type}[DecidableEq κ]{hk:HeapKind prog w κ}{A:Around}{E:Value->Shared->Prop}{s:Shared}{d a:Addr}{k:κ}{xs:List (κ×Addr×Value)}
end
section
variable {X:Cx}
end
end L2
namespace L2
open PySem PySem.Spec PyProof.Rows PySem.W
def Bare (h:Heap) (d:Addr) (tab:Array DictEntry) (ep:Nat):Prop:=∃o,h.get? d=some o/\o.ExactDict/\o.data=.dict tab ep
theorem Bare.stay {h h':Heap}{d:Addr}{tab:Array DictEntry}{ep:Nat}(x:Bare h d tab ep) (k:∀o,h.get? d=some o->h'.get? d=some o):Bare h' d tab ep:=let ⟨o,ho,r⟩:=x;⟨o,k o ho,r⟩
theorem Bare.ty {s:Shared}{d:Addr}{tab:Array DictEntry}{ep:Nat}(x:Bare s.heap d tab ep):s.TypeIs (.ref d) "dict":=let ⟨o,ho,hc,_⟩:=x;⟨o,ho,hc.1⟩
theorem Bare.lt {h:Heap}{d:Addr}{tab:Array DictEntry}{ep:Nat}(x:Bare h d tab ep):d<h.objs.size:=let ⟨_,ho,_⟩:=x;Zl ho
section
variable {prog:Program}{w:World}{A:Around}{E:Value->Shared->Prop}{s:Shared}{d it:Addr}{tab:Array DictEntry}{ep i:Nat}
theorem xc9 {Q:Value->Shared->Prop}(lo:(d==sysModules)=false) (x:Bare s.heap d tab ep)
  (q:Q (.ref s.heap.objs.size) { s with heap:=s.heap.push { cls:=.type "dict_keyiterator",data:=.fields #[.ref d,.int 0 0,.int tab.size 0,.int ep 0] } }):wpAny (model prog w) A (pyIter (.ref d)) Q E s:=by
 obtain⟨o,ho,hc,kI⟩:=id x;refine wpAny_pyIter_slot x.ty F.slot_dict_iter (YM F.slot_dict_iter x.ty F.entry_dict_iter ?_ (F.args_dict_iter_1 _));show wpAny _ _ (Builtin.Dict.dictSlotNone _ _ >>= _) _ _ _;unfold Builtin.Dict.dictSlotNone;refine Za (Za (wpAny_notOrdered_dict x.ty (Zf ?_)));show wpAny _ _ (Builtin.Dict.showsAll d >>= _) _ _ s;unfold Builtin.Dict.showsAll;rw[Zm (by rw[lo];decide)];refine Za (Zf (Za (Wx ho kI (Za (wpAny_dictEpoch ho kI ?_)))));refine Za (ZU (Zf ⟨_,rfl, "dict_keyiterator",_,⟨_,Zk _ rfl,rfl⟩,YK.lookup,?_⟩));simpa [rawInt] using q
theorem xd0 {Q:Option Value->Shared->Prop}(st:s.heap.IsKeyIter it d i tab.size ep) (x:Bare s.heap d tab ep) (hi:i<tab.size)
  (q:∀h',h'.IsKeyIter it d (i+1) tab.size ep->Heap.SameBut it s.heap h'->Q (some tab[i].key) { s with heap:=h' }):wpAny (model prog w) A (pyNext (.ref it)) Q E s:=by
 obtain⟨o,ho,hc,hd⟩:=id st;obtain⟨od,wQ,kJ,wB⟩:=id x;unfold pyNext;refine Za (Wc (ZX (name:=Str.ofString "__next__") st.typeIs YK (YM YK st.typeIs F.entry_dict_keyiterator_next ?_ (F.args_dict_keyiterator_next_1 _))));refine Za (Zf (Za (Za ?_)))
 first|(refine Za (YX st.typeIs (Zf (Za (W9 ho hd ?_)))))|(refine Za (Xr st.typeIs (Zf (Za (W9 ho hd ?_)))))
 simp only[show Builtin.Dict_items.ownsTuple "dict_keyiterator" = false by decide,ZL,Yq];show wpAny _ _ (if (Value.ref d==Value.none)=true then _ else _) _ _ s;rw[Zm (show ¬((Value.ref d==Value.none)=true) by exact ZD)];refine Za (Zf (Za (Wx wQ wB ?_)));rw[Zm (by simp)];refine Za (Zf (Za (wpAny_dictEpoch wQ wB ?_)));rw[Zm (by simp)];refine Zf ?_;simp only[show ¬((i:Int)<0) by lia,Yq,Z5,ZP hi];refine Za ?_
 first|(refine Za (YX st.typeIs (Zf (Za (WA st.typeIs ?_)))))|(refine Za (Xr st.typeIs (Zf (Za (WA st.typeIs ?_)))))
 show wpAny _ _ (setField (.ref it) 1 (rawInt ((i:Int)+1)) >>= _) _ _ s;refine Za (YW ho hd (by simp) ?_);have st':(s.heap.update it (Obj.mapFields (·.setIfInBounds 1 (rawInt ((i:Int)+1))))).IsKeyIter it d (i+1) tab.size ep:=⟨_,YG _ ho (Xc (Yr hd _)),(Ws ..).trans hc,by rw[Yr hd];simp[rawInt]⟩;refine Za (Yu (Za (WA (s:={ s with heap:=s.heap.update it (Obj.mapFields (·.setIfInBounds 1 (rawInt ((i:Int)+1)))) }) st'.typeIs ?_)));show wpAny _ _ (pure tab[i].key) _ _ _;exact Zf (Zf ⟨_,rfl,Zf (q _ st' (Y3 ..))⟩)
theorem xm6 {Q:Option Value->Shared->Prop}(hh:A.handled=none) (st:s.heap.IsKeyIter it d tab.size tab.size ep) (x:Bare s.heap d tab ep)
  (q:∀h',Heap.ExtBut it s.heap h'->Q none { s with heap:=h' }):wpAny (model prog w) A (pyNext (.ref it)) Q E s:=by
 obtain⟨o,ho,hc,hd⟩:=id st;obtain⟨od,wQ,kJ,wB⟩:=id x;unfold pyNext;refine Za (Wc (ZX (name:=Str.ofString "__next__") st.typeIs YK (YM YK st.typeIs F.entry_dict_keyiterator_next ?_ (F.args_dict_keyiterator_next_1 _))));refine Za (Zf (Za (Za ?_)))
 first|(refine Za (YX st.typeIs (Zf (Za (W9 ho hd ?_)))))|(refine Za (Xr st.typeIs (Zf (Za (W9 ho hd ?_)))))
 simp only[show Builtin.Dict_items.ownsTuple "dict_keyiterator" = false by decide,ZL,Yq];show wpAny _ _ (if (Value.ref d==Value.none)=true then _ else _) _ _ s;rw[Zm (show ¬((Value.ref d==Value.none)=true) by exact ZD)];refine Za (Zf (Za (Wx wQ wB ?_)));rw[Zm (by simp)];refine Za (Zf (Za (wpAny_dictEpoch wQ wB ?_)));rw[Zm (by simp)];refine Zf ?_;simp only[show ¬((tab.size:Int)<0) by lia,Yq,Z5,XG (Zd tab.size)];refine Za ?_
 first|(refine Za (YX st.typeIs (Zf ?_)))|(refine Za (Xr st.typeIs (Zf ?_)))
 show wpAny _ _ (setField (.ref it) 0 .none >>= _) _ _ s;refine Za (YW ho hd (by simp) ?_);show wpAny _ _ (newExc (.type "StopIteration") [] >>= _) _ _ _;refine Za ?_;simp only[newExc,newTuple];refine Za (ZU ?_ (by size_fits));refine Za (m:=firstArgMember _ _) (wpAny_of_eq (a:=Value.none) (by first|rfl|(simp only[firstArgMember];rfl)) (ZU ?_ (by size_fits)));simp only[raiseNew];refine Za (wpAny_handled ?_);rw[show A.in1.handled=none by exact hh];refine Za (Zf (wpAny_throw ?_));refine Za (wpAny_isInstance (T:= "StopIteration") (b:=true) ⟨_,Zk _ rfl,rfl⟩ isSubtype_stop ?_);exact Zf (q _ (((Y3 ..).extBut.push _).push _))
theorem q35 (hh:A.handled=none) (jE:d≠it):Walks prog w A it [it,d] [it] tab.size (λi v=>∃e,tab[i]?=some e/\v=e.key) (λi h=>h.IsKeyIter it d i tab.size ep/\Bare h d tab ep) where
 sub:=λb hb=>by simp at hb;simp[hb]
 frame:=λ_ _ _ st k=>⟨st.1.at λo e=>k it (by simp) o e,st.2.stay λo e=>k d (by simp) o e⟩
 item:=λi s Q E hi st q=>xd0 st.1 st.2 hi λh' st' sb=>q _ h' s.toks ⟨tab[i],by simp[hi],rfl⟩ ⟨st',st.2.stay λo e=>sb.extBut d o jE e⟩ λb o hb e=>sb.extBut b o (λh=>hb (by simp[h])) e
 done:=λs Q E st q=>xm6 hh st.1 st.2 λh' eb=>q h' s.toks λb o hb e=>eb b o (λh=>hb (by simp[h])) e
 self:=λ_ _ _ _ st q=>wpAny_pyIter_keyiter st.1 q
theorem xm7 (lo:(d==sysModules)=false):KdlSrc prog w "dict" d d tab.size (λi v=>∃e,tab[i]?=some e/\v=e.key) (λh=>Bare h d tab ep) where
 type:=λ_ x=>x.ty
 there:=λ_ x=>⟨x.lt,x.lt⟩
 keep:=λ_ _ x k=>x.stay λo e=>k d (.inl rfl) o e
 notList:=by decide
 notTuple:=by decide
 hint:=λ_ _ _ _ x q=>kdl_hint_dict x.ty q
 iter:=λ_ _ hh x=>⟨_,_,(λ_ _ q=>xc9 lo x q),q35 hh (Zx x.lt),⟨⟨_,Zk _ rfl,rfl,rfl⟩,x.stay λo e=>Zc _ e⟩⟩
theorem xd1 (lo:(d==sysModules)=false):MeetsIn prog w (Builtin.«dict.__len__» ⟨[.ref d],[]⟩) (λ_ R s=>∃tab ep,Bare s.heap d tab ep/\R (.ok (.ret (.int tab.size s.toks))) { s with toks:=s.toks+1 }):=
 .of_wp λA R s ⟨tab,ep,⟨o,ho,hx,kI⟩,q⟩=>by
  show wpAny _ _ (dictSize d >>= _) _ _ s;unfold dictSize;refine Za (Za (Wx ho kI (Zf ?_)));show wpAny _ _ (Builtin.Dict.pendingCount d >>= _) _ _ s;exact Za (wpAny_pendingCount_other lo (wpAny_ret_mkInt (by rw[Nat.add_zero];exact q)))
theorem xm8 {Q:Value->Shared->Prop}(lo:(d==sysModules)=false) (x:Bare s.heap d tab ep) (fit:(tab.size:Int)<2^63) (q:Q (.int tab.size (s.toks+1)) { s with toks:=s.toks+1+1 }) :
  wpAny (model prog w) A (call (.builtin "len") [.ref d]) Q E s:=by
 refine Calls.call_function_entry kind_len plain_len entry_len (args_len1 _) ?_;unfold Builtin.«len»;refine Za (m:=oneArg "len" _) (Zf ?_);refine Za (m:=callSpecial? (.ref d) (Str.ofString "__len__")) (ZX (name:=Str.ofString "__len__") x.ty F.slot_dict_len (call_meetsIn F.slot_dict_len x.ty F.entry_dict_len (F.args_dict_len_1 _) (xd1 lo) ⟨tab,ep,x,?_⟩));show wpAny _ _ _ _ _ { s with toks:=s.toks+1 };refine Za (Yu (Zf (Za (wpAny_letGo ?_))));show wpAny _ _ (if ((tab.size:Nat):Int)<0 then _ else _) _ _ _;rw[Zm (by lia)];show wpAny _ _ (if ((tab.size:Nat):Int)>=2^63 then _ else _) _ _ _;rw[Zm (by lia)];exact Za (wpAny_mkInt (Zf ⟨_,rfl,q⟩))
end
section
variable {X:Cx}
theorem qN1:qg3 X (.builtin "len") (λxs H Q=>∃d kvs,xs=[V.ref d]/\H d=some (.dT kvs)/\Q (.int kvs.length) H):=by
 intro j4 s σ H xs us Q I r h;obtain⟨d,kvs,rfl,hd,q⟩:=h;obtain⟨u,rfl,ru⟩:=qi3 r;cases ru;obtain⟨z,lo,ys,rel,o,tab,ep,ho,hx,kI,ent,uni⟩:=(show ObjOk X.prog X.w H s.heap d (.dT kvs) from I.hok d _ hd);have hl:tab.size=kvs.length:=(size_of_entries ent).trans (WE rel).symm;have fit:(tab.size:Int)<2^63:=by rw[hl];rw[Xj] at z;lia
 refine xm8 lo ⟨o,ho,hx,kI⟩ fit ⟨.int kvs.length,H,I.tok _,?_,q⟩;rw[hl];exact⟨_,rfl⟩
end
section
variable {prog:Program}{w:World}{A:Around}{E:Value->Shared->Prop}{s:Shared}{T:String}{r d:Addr}{n:Nat}{P:Nat->Value->Prop}{OK:Heap->Prop}
theorem qS5 {Q:List Value->Shared->Prop}(K:KdlSrc prog w T r d n P OK) (hh:A.handled=none) (hok:OK s.heap) (hn:n<=sizeLine)
  (hQ:∀(h':Heap) tk acc',(∀b o,s.heap.get? b=some o->h'.get? b=some o)->ItemsOf P acc' n->Q acc'.toList { s with heap:=h',toks:=tk }):wpAny (model prog w) A (collect (.ref r)) Q E s:=by
 have j7:=K.there _ hok;unfold collect;refine Za (wpAny_runValue (Y0 F.entry_proto_collect ?_));rw[Xo F.plain_proto_collect _];show wpAny _ A.in1 (newList [] >>= λl=>again (.builtin "list.__iadd__" ⟨[l,.ref r],[]⟩)) _ _ s;refine Za (ZU ?_);refine Zf ⟨Vi F.plain_list_iadd _,Y0 F.entry_list_iadd ?_⟩;rw[Xo F.plain_list_iadd _];have hS₁:(s.heap.push { cls:=.type "list",data:=.seq ([]:List Value).toArray }).get? s.heap.objs.size=some { cls:=.type "list",data:=.seq ([]:List Value).toArray }:=Zk _ rfl;show wpAny _ A.in1 (Builtin.List.listExtendWith (.ref s.heap.objs.size) (.ref r) (.ref s.heap.objs.size)) _ _ _;refine kdl_extend (R:=wants (λv s'=>wpAny (model prog w) A (match v with|.ref a=>(do let ob <- load a;match ob.data with|.seq xs _=>pure xs.toList|_=>unsupported "internal:collect")|_=>unsupported "internal:collect") Q E s') E) (s:={ s with heap:=s.heap.push { cls:=.type "list",data:=.seq ([]:List Value).toArray } }) K hh (K.keep _ _ hok λb _ o e=>Zc _ e) s.heap.objs.size (XZ j7.1) (XZ j7.2) _ _ hS₁ (λh' tk acc' c' hk hS' jM=>?_) hn;show wpAny _ A (load s.heap.objs.size >>= _) _ _ _;refine Za (wpAny_load hS' ?_);exact Zf (hQ h' tk acc' (λb o e=>hk b o (Zx (Zl e)) (Zc _ e)) jM)
theorem qA5 {Q₁:Value->Shared->Prop}(K:KdlSrc prog w T r d n P OK) (hh:A.handled=none) (hok:OK s.heap) (hn:n<=sizeLine)
  (h:∀(h':Heap) tk acc,(∀b o,s.heap.get? b=some o->h'.get? b=some o)->ItemsOf P acc n->Q₁ (.ref h'.objs.size) { s with heap:=h'.push { cls:=.type "tuple",data:=.seq acc },toks:=tk }) :
  codeAny (model prog w) A (.call (.builtin "tuple.__new__") ⟨[.type "tuple",.ref r],[]⟩) (wants Q₁ E) s:=by
 refine codeAny_of_tree ?_;show wpAny _ A.in1 (do checkBuiltinCall "tuple.__new__" ⟨[.type "tuple",.ref r],[]⟩;again (.builtin "tuple.__new__" ⟨[.type "tuple",.ref r],[]⟩)) _ _ s;refine Za (wpAny_of_eq (F.newCall_tuple_1 _) (Zf ⟨Vi F.plain_tuple_new _,Y0 F.entry_tuple_new ?_⟩));rw[Xo F.plain_tuple_new _];have hsub:=sub_tuple_self;have hinit:=init_tuple_lookup;have hmh:=madeHere_tuple;have hTI:=K.type s hok;have hnt:=K.notTuple
 wp_walk using wpAny_typeOf hTI,qS5 (A:=A.in1) K hh hok hn
 intro h' tk acc hk jM;show wpAny _ _ (Builtin.Tuple.tupleExact acc.toList.toArray >>= λv=>ret v) _ _ _;unfold Builtin.Tuple.tupleExact;refine Za (ZU ?_ (by show acc.toList.toArray.size<=sizeLine;simp only[Array.toArray_toList];rw[jM.1];exact hn));refine Zf ?_;have e:acc.toList.toArray=acc:=by simp
 rw[e];exact h h' tk acc hk jM
theorem xd2 {Q:Value->Shared->Prop}(K:KdlSrc prog w T r d n P OK) (hh:A.handled=none) (hok:OK s.heap) (hn:n<=sizeLine)
  (h:∀(h':Heap) tk acc,(∀b o,s.heap.get? b=some o->h'.get? b=some o)->ItemsOf P acc n->Q (.ref h'.objs.size) { s with heap:=h'.push { cls:=.type "tuple",data:=.seq acc },toks:=tk }) :
  wpAny (model prog w) A (call (.type "tuple") [.ref r]) Q E s:=by
 refine callType_codes (Q₁:=λobj s₁=>s₁.TypeIs obj "tuple" /\ Q obj s₁) F.called_tuple (F.typeCall_tuple_1 _) F.entry_object_init
  (qA5 K hh hok hn λh' tk acc hk jM=>⟨⟨_,Zk _ rfl,rfl⟩,h h' tk acc hk jM⟩) λobj s₁ h₁=>?_
 exact⟨h₁.1,F.args_object_init_2 obj _,object_init_meets F.called_tuple.init.lookup F.called_tuple.made (by decide) prog w A.in1 _ s₁ ⟨h₁.1,rfl,h₁.2⟩⟩
end
section
variable {X:Cx}
theorem qu3 (hc:X.calm=true):qg3 X (.type "tuple") (λxs H Q=>∃(d:Addr) (kvs:List (List Key×V)),xs=[.ref d]/\H d=some (.dT kvs) /\
  ∀(l:Addr) (bs:List Addr),H l=none->bs.length=kvs.length->(∀(i:Nat) b kv,bs[i]?=some b->kvs[i]?=some kv->H b=some (.tup (kv.1.map kV)))->Q (.ref l) (upd H l (.tup (bs.map V.ref)))):=by
 intro j4 s σ H xs us Q I r h;obtain⟨d,kvs,rfl,hd,q⟩:=h;obtain⟨u,rfl,ru⟩:=qi3 r;cases ru;obtain⟨z,lo,ys,rel,o,tab,ep,ho,hx,kI,ent,uni⟩:=(show ObjOk X.prog X.w H s.heap d (.dT kvs) from I.hok d _ hd);have hl:kvs.length=ys.length:=WE rel;have ht:tab.size=ys.length:=size_of_entries ent;refine xd2 (xm7 (tab:=tab) (ep:=ep) lo) (I.ok.hd hc) ⟨o,ho,hx,kI⟩ (by lia) λh' tk acc kp jM=>?_;have at_:∀(i:Nat) p y,kvs[i]?=some p->ys[i]?=some y->H y.2.1=some (.tup (p.1.map kV)):=by
  have gen:∀{l:List (List Key×V)}{m:List (List Key×Addr×Value)},Paired (λ(p:List Key×V) (q:List Key×Addr×Value)=>p.1=q.1/\H q.2.1=some (.tup (p.1.map kV))/\RelV p.2 q.2.2) l m->∀(i:Nat) p y,l[i]?=some p->m[i]?=some y->H y.2.1=some (.tup (p.1.map kV)):=by
   intro l m pr
   induction pr with
   |nil=>intro i p y h1;simp at h1
   |cons a1 a2 ih=>
    intro i p y h1 h2;cases i with
    |zero=>simp at h1 h2;subst h1;subst h2;exact a1.2.1
    |succ i=>exact ih i p y (by simpa using h1) (by simpa using h2)
  exact gen rel
 have jT:(ys.map (·.2.1)).length=kvs.length:=by rw[Zi,hl]
 have I1:=I.kept (t':=tk) kp;have hf:H h'.objs.size=none:=I1.hok.fresh (Zd _);refine⟨.ref h'.objs.size,_,I1.laid (a:=h'.objs.size) (o:=.tup ((ys.map (·.2.1)).map V.ref)) (t':=tk) (λb o e=>Zc _ e) (Zd _) (show ObjOk X.prog X.w _ _ _ (.tup ((ys.map (·.2.1)).map V.ref)) from ⟨by rw[Zi,jT];exact z,acc.toList,?_,by have:=IsTupX.new h' acc.toList.toArray;simpa using this⟩),rfl,q _ _ hf jT λi b kv e1 e2=>?_⟩
 ·refine qF1 (by simp[jM.1,ht]) λi x v h1 h2=>?_;rw[Zg,Zg] at h1;obtain⟨b,hb,rfl⟩:=Zr.mp h1;obtain⟨y,hy,rfl⟩:=Zr.mp hb;obtain⟨e,he,rfl⟩:=jM.2 i v (by simpa using h2);rw[entry_at ent i,hy] at he;have:=Zw he;subst this
  rfl
 ·rw[Zg] at e1;obtain⟨y,hy,rfl⟩:=Zr.mp e1;exact at_ i kv y e2 hy
open Classical in
noncomputable def qS6 (h:Heap) (d:PyData) (w:Value):Bool:=decide (∃(e:PyData) (bs:List Addr),Reads h w e bs/\e.canLay0=true/\PyData.eqv e d=true)
open Classical in
theorem xm9 {h:Heap}{d d':PyData}{w:Value}{bs:List Addr}(rb:Reads h w d' bs) (c:d'.canLay0=true):qS6 h d w=PyData.eqv d' d:=by
 unfold qS6;cases hb:PyData.eqv d' d with
 |true=>exact Zj ⟨d',bs,rb,c,hb⟩
 |false=>
  refine Zp λ⟨e,bs',re,_,he⟩=>?_;have:=SeqAt.Reads.unique d' e w bs bs' c rb re;rw[<- this,hb] at he;cases he
theorem xd3 {j4:List (Addr×Obj)}{s:Shared}{σ:St}{H:Hp}{v:Value}{d:PyData}{as:List Addr}(I:Inv X j4 σ H s) (un:X.A.units+64<cLine) (ra:Reads s.heap v d as) (c1:d.canLay0=true) (dd:d.depth<=50) :
  ∀{xs:List V}{ds:List PyData}{us:List Value},DatasAt H xs ds->Vals xs us->PyData.canLayAll0 ds=true->(∀w∈us,SeqAt.EqAt X.A.in1 s w v (qS6 s.heap d w))/\us.any (qS6 s.heap d)=ds.any λe=>PyData.eqv e d
 |_,_,_,.nil,.nil,_=>⟨λw hw=>(nomatch hw),rfl⟩
 |_,d'::ds',u0::us0,.cons hx hxs,.cons r0 rs,h3=>by
  have h3':d'.canLay0=true/\PyData.canLayAll0 ds'=true:=by simpa [PyData.canLayAll0] using h3
  obtain⟨e1,e2⟩:=xd3 I un ra c1 dd hxs rs h3'.2;obtain⟨bs,rb⟩:=hx.reads I.hok r0;have eb:=xm9 (d:=d) rb h3'.1;refine⟨λw hw=>?_,?_⟩
  ·rcases ZC.mp hw with rfl|hw
   ·rw[eb];exact SeqAt.eqAt_reads d' d X.A.in1 s w v bs as rb ra h3'.1 c1 (by
     have:X.A.in1.units=X.A.units+1:=rfl;lia)
   ·exact e1 w hw
  ·rw[Y6,Y6,eb,e2]
theorem xs2 {k:Nat}(hr:Room k X.A):OpR X (compareOp .In) (λx y H Q=>∃(p:Addr) (xs:List V) (ds:List PyData) (d:PyData),y=.ref p/\H p=some (.tup xs)/\DatasAt H xs ds/\DataAt H x d/\d.canLay0=true/\PyData.canLayAll0 ds=true/\d.depth<=50 /\
  Q (.bl (ds.any λe=>PyData.eqv e d)) H):=by
 intro j4 s σ H x y v u Q I rx ry h;obtain⟨p,xs,ds,d,rfl,hp,j9,hd,c1,c2,dd,q⟩:=h;cases ry;obtain⟨as,ra⟩:=hd.reads I.hok rx;obtain⟨its,rv,pl,hz⟩:=I.tuple (SqT.of hp);have un:=hr.units;obtain⟨k1,k2⟩:=xd3 (X:=X) I un ra c1 dd j9 rv c2;refine SeqAt.in_tupleAt (qS6 s.heap d) pl (λw hw=>k1 w (by simpa using hw)) ⟨.bl _,H,I,rfl,?_⟩;rw[show its.toArray.any (qS6 s.heap d)=its.any (qS6 s.heap d) by simp,k2];exact q
end
end L2
namespace L2
open PySem
theorem xn6 {α:Type}{i1 i2:BEq α}(h1:@LawfulBEq α i1) (h2:@LawfulBEq α i2):i1=i2:=by
 have:∀a b,@BEq.beq α i1 a b=@BEq.beq α i2 a b:=λa b=>by
  rw[YI,@XB α i1 h1,@XB α i2 h2]
 cases i1;cases i2;congr 1;funext a b;exact this a b
inductive Ars (X:Cx):List Expr->TA->Prop
 |nil:Ars X [] tNil
 |cons {e:Expr}{es:List Expr}{te:TE}{t:TA}(h:PE X e te) (r:Ars X es t) (hs:starEach (e::es) X.env=(false,eval e X.env)::starEach es X.env):Ars X (e::es) (qn3 te t)
theorem Ars.go {X:Cx}:∀{es:List Expr}{t:TA},Ars X es t->PA X es t
 |_,_,.nil=>qa2
 |_,_,.cons h r hs=>qa0 h r.go hs
structure PEb (X:Cx) (e:Expr) (t:TE):Prop where
 go:PE X e t
structure PSb (X:Cx) (st:Stmt) (t:TS):Prop where
 go:PS X st t
inductive StB (X:Cx):List Stmt->TS->Prop
 |one {st:Stmt}{t:TS}(h:PSb X st t):StB X [st] t
 |cons {st:Stmt}{rest:List Stmt}{t u:TS}(h:PSb X st t) (r:StB X rest u):StB X (st::rest) (tSeq t u)
theorem StB.go {X:Cx}:∀{l:List Stmt}{t:TS},StB X l t->PSs X l t
 |_,_,.one h=>qa8 h.go
 |_,_,.cons h r=>qb6 h.go r.go
theorem seqE {X:Cx}{st:Stmt}{rest:List Stmt}{R:TS->Prop}(h:∃t,PSb X st t/\∃u,PSs X rest u/\R (tSeq t u)):∃t,PSs X (st::rest) t/\R t:=by
 obtain⟨t,h1,u,h2,h3⟩:=h;exact⟨_,qb6 h1.go h2,h3⟩
theorem qe5 {X:Cx}{st:Stmt}{R:TS->Prop}(h:∃t,PSb X st t/\R t):∃t,PSs X [st] t/\R t:=by
 obtain⟨t,h1,h3⟩:=h;exact⟨_,qa8 h1.go,h3⟩
inductive Ars2 (X:Cx):List Expr->TA->Prop
 |nil:Ars2 X [] tNil
 |cons {e:Expr}{es:List Expr}{te:TE}{t:TA}(h:PEb X e te) (r:Ars2 X es t) (hs:starEach (e::es) X.env=(false,eval e X.env)::starEach es X.env):Ars2 X (e::es) (qn3 te t)
theorem Ars2.go {X:Cx}:∀{es:List Expr}{t:TA},Ars2 X es t->PA X es t
 |_,_,.nil=>qa2
 |_,_,.cons h r hs=>qa0 h.go r.go hs
theorem qu4 {X:Cx}{T id:String}{name:Str}{r:V->List V->Hp->VK->Prop}{o e:Expr}{es:List Expr}{to:TE}{t:TA}{apos cpos:Pos}(pa:PlainAttrs T) (slot:Slot T name id) (hty:typeOf (.builtin id)=pure (.type "method_descriptor")) (hm:MtR X id r) (ho:PEb X o to) (ha:Ars2 X (e::es) t)
  (hbase:attributeBase o name X.env (eval o X.env)=eval o X.env:=by rfl)
  (hfew:((backTo cpos (starEach (e::es) X.env)).all (λx=>!x.1)&&(backToKw cpos (keywordEach [] X.env)).all (λx=>x.1.isSome)
   && decide ((e::es).length+([]:List Keyword).length+(if ([]:List Keyword).isEmpty then 0 else 1)<30))=true:=by rfl)
  (hline:(apos.endLine==cpos.line)=true:=by rfl) (hs:starEach (e::es) X.env=(false,eval e X.env)::starEach es X.env:=by rfl) (hplain:(backTo cpos (starEach es X.env)).any (·.1)=false:=by rfl) :
  PEb X (.Call (.Attribute o name apos) (e::es) [] cpos) (tBM X.K T r to t):=⟨q72 pa slot hty hm ho.go ha.go hbase hfew hline hs hplain⟩
inductive Prs (X:Cx) (pos:Pos):List (Option Expr)->List Expr->List (TE×TE)->Prop
 |nil:Prs X pos [] [] []
 |cons {k v:Expr}{ks:List (Option Expr)}{vs:List Expr}{tk tv:TE}{trs:List (TE×TE)}(hk:PEb X k tk) (hv:PEb X v tv) (r:Prs X pos ks vs trs):Prs X pos (some k::ks) (v::vs) ((tk,tv)::trs)
theorem Prs.go {X:Cx}{pos:Pos}:∀{ks:List (Option Expr)}{vs:List Expr}{trs:List (TE×TE)},Prs X pos ks vs trs->PPs X pos ks vs trs
 |_,_,_,.nil=>xw0
 |_,_,_,.cons hk hv r=>xl5 hk.go hv.go r.go
theorem xn7 {X:Cx}{pos:Pos}{keys:List (Option Expr)}{values:List Expr}{trs:List (TE×TE)}(h:Prs X pos keys values trs) (jH:keys.all (·.isSome)=true) (hl:keys.length=values.length) (h0:keys≠[])
  (h15:keys.length<=15):PEb X (.Dict keys values pos) (xC7 trs):=⟨xw1 h.go jH hl h0 h15⟩
theorem qj1 {X:Cx}{i:Int}{j:Nat}{pos:Pos}:PEb X (.Constant (.int i) j pos) (tC (.int i)):=⟨qa5⟩
theorem qy9 {X:Cx}{i:Nat}{x:Str}{e:Expr}{te:TE}{pos pos':Pos}(hN:X.N.Nodup) (hi:X.N[i]?=some x) (hx:Loc X.env.scope x) (he:PEb X e te) (hs:swapsWith e (some (.Name x pos')) pos.line X.env=pure false) (hf:X.fn x=true) :
  PSb X (.Assign [.Name x pos'] e pos) (tAsg te (qg8 i)):=⟨xq6 hN hi hx he.go hs (.inl hf)⟩
theorem qN2 {X:Cx}{a b c d:Int}{ja jb jc jd:Nat}{pa pb pc pd pos:Pos}{x1:Nat}:PEb X (.Tuple [.Constant (.int a) ja pa,.Constant (.int b) jb pb,.Constant (.int c) jc pc,.Constant (.int d) jd pd] x1 pos) (tTup (qn3 (tC (.int a)) (qn3 (tC (.int b)) (qn3 (tC (.int c)) (qn3 (tC (.int d)) tNil))))):=
 ⟨qg0 (Ars.go (.cons qa5 (.cons qa5 (.cons qa5 (.cons qa5 .nil rfl) rfl) rfl) rfl))⟩
end L2
namespace Pr
open PySem L2 Qf
def PurseAt (H:Hp) (p:Addr):Prop:=∃a b:Int,H p=some (.lst [.int a,.int b])/\0<=a/\0<=b/\b<2^40
theorem PurseAt.same {H H':Hp}{p:Addr}(h:PurseAt H p) (s:Same H H'):PurseAt H' p:=by
 obtain⟨a,b,e,r⟩:=h;exact⟨a,b,s _ _ e,r⟩
def RowsL (H:Hp) (p:Addr) (rows:List Row):Prop:=∃bs:List Addr,H p=some (.lst (bs.map V.ref))/\bs.length=rows.length/\∀(i:Nat) b r,bs[i]?=some b->rows[i]?=some r->H b=some (.tup (vN r))
theorem RowsL.same {H H':Hp}{p:Addr}{rows:List Row}(h:RowsL H p rows) (s:Same H H'):RowsL H' p rows:=by
 obtain⟨bs,h1,h2,h3⟩:=h;exact⟨bs,s _ _ h1,h2,λi b r e1 e2=>s _ _ (h3 i b r e1 e2)⟩
def tabl {α κ:Type}(key:α->κ) (l:List α) (k:Nat):List (κ×V):=(l.zipIdx k).map λp=>(key p.1,V.int (p.2:Nat))
section
variable {α κ:Type}[DecidableEq α] [DecidableEq κ]{key:α->κ}
theorem qj0 (l:List α) (k:Nat):(tabl key l k).length=l.length:=by simp[tabl]
theorem xd4 (a:α) (l:List α) (k:Nat):tabl key (a::l) k=(key a,V.int (k:Nat))::tabl key l (k+1):=by simp[tabl]
theorem qN3 (l:List α) (a:α) (k:Nat):tabl key (l++[a]) k=tabl key l k++[(key a,V.int (k+l.length:Nat))]:=by simp[tabl,List.zipIdx_append]
theorem qq6 (inj:∀a b,key a=key b->a=b) (a:α):∀(l:List α) (k:Nat),valV (tabl key l k) (key a)=if a∈l then some (.int (k+l.idxOf a:Nat)) else none
 |[],k=>by simp[tabl,valV]
 |b::l,k=>by
  rw[xd4];by_cases h:b=a
  ·subst h;rw[qe8 rfl,Zt Zh,List.idxOf_cons_self]
   rfl
  ·rw[qd9 (λz=>h (inj _ _ z)),qq6 inj a l (k+1)];by_cases hm:a∈l
   ·have e:(b::l).idxOf a=l.idxOf a+1:=by
     rw[List.idxOf_cons,beq_false_of_ne h]
     rfl
    rw[Zt hm,Zt (Ze _ hm),e];congr 3;lia
   ·rw[Zm hm,Zm (λz=>by rcases ZC.mp z with z|z;exact h z.symm;exact hm z)]
theorem qX6 (inj:∀a b,key a=key b->a=b){l:List α}{a:α}{k:Nat}(h:a∉l):putK (tabl key l k) (key a) (.int (k+l.length:Nat))=tabl key (l++[a]) k:=by
 unfold putK;rw[qi5,qq6 inj,Zm h,Zm (by decide),qN3]
end
def fKey (p:Nat):Key:=Sum.inl ((p+2:Nat):Int)
theorem qX7 (a b:Nat) (h:fKey a=fKey b):a=b:=by
 have:((a+2:Nat):Int)=((b+2:Nat):Int):=WG h;lia
def fK (es:List Nat):List (Key×V):=tabl fKey es 2
theorem RowsL.but {H H':Hp}{p e:Addr}{rows:List Row}{o:HO}(h:RowsL H p rows) (b:But e H H') (k6:p≠e) (he:H e=some o) (no:∀u,o≠.tup u):RowsL H' p rows:=by
 obtain⟨bs,h1,h2,h3⟩:=h;exact⟨bs,b _ _ h1 k6,h2,λi c r e1 e2=>b.tups he no _ _ (h3 i c r e1 e2)⟩
theorem xJ8 {H H':Hp}{a:Addr}{o:HO}(s:Same H H') (h:H a=none):Same H (upd H' a o):=λb u e=>by
 rw[qa7 (qa4 e h)];exact s b u e
def qk0:List (Key×V):=[(Sum.inl 0,.int 0),(Sum.inl 1,.int 1)]
theorem qX8 (p:Nat):valV qk0 (fKey p)=none:=by
 unfold qk0 fKey;rw[qd9 (λz=>by have:=WG z;lia),qd9 (λz=>by have:=WG z;lia)]
 rfl
theorem qz0 {κ:Type}[DecidableEq κ] (a b:List (κ×V)) (k:κ):valV (a++b) k=(valV a k).or (valV b k):=by
 unfold valV;rw[List.find?_append];cases List.find? (λkv=>decide (kv.1=k)) a<;>rfl
theorem xs6 {es:List Nat}{q:Nat}(h:InE es q):valV (qk0++fK es) (Sum.inl (q:Int))=some (.int (nm es q:Nat)):=by
 by_cases z:q<2
 ·rw[qi7 z]
  match q,z with
  |0,_=>rfl
  |1,_=>rfl
 ·have hm:=h.resolve_left z;have ek:(Sum.inl (q:Int):Key)=fKey (q-2):=by
   show (Sum.inl (q:Int):Key)=Sum.inl ((q-2+2:Nat):Int);rw[show q-2+2=q by lia]
  rw[ek,qz0,qX8,qg4 z];show valV (tabl fKey es 2) _=_;rw[qq6 qX7,Zt hm];congr 3;lia
def qe6 (n top:Nat) (rows:List Row):PyData:=.tuple [.int (n:Nat),.int (top:Nat),.tuple (rows.map λr=>dT (r.map λx:Nat=>(x:Int)))]
theorem qs6 {H:Hp}:∀{bs:List Addr}{rows:List Row},bs.length=rows.length->(∀(i:Nat) b r,bs[i]?=some b->rows[i]?=some r->H b=some (.tup (vN r))) ->
  DatasAt H (bs.map V.ref) (rows.map λr=>dT (r.map λx:Nat=>(x:Int)))
 |[],[],_,_=>.nil
 |b::bs,r::rows,hl,h=>by
  refine .cons ?_ (qs6 (by simpa using hl) λi c q e1 e2=>h (i+1) c q (by simpa using e1) (by simpa using e2));have h0:=h 0 b r rfl rfl;rw[qu1] at h0;exact .tup h0 (DatasAt.ints _)
theorem qe2 {H:Hp}{t:Addr}{n top:Nat}{rows:List Row}(h:TellAt H t n top rows):DataAt H (.ref t) (qe6 n top rows):=by
 obtain⟨p,ht,bs,hp,hl,hr⟩:=h;exact .tup ht (.cons (.int _) (.cons (.int _) (.cons (.tup hp (qs6 hl hr)) .nil)))
theorem qq7:∀rows:List Row,PyData.canLayAll0 (rows.map λr=>dT (r.map λx:Nat=>(x:Int)))=true
 |[]=>rfl
 |r::rows=>by
  rw[Zz,PyData.canLayAll0,qK7,qq7 rows];rfl
theorem qk1 (n top:Nat) (rows:List Row):(qe6 n top rows).canLay0=true:=by
 unfold qe6;simp only[PyData.canLay0,PyData.canLayAll0,qq7 rows,Vj]
theorem qC3:∀ns:List Int,PyData.depthAll (ns.map PyData.int)=0
 |[]=>rfl
 |n::ns=>by rw[Zz,PyData.depthAll,qC3 ns];rfl
theorem qs7:∀rows:List Row,PyData.depthAll (rows.map λr=>dT (r.map λx:Nat=>(x:Int)))<=1
 |[]=>by decide
 |r::rows=>by
  have:=qs7 rows;have e:(dT (r.map λx:Nat=>(x:Int))).depth=1:=by
   show PyData.depthAll _+1=1;rw[qC3]
  rw[Zz,PyData.depthAll,e];lia
theorem qg5 (n top:Nat) (rows:List Row):(qe6 n top rows).depth<=60:=by
 have:=qs7 rows;show max _ (max _ (max (PyData.depthAll _+1) _))+1<=60;have e1:(PyData.int (n:Int)).depth=0:=rfl;have e2:(PyData.int (top:Int)).depth=0:=rfl;have e3:PyData.depthAll []=0:=rfl;rw[e1,e2,e3];lia
theorem qG2 (n top:Nat) (rows:List Row):PyData.eqv (qe6 n top rows) (qe6 n top rows)=true:=PySem.SeqAt.eqv_refl _ (qk1 n top rows)
theorem qG3 (cs:List Addr) (t:Addr):cs.map V.ref++[.ref t]=(cs++[t]).map V.ref:=by rw[ZR];rfl
def qk7 (rows:List Row):List PyData:=rows.map λr=>dT (r.map λx:Nat=>(x:Int))
theorem xd5 (m:List Row):PyData.eqv (.list (qk7 m)) (.list [])=m.isEmpty:=by
 cases m with
 |nil=>rfl
 |cons a l=>simp[qk7,PyData.eqv,PyData.eqvAll]
theorem qs8 {H:Hp}{p:Addr}{rows:List Row}(h:RowsL H p rows):DataAt H (.ref p) (.list (qk7 rows)):=by
 obtain⟨bs,hp,hl,hr⟩:=h;exact .lst hp (qs6 hl hr)
theorem qo4 (rows:List Row):(PyData.list (qk7 rows)).depth<=60:=by
 have:=qs7 rows;show PyData.depthAll _+1<=60;unfold qk7;lia
def tK (rows:List Row):List (List Key×V):=tabl keyN rows 2
theorem xn8 {α:Type}{i1 i2:BEq α}(h1:@LawfulBEq α i1) (h2:@LawfulBEq α i2) (l:List α) (a:α):@List.idxOf α i1 a l=@List.idxOf α i2 a l:=by
 cases xn6 h1 h2
 rfl
theorem qX9 (rows:List Row) (r:Row):valV (tK rows) (keyN r)=if r∈rows then some (.int (rows.idxOf r+2:Nat)) else none:=by
 unfold tK;rw[qq6 (λa b=>qv3)];split
 ·rw[Nat.add_comm];exact Yi (λn:Nat=>some (V.int ((n+2:Nat):Int))) (xn8 (by infer_instance) (by infer_instance) _ _)
 ·rfl
end Pr
namespace Qf
open Tr
theorem xE2 {rows:List Row}(ok:qb7 rows){E:List Nat}(pe:Post rows E):∀q,InE E q->T (told rows E) (nm E q)=T rows q:=by
 intro q
 induction q using Nat.strongRecOn with
 |ind q ih=>
  intro hq;by_cases z:q<2
  ·rw[qi7 z]
   match q,z with
   |0,_=>rw[qi1,qi1]
   |1,_=>rw[qo2,qo2]
  ·have hm:=hq.resolve_left z;have hp:=pe.lt _ hm;have ea:=qB4 hm;obtain⟨a,b,c,d,e⟩:=ql8 (ok _ _ (qf2 hp)).1;have hg:=qf2 hp;have hta:=qo1 (rows:=rows) ea;have rin:=λx (hx:x∈rows.getD (q-2) [])=>(qL7 pe ea hx).1;have j7:=(ok _ _ hg).2;rw[e] at hg hta rin j7;rw[qg4 z,qq3 (qS0 ok pe) hta];have e2:T rows q=.nd (T rows a) (T rows b) (T rows c) (T rows d):=by
    have:=qq3 ok hg
    rwa [show q-2+2=q by lia] at this
   rw[e2,ih a (by have:=j7 a (by simp);lia) (rin a (by simp)),ih b (by have:=j7 b (by simp);lia) (rin b (by simp)),ih c (by have:=j7 c (by simp);lia) (rin c (by simp)),ih d (by have:=j7 d (by simp);lia) (rin d (by simp))]
theorem qC4 {n x:Nat}{rows:List Row}(hn:n<=12) (ok:qb7 rows) (hx:x<rows.length+2) (hd:dp rows x<=n) (np:∀r∈rows,¬qh3 r) (nd:rows.Nodup) :
  Canon n (nm (dfs rows n [] x) x) (told rows (dfs rows n [] x))/\T (told rows (dfs rows n [] x)) (nm (dfs rows n [] x) x)=T rows x:=by
 obtain⟨pe,hi⟩:=qf8 ok n [] x (qi6 rows) hx hd;exact⟨q30 hn ok hx hd np nd,xE2 ok pe x hi⟩
theorem qh1 {L:List Tr}{t:Tr}(h:In L t):post t L=L:=by
 cases t with
 |z=>rfl
 |o=>rfl
 |nd a b c d=>
  have hm:Tr.nd a b c d∈L:=by rcases h with h|h|h;cases h;cases h;exact h
  unfold post;rw[Zt hm]
theorem qm7 {L:List Tr}(h:Ord L){t:Tr}(hk:∀s∈kids t,In L s):rowsOf (L++[t])=rowsOf L++[(kids t).map (name L)]:=by
 unfold rowsOf;rw[ZR];congr 1
 ·refine YB λu hu=>?_;obtain⟨i,hi,e⟩:=ZJ.mp hu;exact YB λs hs=>name_app (kid_in h (i:=i) (t:=u) (by rw[Zb hi,e]) hs).1 h
 ·show[(kids t).map (name (L++[t]))]=_;congr 1;exact YB λs hs=>name_app (hk s hs) h
theorem qS7 {L:List Tr}(h:Ord L){a b c d:Tr}(hk:∀s∈kids (.nd a b c d),In L s):(kids (.nd a b c d)).map (name L)∈rowsOf L<->Tr.nd a b c d∈L:=by
 constructor
 ·intro hm;obtain⟨i,hi,e⟩:=ZJ.mp hm;obtain⟨t,ht,er⟩:=qs5 (i:=i) (r:=(kids (.nd a b c d)).map (name L)) (by rw[Zb hi,e]);have:=qX3 ⟨a,b,c,d,rfl⟩ (h.ch i t ht).1 (ql7 h hk (λs hs=>(kid_in h ht hs).1) er);rw[this];exact Zs ht
 ·intro hm;obtain⟨i,hi,e⟩:=ZJ.mp hm;exact Zs (rowsOf_at (i:=i) (t:=.nd a b c d) (by rw[Zb hi,e]))
theorem xx8 {L:List Tr}(h:Ord L){i:Nat}{t:Tr}(e:L[i]?=some t):(rowsOf L).idxOf ((kids t).map (name L))=i:=by
 have hl:=(gS_ e).1;have e2:=rowsOf_at e;have jP:i<(rowsOf L).length:=by rw[rowsOf_len];exact hl
 have e3:=(gS_ e2).2;rw[<- e3];exact (rowsOf_nodup h).idxOf_getElem i jP
end Qf
namespace Pr
open PySem L2 Qf
theorem qC5 {H:Hp}{e u:Addr}{L:List Tr}(hO:Tr.Ord L){a b c d:Tr}(hm:Tr.nd a b c d∈L) (he:H e=some (.dT (tK (Tr.rowsOf L)))) (hu:H u=some (.tup (vN [Tr.name L a,Tr.name L b,Tr.name L c,Tr.name L d]))) :
  DGet H e (.ref u) (some (.int (Tr.name L (.nd a b c d):Nat))):=by
 obtain⟨i,hi,ei⟩:=ZJ.mp hm;have ei':L[i]?=some (.nd a b c d):=by rw[Zb hi,ei]
 have hix:=xx8 hO ei';have hmr:(Tr.kids (.nd a b c d)).map (Tr.name L)∈Tr.rowsOf L:=Zs (Tr.rowsOf_at ei');have:=DGet.t (k:=keyN ((Tr.kids (.nd a b c d)).map (Tr.name L))) he (by rw[qn7];exact hu);rw[qX9,Zt hmr,hix] at this;rw[Tr.name_at hO ei'];exact this
end Pr
namespace L2
open PySem
theorem xd6 {H:Hp}{n k:Nat}{g:TG}{tt:TT}{te:TE}{σ:St}{Fin:Hp->Prop}{D:Addr}(Iv:Nat->List V->Hp->Prop) (hsz:n<sizeLine) (i0:Iv 0 [] (upd H D (.lst []))) (hD:∀i xs H2,Iv i xs H2->H2 D=some (.lst xs)/\xs.length<=i)
  (step:∀i xs H2,i<n->Iv i xs H2->∀os:St,os.length=k->∀(Q1:Hp->Prop) (Q2:VK),(∀H3,Iv (i+1) xs H3->Q1 H3)->(∀v H3,H3 D=some (.lst xs)->Iv (i+1) (xs++[v]) (upd H3 D (.lst (xs++[v])))->Q2 v H3) ->
   g (.int (0+(i:Int))) (os++σ) H2 λσ4 H4=>tt σ4 H4 λb H5=>if b=true then te σ4 H5 Q2 else Q1 H5)
  (fin:∀xs H2,Iv n xs H2->Fin H2) :
  ∃W:Nat->Nat->List V->Hp->Prop,(∃m,W 0 m [] (upd H D (.lst []))) /\
   ∀i m xs H2,W i m xs H2->H2 D=some (.lst xs)/\xs.length<sizeLine/\(((Itr 0 n).stop i H2/\Fin H2)\/((Itr 0 n).go i H2/\∀y H3,(Itr 0 n).yld i H2 y H3->∀os:St,os.length=k ->
    g y (os++σ) H3 λσ4 H4=>tt σ4 H4 λb H5=>if b=true then te σ4 H5 λv H6=>H6 D=some (.lst xs)/\∃m',m'<m/\W (i+1) m' (xs++[v]) (upd H6 D (.lst (xs++[v]))) else ∃m',m'<m/\W (i+1) m' xs H5)):=by
 refine⟨λi m xs H2=>i<=n/\m=n-i/\Iv i xs H2,⟨n,ZB _,rfl,i0⟩,?_⟩;rintro i m xs H2 ⟨hi,rfl,iv⟩;obtain⟨h1,h2⟩:=hD i xs H2 iv;refine⟨h1,by lia,?_⟩;by_cases he:i=n
 ·subst he;exact .inl ⟨Zd i,fin xs H2 iv⟩
 ·refine .inr ⟨show i<n by lia,λy H3 hy os ho=>?_⟩;obtain⟨e1,e2⟩:=hy;rw[e1,e2];exact step i xs H2 (by lia) iv os ho _ _ (λH5 h=>⟨n-(i+1),by lia,by lia,rfl,h⟩) λv H6 h1 h2=>⟨h1,n-(i+1),by lia,by lia,rfl,h2⟩
theorem qY0 {H:Hp}{n:Nat}{te:TE}{σ:St}{Fin:Hp->Prop}{D:Addr}(Iv:Nat->List V->Hp->Prop) (hsz:n<sizeLine) (i0:Iv 0 [] (upd H D (.lst []))) (hD:∀i xs H2,Iv i xs H2->H2 D=some (.lst xs)/\xs.length<=i)
  (step:∀i xs H2,i<n->Iv i xs H2->∀Q2:VK,(∀v H3,H3 D=some (.lst xs)->Iv (i+1) (xs++[v]) (upd H3 D (.lst (xs++[v])))->Q2 v H3)->te (some (.int (0+(i:Int)))::σ) H2 Q2)
  (fin:∀xs H2,Iv n xs H2->Fin H2) :
  ∃W:Nat->Nat->List V->Hp->Prop,(∃m,W 0 m [] (upd H D (.lst []))) /\
   ∀i m xs H2,W i m xs H2->H2 D=some (.lst xs)/\xs.length<sizeLine/\(((Itr 0 n).stop i H2/\Fin H2)\/((Itr 0 n).go i H2/\∀y H3,(Itr 0 n).yld i H2 y H3 ->
    te (some y::σ) H3 λv H4=>H4 D=some (.lst xs)/\∃m',m'<m/\W (i+1) m' (xs++[v]) (upd H4 D (.lst (xs++[v]))))):=by
 refine⟨λi m xs H2=>i<=n/\m=n-i/\Iv i xs H2,⟨n,ZB _,rfl,i0⟩,?_⟩;rintro i m xs H2 ⟨hi,rfl,iv⟩;obtain⟨h1,h2⟩:=hD i xs H2 iv;refine⟨h1,by lia,?_⟩;by_cases he:i=n
 ·subst he;exact .inl ⟨Zd i,fin xs H2 iv⟩
 ·refine .inr ⟨show i<n by lia,λy H3 hy=>?_⟩;obtain⟨e1,e2⟩:=hy;rw[e1,e2];exact step i xs H2 (by lia) iv _ λv H6 h1 h2=>⟨h1,n-(i+1),by lia,by lia,rfl,h2⟩
end L2
namespace Pr
open PySem L2 Qf
structure Blt2 (mg:Str->Option Value):Prop where
 abs:mg "abs" = none
 repr:mg "repr" = none
 str:mg "str" = none
section
variable {P:Program}{w:World}{K:PySem.W.Frag}{mg:Str->Option Value}{base:Heap}
theorem scDigit:FnScope ["_law_pot_here", "_law_many", "_law_digit_here"] ["_law_pot_here", "_law_many"] (qa3 qk6):=qd0
def qi2:Sp:=λvs H Q _=>∃(p:Addr) (n:Nat),vs=[.ref p,.int (n:Nat)]/\PurseAt H p/\0<n/\n<1000000/\∀(d:Nat) (H':Hp),d<n->But p H H'->PurseAt H' p->Q (.int (d:Nat)) H'
theorem qh4 {f:Addr}{fd:FuncData}(F:Fun K "_law_digit" "_law_digit" qk6 f fd):FnOk P w K mg base CX0 1 f fd ["_law_pot_here", "_law_many"] qi2:=by
 refine F.ok scDigit (λvs H Q E h=>?_) (λcdv A outer s H vs Q E hr h=>?_)
 ·obtain⟨p,n,rfl,_⟩:=h
  rfl
 ·obtain⟨p,n,rfl,⟨a,b,hp,ha,hb,kB⟩,hn,hn2,q⟩:=h;refine⟨_,qb6 (qc9 (qb2 xB7 (pxN ix_list (pv 0) qa5) qa5 (qb4 _))
    (qb6 (psN 2 scDigit.nd (qb0 qt3 (pxN ix_list (pv 0) qa5) (pv 1)))
    (qb6 (qk5 (qb0 qr8 (pxN ix_list (pv 0) qa5) (pv 1)) (qI9 (pv 0) qa5 qo8))
    (qa8 (qa9 (pv 2))))) qb1)
   (qb6 (qk5 (qb0 qt3 (qb0 qc4 (qb0 qJ1 (pxN ix_list (pv 0) qa5) qa5) qa5) qa5) (qI9 (pv 0) qa5 qo8))
   (qa8 (qa9 (qb0 qt3 (qb0 qr8 (pxN ix_list (pv 0) qa5) qa5) (pv 1))))),?_⟩
  have sq:∀{H':Hp}{xs:List V},H' p=some (.lst xs)->SqL K H' p xs:=λh=>SqL.of h;have fin:∀(d x y:Int),0<=d->d<(n:Int)->0<=x->0<=y->y<2^40->Q (.int d) (upd H p (.lst [.int x,.int y])):=λd x y d0 d1 x0 y0 y1=>by
   have:=q d.toNat (upd H p (.lst [.int x,.int y])) (by lia) But.upd ⟨x,y,qa1,x0,y0,y1⟩
   rwa [show ((d.toNat:Nat):Int)=d by lia] at this
  have hn0:(0:Int)<n:=by lia
  refine⟨_,rfl,p,_,0,_,rfl,rfl,sq hp,rfl,_,_,rfl,rfl,_,rfl,?_⟩;refine ite2 (λhc=>?_) (λhc=>?_)
  ·refine⟨_,rfl,p,_,0,_,rfl,rfl,sq hp,rfl,_,rfl,_,_,rfl,rfl,hn0,?_⟩;refine⟨_,rfl,p,_,0,_,rfl,rfl,sq hp,rfl,_,rfl,_,_,rfl,rfl,⟨hn0,by lia⟩,_,rfl,p,_,0,0,rfl,rfl,hp,rfl,?_⟩;refine⟨_,rfl,?_⟩;exact fin _ _ _ (Wh _ (by lia)) (XD _ hn0) (Int.ediv_nonneg ha (by lia)) hb kB
  ·refine⟨_,rfl,p,_,1,_,rfl,rfl,sq hp,rfl,_,_,rfl,rfl,.inl ⟨by lia,by lia⟩,_,_,rfl,rfl,_,_,rfl,rfl,(by show (0:Int)<2147483629;decide),_,rfl,p,_,1,1,rfl,rfl,hp,rfl,?_⟩;have m1:0<=(b*48271+8191)%2147483629/\(b*48271+8191)%2147483629<2147483629:=⟨Wh _ (by decide),XD _ (by decide)⟩;refine⟨_,rfl,p,_,1,_,rfl,rfl,sq qa1,rfl,_,_,rfl,rfl,⟨by decide,by decide⟩,_,rfl,_,_,rfl,rfl,hn0,?_⟩;exact fin _ _ _ (Wh _ (by lia)) (XD _ hn0) ha m1.1 (by lia)
theorem scPot:FnScope ["_law_script", "_law_k", "_law_cell"] ["_law_script", "_law_k"] (qa3 lPot):=qd0
def xE3 (K:PySem.W.Frag):Sp:=λvs H Q _=>∃(a:Addr) (k:Int) (ns:List Int),vs=[.ref a,.int k]/\SqL K H a (ns.map V.int)/\ns.length<=63/\0<=k/\k<=1000/\∀(H':Hp) (p:Addr),Same H H'->H p=none->PurseAt H' p->Q (.ref p) H'
theorem xE4 {f:Addr}{fd:FuncData}(F:Fun K "_law_pot" "_law_pot" lPot f fd) (B:Blt mg) (C:Blt2 mg):FnOk P w K mg base CX0 1 f fd ["_law_script", "_law_k"] (xE3 K):=by
 refine F.ok scPot (λvs H Q E h=>?_) (λcdv A outer s H vs Q E hr h=>?_)
 ·obtain⟨a,k,ns,rfl,_⟩:=h
  rfl
 ·obtain⟨a,k,ns,rfl,hS,hl,h0,h1,q⟩:=h;refine seqE ⟨_,⟨psN 2 scPot.nd qa5⟩,?_⟩;refine seqE ⟨_,⟨qc9 (qb2 qn8 (pv 1) (qa6 qb9 (by rfl) B.len ZM (qa0 (pv 0) qa2)) (qb4 _)) (qa8 (psN 2 scPot.nd (pxN ix_list (pv 0) (pv 1)))) qb1⟩,?_⟩;refine qe5 ⟨_,⟨qa9 (qg1 (Ars2.go (.cons ⟨qa6 (qo7 rfl) (by rfl) B.max Xe (qa0 qa5 (qa0 (qb0 qe0 (qa6 qU7 (by rfl) C.abs PyProof.Rows.boot_abs (qa0 (pv 2) qa2)) (qb0 xB6 qa5 qa5)) qa2))⟩
    (.cons ⟨qb0 qc4 (qb0 qc4 (qb0 qt3 (qa6 qU7 (by rfl) C.abs PyProof.Rows.boot_abs (qa0 (pv 2) qa2)) qa5) (qb0 qJ1 qa5 (pv 1))) qa5⟩ .nil rfl) rfl)))⟩,?_⟩
  have fin:∀(z:Int) (p:Addr),H p=none->Q (.ref p) (upd H p (.lst [.int (if (if z<0 then -z else z)-10^18>0 then (if z<0 then -z else z)-10^18 else 0),.int ((if z<0 then -z else z)%2147483629+97*k+1)])):=λz p hp=>by
   have m1:0<=(if z<0 then -z else z)%2147483629/\(if z<0 then -z else z)%2147483629<2147483629:=⟨Wh _ (by decide),XD _ (by decide)⟩;refine q _ p (qb3 hp) hp ⟨_,_,qa1,?_,?_,?_⟩
   ·split<;>lia
   ·lia
   ·lia
  refine⟨_,rfl,_,rfl,a,_,rfl,.inl hS,_,_,rfl,rfl,_,rfl,?_⟩;refine ite2 (λhc=>?_) (λhc=>?_)
  ·have hk:k<(ns.length:Int):=by
    have:=Zq hc;simpa using this
   have vB:k.toNat<ns.length:=by lia
   refine⟨_,rfl,_,rfl,a,_,k,.int (ns[k.toNat]),rfl,rfl,hS,?_,?_⟩
   ·have:=qd8 (xs:=ns.map V.int) (j:=k.toNat) (v:=.int (ns[k.toNat])) (by simp[vB]);rw[show ((k.toNat:Nat):Int)=k by lia] at this;exact this
   ·refine⟨_,rfl,_,rfl,_,_,rfl,rfl,⟨by decide,by decide,by decide⟩,_,_,rfl,rfl,_,_,rfl,?_⟩;exact⟨_,rfl,_,rfl,_,_,rfl,rfl,(by show (0:Int)<2147483629;decide),_,rfl,_,_,rfl,rfl,.inl ⟨by decide,by decide⟩,_,_,rfl,rfl,_,_,rfl,rfl,(by show 2<=sizeLine;decide),λp hp=>fin _ p hp⟩
  ·refine⟨_,rfl,_,rfl,_,_,rfl,rfl,⟨by decide,by decide,by decide⟩,_,_,rfl,rfl,_,_,rfl,?_⟩;exact⟨_,rfl,_,rfl,_,_,rfl,rfl,(by show (0:Int)<2147483629;decide),_,rfl,_,_,rfl,rfl,.inl ⟨by decide,by decide⟩,_,_,rfl,rfl,_,_,rfl,rfl,(by show 2<=sizeLine;decide),λp hp=>fin _ p hp⟩
end
end Pr
namespace Qf
def q36 (n:Nat) (b:Row):Prop:=∃r c h w,b=[r,c,h,w]/\1<=h/\1<=w/\r+h<=2^n/\c+w<=2^n
def xx9 (b:Row):Prop:=∃r c h w,b=[r,c,h,w]/\((h<=9/\w<=9)\/∃s i j,h=2^s/\w=2^s/\r=i*2^s/\c=j*2^s)
def qS8 (n:Nat) (bs:List Row):Prop:=(∀b∈bs,q36 n b)/\((n<4/\bs.length<=64)\/(bs.length<=5/\∀b∈bs,xx9 b))
theorem qs9 (k:Nat):(1:Int)*2^((k:Int)).toNat=((2^k:Nat):Int):=by
 rw[Z5,Int.one_mul];push_cast;rfl
theorem qm8 {n:Nat}(h:n<=12):2^n<=4096/\0<2^n:=⟨by
 have:=WK (n:=2) (by decide) h;simpa using this,YY (by decide)⟩
end Qf
namespace Pr
open PySem L2 Qf
section
variable {P:Program}{w:World}{K:PySem.W.Frag}{mg:Str->Option Value}{base:Heap}
theorem scBox:FnScope ["_law_pot_here", "_law_n", "_law_most", "_law_side", "_law_size", "_law_row", "_law_column", "_law_high", "_law_wide"] ["_law_pot_here", "_law_n", "_law_most"] (qa3 lBox):=qd0
def xy0:Sp:=λvs H Q _=>∃(p:Addr) (n:Nat),vs=[.ref p,.int (n:Nat),.int 9]/\PurseAt H p/\n<=12 /\
 ∀(H':Hp) (t:Addr) (b:Row),But p H H'->PurseAt H' p->H' t=some (.tup (vN b))->q36 n b->xx9 b->Q (.ref t) H'
theorem xE5 {f fD:Addr}{fd fdD:FuncData}(F:Fun K "_law_box" "_law_box" lBox f fd) (B:Blt mg) (hD:mg "_law_digit" = some (.ref fD)) (FD:Fun K "_law_digit" "_law_digit" qk6 fD fdD) (bD:Binds K fdD ["_law_pot_here", "_law_many"] []) :
  FnOk P w K mg base CX0 2 f fd ["_law_pot_here", "_law_n", "_law_most"] xy0:=by
 have GD:FnOk P w K mg base CX0 1 fD fdD ["_law_pot_here", "_law_many"] qi2:=qh4 FD;refine F.ok scBox (λvs H Q E h=>?_) (λcdv A outer s H vs Q E hr h=>?_)
 ·obtain⟨p,n,rfl,_⟩:=h
  rfl
 ·obtain⟨p,n,rfl,hp,hn,q⟩:=h;refine seqE ⟨_,⟨psN 3 scBox.nd (qb0 qn5 qa5 (pv 1))⟩,?_⟩;refine seqE ⟨_,⟨qc9 (qb2 qw5 (pcN GD hr hD FD.kp bD (qa0 (pv 0) (qa0 qa5 qa2))) qa5 (qb4 _))
   (StB.go (.cons ⟨psN 4 scBox.nd (pcN GD hr hD FD.kp bD (qa0 (pv 0) (qa0 (qb0 qc4 (pv 1) qa5) qa2)))⟩
    (.cons ⟨psN 5 scBox.nd (qb0 qn5 (pcN GD hr hD FD.kp bD (qa0 (pv 0) (qa0 (qb0 qn5 qa5 (qb0 qe0 (pv 1) (pv 4))) qa2))) (pv 4))⟩
    (.cons ⟨psN 6 scBox.nd (qb0 qn5 (pcN GD hr hD FD.kp bD (qa0 (pv 0) (qa0 (qb0 qn5 qa5 (qb0 qe0 (pv 1) (pv 4))) qa2))) (pv 4))⟩
    (.one ⟨qa9 (qg0 (Ars2.go (.cons ⟨pv 5⟩ (.cons ⟨pv 6⟩ (.cons ⟨qb0 qn5 qa5 (pv 4)⟩ (.cons ⟨qb0 qn5 qa5 (pv 4)⟩ .nil rfl) rfl) rfl) rfl)))⟩))))) qb1⟩,?_⟩
  refine seqE ⟨_,⟨psN 5 scBox.nd (pcN GD hr hD FD.kp bD (qa0 (pv 0) (qa0 (pv 3) qa2)))⟩,?_⟩;refine seqE ⟨_,⟨psN 6 scBox.nd (pcN GD hr hD FD.kp bD (qa0 (pv 0) (qa0 (pv 3) qa2)))⟩,?_⟩;refine seqE ⟨_,⟨psN 7 scBox.nd (qb0 qc4 qa5 (pcN GD hr hD FD.kp bD (qa0 (pv 0) (qa0 (qa6 (qk9 rfl) (by rfl) B.min Xg (qa0 (pv 2) (qa0 (qb0 qe0 (pv 3) (pv 5)) qa2))) qa2))))⟩,?_⟩;refine seqE ⟨_,⟨psN 8 scBox.nd (qb0 qc4 qa5 (pcN GD hr hD FD.kp bD (qa0 (pv 0) (qa0 (qa6 (qk9 rfl) (by rfl) B.min Xg (qa0 (pv 2) (qa0 (qb0 qe0 (pv 3) (pv 6)) qa2))) qa2))))⟩,?_⟩;refine qe5 ⟨_,⟨qa9 (qg0 (Ars2.go (.cons ⟨pv 5⟩ (.cons ⟨pv 6⟩ (.cons ⟨pv 7⟩ (.cons ⟨pv 8⟩ .nil rfl) rfl) rfl) rfl)))⟩,?_⟩;obtain⟨p1,p2⟩:=qm8 hn;refine⟨_,rfl,_,_,rfl,rfl,⟨by lia,by lia,by decide⟩,?_⟩;refine⟨_,rfl,p,2,rfl,hp,by decide,by decide,λd H1 hd b1 jG=>⟨rfl,_,rfl,?_⟩⟩;refine ite2 (λhc=>?_) (λhc=>?_)
  ·refine⟨_,rfl,_,rfl,_,_,rfl,rfl,p,n+1,rfl,jG,by lia,by lia,λz H2 hz b2 jR=>?_⟩;have hzn:z<=n:=by lia
   obtain⟨s1,s2⟩:=qm8 (ZE hzn hn);obtain⟨m1,m2⟩:=qm8 (ZE (Nat.sub_le n z) hn);have em:(1:Int)*2^((n:Int)-(z:Int)).toNat=((2^(n-z):Nat):Int):=by
    rw[<- qs9 (n-z)];congr 3;lia
   have ez:=qs9 z;have hsplit:2^(n-z)*2^z=2^n:=by rw[<- XX];congr 1;lia
   refine⟨_,rfl,_,rfl,_,rfl,_,_,rfl,rfl,_,_,rfl,rfl,⟨by lia,by lia,by decide⟩,p,2^(n-z),Yi (λx=>[V.ref p,V.int x]) em,jR,m2,by lia,λi H3 hi b3 kC=>?_⟩;refine⟨_,rfl,_,_,rfl,rfl,⟨by lia,by lia,by lia⟩,?_⟩;refine⟨_,rfl,_,rfl,_,rfl,_,_,rfl,rfl,_,_,rfl,rfl,⟨by lia,by lia,by decide⟩,p,2^(n-z),Yi (λx=>[V.ref p,V.int x]) em,kC,m2,by lia,λj H4 hj b4 kG=>?_⟩;refine⟨_,rfl,_,_,rfl,rfl,⟨by lia,by lia,by lia⟩,?_⟩;refine⟨_,rfl,_,rfl,_,rfl,_,_,rfl,rfl,⟨by lia,by lia,by decide⟩,_,rfl,_,_,rfl,rfl,⟨by lia,by lia,by decide⟩,(by show 4<=sizeLine;decide),λt ht=>?_⟩;have bnd:∀i,i<2^(n-z)->i*2^z+2^z<=2^n:=λi hi=>by
    rw[<- hsplit,<- Yy];exact Z6 _ hi
   refine q _ t [i*2^z,j*2^z,2^z,2^z] ((((b1.trans b2).trans b3).trans b4).trans (But.of (qb3 ht))) (kG.same (qb3 ht)) ?_ ⟨_,_,_,_,rfl,s2,s2,bnd i hi,bnd j hj⟩ ⟨_,_,_,_,rfl,.inr ⟨z,i,j,rfl,rfl,rfl,rfl⟩⟩;rw[qa1];show some (HO.tup [V.int ((i:Int)*2^((z:Int)).toNat),V.int ((j:Int)*2^((z:Int)).toNat),V.int (1*2^((z:Int)).toNat),V.int (1*2^((z:Int)).toNat)])=some (HO.tup [V.int ((i*2^z:Nat):Int),V.int ((j*2^z:Nat):Int),V.int ((2^z:Nat):Int),V.int ((2^z:Nat):Int)]);rw[ez];simp only[Z5];push_cast
   rfl
  ·have es:=qs9 n;have hside:[V.ref p,V.int ((1:Int)*2^((n:Int)).toNat)]=[V.ref p,V.int ((2^n:Nat):Int)]:=by rw[es]
   refine⟨_,rfl,_,rfl,p,2^n,hside,jG,p2,by lia,λr H2 jZ b2 jR=>?_⟩;refine⟨_,rfl,_,rfl,p,2^n,hside,jR,p2,by lia,λc H3 hc3 b3 kC=>?_⟩;have emin:∀r:Nat,r<2^n->[V.ref p,V.int (if (1:Int)*2^((n:Int)).toNat-(r:Int)<9 then (1:Int)*2^((n:Int)).toNat-(r:Int) else 9)]=[V.ref p,V.int ((min 9 (2^n-r):Nat):Int)]:=λr hr=>by
    rw[es];congr 3;split<;>lia
   refine⟨_,rfl,_,rfl,_,rfl,_,rfl,_,_,rfl,rfl,_,_,rfl,p,min 9 (2^n-r),emin r jZ,kC,by lia,by lia,λh H4 hh b4 kG=>?_⟩;refine⟨_,_,rfl,rfl,?_⟩;refine⟨_,rfl,_,rfl,_,rfl,_,rfl,_,_,rfl,rfl,_,_,rfl,p,min 9 (2^n-c),emin c hc3,kG,by lia,by lia,λw' H5 hw b5 hp5=>?_⟩;refine⟨_,_,rfl,rfl,?_⟩;refine⟨_,rfl,_,rfl,_,rfl,_,rfl,(by show 4<=sizeLine;decide),λt ht=>?_⟩;refine q _ t [r,c,1+h,1+w'] (((((b1.trans b2).trans b3).trans b4).trans b5).trans (But.of (qb3 ht))) (hp5.same (qb3 ht)) ?_ ⟨_,_,_,_,rfl,by lia,by lia,by lia,by lia⟩ ⟨_,_,_,_,rfl,.inl ⟨by lia,by lia⟩⟩;rw[qa1]
   rfl
end
end Pr
namespace Qf
open Tr
def qf4 (r c s:Nat) (b:Row):Bool:=decide (b.getD 0 0<r+s/\r<b.getD 0 0+b.getD 2 0/\c<b.getD 1 0+b.getD 3 0/\b.getD 1 0<c+s)
def hasB (r c s:Nat) (b:Row):Bool:=decide (b.getD 0 0<=r/\r+s<=b.getD 0 0+b.getD 2 0/\b.getD 1 0<=c/\c+s<=b.getD 1 0+b.getD 3 0)
def mk (a b c d:Tr):Tr:=if a=z/\b=z/\c=z/\d=z then z else if a=o/\b=o/\c=o/\d=o then o else .nd a b c d
def met (boxes:List Row) (r c s:Nat):List Row:=boxes.filter (qf4 r c s)
def bt:Nat->List Row->Nat->Nat->Tr
 |0,boxes,r,c=>if met boxes r c 1=[] then z else if (met boxes r c 1).any (hasB r c 1) then o else z
 |k+1,boxes,r,c=>if met boxes r c (2^(k+1))=[] then z else if (met boxes r c (2^(k+1))).any (hasB r c (2^(k+1))) then o else
   mk (bt k (met boxes r c (2^(k+1))) r c) (bt k (met boxes r c (2^(k+1))) r (c+2^k)) (bt k (met boxes r c (2^(k+1))) (r+2^k) c) (bt k (met boxes r c (2^(k+1))) (r+2^k) (c+2^k))
theorem xs7 {a b c d:Tr}(ha:Red a) (hb:Red b) (hc:Red c) (hd:Red d):Red (mk a b c d):=by
 unfold mk;split
 ·trivial
 ·split
  ·trivial
  ·exact⟨by assumption,by assumption,ha,hb,hc,hd⟩
theorem qu5:∀(k:Nat) (boxes:List Row) (r c:Nat),Red (bt k boxes r c)
 |0,boxes,r,c=>by
  unfold bt;split
  ·trivial
  ·split<;>trivial
 |k+1,boxes,r,c=>by
  unfold bt;split
  ·trivial
  ·split
   ·trivial
   ·exact xs7 (qu5 k _ _ _) (qu5 k _ _ _) (qu5 k _ _ _) (qu5 k _ _ _)
theorem xs8 {a b c d:Tr}{k:Nat}(ha:dep a<=k) (hb:dep b<=k) (hc:dep c<=k) (hd:dep d<=k):dep (mk a b c d)<=k+1:=by
 unfold mk;split
 ·show 0<=_;lia
 ·split
  ·show 0<=_;lia
  ·show 1+mx [dep a,dep b,dep c,dep d]<=k+1;have:=xD5 (l:=[dep a,dep b,dep c,dep d]) (b:=k) (by
    intro x hx;have:x=dep a\/x=dep b\/x=dep c\/x=dep d:=by simpa using hx
    rcases this with rfl|rfl|rfl|rfl<;>assumption)
   lia
theorem qz1:∀(k:Nat) (boxes:List Row) (r c:Nat),dep (bt k boxes r c)<=k
 |0,boxes,r,c=>by
  unfold bt;split
  ·exact Zd 0
  ·split<;>exact Zd 0
 |k+1,boxes,r,c=>by
  unfold bt;split
  ·exact ZB _
  ·split
   ·exact ZB _
   ·exact xs8 (qz1 k _ _ _) (qz1 k _ _ _) (qz1 k _ _ _) (qz1 k _ _ _)
def nds:Tr->Nat
 |.nd a b c d=>1+nds a+nds b+nds c+nds d
 |_=>0
theorem qj2:∀(t:Tr) (e:List Tr),(post t e).length<=e.length+nds t
 |.z,e=>Zd _
 |.o,e=>Zd _
 |.nd a b c d,e=>by
  unfold post;split
  ·exact ZO _ _
  ·have h1:=qj2 a e;have h2:=qj2 b (post a e);have h3:=qj2 c (post b (post a e));have h4:=qj2 d (post c (post b (post a e)));rw[Zu];show _+1<=e.length+(1+nds a+nds b+nds c+nds d);lia
theorem xd7 (a b c d:Tr):nds (mk a b c d)<=1+nds a+nds b+nds c+nds d:=by
 unfold mk;split
 ·exact ZB _
 ·split
  ·exact ZB _
  ·exact Zd _
def cnt (b:Row):Nat->Nat->Nat->Nat
 |0,_,_=>0
 |k+1,r,c=>if qf4 r c (2^(k+1)) b=true/\hasB r c (2^(k+1)) b=false then 1+cnt b k r c+cnt b k r (c+2^k)+cnt b k (r+2^k) c+cnt b k (r+2^k) (c+2^k) else 0
def cnts (boxes:List Row) (k r c:Nat):Nat:=(boxes.map λb=>cnt b k r c).sum
theorem qS9 {p:Row->Bool}(boxes:List Row) (k r c:Nat):cnts (boxes.filter p) k r c<=cnts boxes k r c:=by
 induction boxes with
 |nil=>exact Zd _
 |cons b bs ih=>
  unfold cnts at ih ⊢;rw[Y7];split
  ·simp only[Zz,We];lia
  ·simp only[Zz,We];lia
theorem q37 {boxes:List Row}{k r c:Nat}(hm:∀b∈boxes,qf4 r c (2^(k+1)) b=true/\hasB r c (2^(k+1)) b=false) :
  cnts boxes (k+1) r c=boxes.length+cnts boxes k r c+cnts boxes k r (c+2^k)+cnts boxes k (r+2^k) c+cnts boxes k (r+2^k) (c+2^k):=by
 induction boxes with
 |nil=>rfl
 |cons b bs ih=>
  have h1:=ih λx hx=>hm x (Ze _ hx);have e:cnt b (k+1) r c=1+cnt b k r c+cnt b k r (c+2^k)+cnt b k (r+2^k) c+cnt b k (r+2^k) (c+2^k):=by
   show (if _ then _ else _)=_;rw[Zt (hm b Zh)]
  unfold cnts at h1 ⊢;simp only[Zz,We,Zy,e,h1];lia
theorem qN4:∀(k:Nat) (boxes:List Row) (r c:Nat),nds (bt k boxes r c)<=cnts boxes k r c
 |0,boxes,r,c=>by
  unfold bt;split
  ·exact ZB _
  ·split<;>exact ZB _
 |k+1,boxes,r,c=>by
  unfold bt;split
  ·exact ZB _
  ·rename_i jE;split
   ·exact ZB _
   ·rename_i hany;refine ZE (xd7 _ _ _ _) ?_;have h1:=qN4 k (met boxes r c (2^(k+1))) r c;have h2:=qN4 k (met boxes r c (2^(k+1))) r (c+2^k);have h3:=qN4 k (met boxes r c (2^(k+1))) (r+2^k) c;have h4:=qN4 k (met boxes r c (2^(k+1))) (r+2^k) (c+2^k);have h5:cnts (met boxes r c (2^(k+1))) (k+1) r c<=cnts boxes (k+1) r c:=qS9 _ _ _ _;have hm:∀b∈met boxes r c (2^(k+1)),qf4 r c (2^(k+1)) b=true/\hasB r c (2^(k+1)) b=false:=λb hb=>by
     refine⟨(Xh.mp hb).2,?_⟩;cases hh:hasB r c (2^(k+1)) b with
     |false=>rfl
     |true=>exact absurd (Yb.mpr ⟨b,hb,hh⟩) hany
    rw[q37 hm] at h5;have hl:0<(met boxes r c (2^(k+1))).length:=WU.mpr jE;lia
def sz:Nat->Nat
 |0=>0
 |k+1=>4*sz k+1
theorem q38:∀(k:Nat) (boxes:List Row) (r c:Nat),nds (bt k boxes r c)<=sz k
 |0,boxes,r,c=>by
  unfold bt;split
  ·exact ZB _
  ·split<;>exact ZB _
 |k+1,boxes,r,c=>by
  unfold bt;split
  ·exact ZB _
  ·split
   ·exact ZB _
   ·refine ZE (xd7 _ _ _ _) ?_;have h1:=q38 k (met boxes r c (2^(k+1))) r c;have h2:=q38 k (met boxes r c (2^(k+1))) r (c+2^k);have h3:=q38 k (met boxes r c (2^(k+1))) (r+2^k) c;have h4:=q38 k (met boxes r c (2^(k+1))) (r+2^k) (c+2^k);show _<=4*sz k+1;lia
def lin (a h j:Nat):Nat->Nat->Nat
 |0,x=>0
 |k+1,x=>if j=k+1 then (if a<x+2^(k+1)/\x<a+h then 1 else 0) else lin a h j k x+lin a h j k (x+2^k)
def squ (a h c w:Nat):Nat->Nat->Nat->Nat->Nat
 |0,_,_,_=>0
 |j+1,k,x,y=>squ a h c w j k x y+lin a h (j+1) k x*lin c w (j+1) k y
theorem qN5 (a h c w:Nat):∀(j k x y:Nat),j<=k->squ a h c w j (k+1) x y=squ a h c w j k x y+squ a h c w j k x (y+2^k)+squ a h c w j k (x+2^k) y+squ a h c w j k (x+2^k) (y+2^k)
 |0,k,x,y,_=>rfl
 |j+1,k,x,y,hj=>by
  have ih:=qN5 a h c w j k x y (by lia);have e1:∀a h x,lin a h (j+1) (k+1) x=lin a h (j+1) k x+lin a h (j+1) k (x+2^k):=λa h x=>by
   show (if j+1=k+1 then _ else _)=_;rw[Zm (by lia)]
  show squ a h c w j (k+1) x y+lin a h (j+1) (k+1) x*lin c w (j+1) (k+1) y=_;rw[ih,e1,e1];show _=(squ a h c w j k x y+lin a h (j+1) k x*lin c w (j+1) k y)+(squ a h c w j k x (y+2^k)+lin a h (j+1) k x*lin c w (j+1) k (y+2^k))+(squ a h c w j k (x+2^k) y+lin a h (j+1) k (x+2^k)*lin c w (j+1) k y)+(squ a h c w j k (x+2^k) (y+2^k)+lin a h (j+1) k (x+2^k)*lin c w (j+1) k (y+2^k));generalize lin a h (j+1) k x=p,lin a h (j+1) k (x+2^k)=p',lin c w (j+1) k y=q,lin c w (j+1) k (y+2^k)=q';rw[Xl,Wo,Wo];lia
theorem qz2 (a c h w:Nat):∀(k x y:Nat),cnt [a,c,h,w] k x y<=squ a h c w k k x y
 |0,x,y=>Zd _
 |k+1,x,y=>by
  show (if qf4 x y (2^(k+1)) [a,c,h,w]=true/\_ then _ else _)<=squ a h c w k (k+1) x y+lin a h (k+1) (k+1) x*lin c w (k+1) (k+1) y;split
  ·rename_i hm;have m:a<x+2^(k+1)/\x<a+h/\y<c+w/\c<y+2^(k+1):=Zq hm.1;have e1:lin a h (k+1) (k+1) x=1:=by
    show (if k+1=k+1 then (if _ then 1 else 0) else _)=1;rw[Zt rfl,Zt ⟨m.1,m.2.1⟩]
   have e2:lin c w (k+1) (k+1) y=1:=by
    show (if k+1=k+1 then (if _ then 1 else 0) else _)=1;rw[Zt rfl,Zt ⟨m.2.2.2,m.2.2.1⟩]
   rw[qN5 a h c w k k x y (Zd _),e1,e2];have h1:=qz2 a c h w k x y;have h2:=qz2 a c h w k x (y+2^k);have h3:=qz2 a c h w k (x+2^k) y;have h4:=qz2 a c h w k (x+2^k) (y+2^k);lia
  ·exact ZB _
theorem mm {l1 l2 u p t A:Nat}(h1:l1<=min (u+p) t-max u A) (h2:l2<=min (u+p+p) t-max (u+p) A):l1+l2<=min (u+(p+p)) t-max u A:=by
 rw[<- Nat.add_assoc];by_cases a:t<=u+p
 ·rw[WD a] at h1;rw[WD (ZE a (ZO _ _))] at h2 ⊢;have:=Vx (u+p) A;lia
 ·rw[Vy (Vp a)] at h1;have m1:u+p<=min (u+p+p) t:=VC.mpr ⟨ZO _ _,Vp a⟩;by_cases b:A<=u+p
  ·rw[Wi b] at h2;have m2:max u A<=u+p:=VB.mpr ⟨ZO _ _,b⟩;lia
  ·have b':=Vp b;rw[Xz b'] at h2;rw[Xz (ZE (ZO _ _) b')] at h1 ⊢;lia
theorem qG4 (a h j:Nat) (hh:1<=h):∀(i u:Nat),lin a h (j+1) (j+1+i) (u*2^(j+1))<=min (u+2^i) ((a+h-1)/2^(j+1)+1)-max u (a/2^(j+1))
 |0,u=>by
  have hp:0<2^(j+1):=YY (by decide);show (if j+1=j+1 then (if _ then 1 else 0) else _)<=_;rw[Zt rfl];split
  ·rename_i m;have h1:a/2^(j+1)<=u:=by
    have:a/2^(j+1)<u+1:=(Nat.div_lt_iff_lt_mul hp).mpr (by rw[Yy];exact m.1);lia
   have h2:u<=(a+h-1)/2^(j+1):=(Nat.le_div_iff_mul_le hp).mpr (by lia);rw[Nat.pow_zero];lia
  ·exact ZB _
 |i+1,u=>by
  have e:lin a h (j+1) (j+1+(i+1)) (u*2^(j+1))=lin a h (j+1) (j+1+i) (u*2^(j+1))+lin a h (j+1) (j+1+i) (u*2^(j+1)+2^(j+1+i)):=by
   show (if j+1=j+1+i+1 then _ else _)=_;rw[Zm (by lia)]
   rfl
  have e2:u*2^(j+1)+2^(j+1+i)=(u+2^i)*2^(j+1):=by rw[Xl,XX 2 (j+1) i,Yn (2^i)]
  have h1:=qG4 a h j hh i u;have h2:=qG4 a h j hh i (u+2^i);have e3:2^(i+1)=2^i+2^i:=by rw[Yh];lia
  rw[e,e2,e3];exact mm h1 h2
def lim:Nat->Nat
 |1=>6
 |2=>4
 |3=>3
 |_=>2
theorem xd8 {a h k j:Nat}(hh:1<=h) (h9:h<=9) (hj:j+1<=k):lin a h (j+1) k 0<=lim (j+1):=by
 obtain⟨i,rfl⟩:∃i,k=j+1+i:=⟨k-(j+1),by lia⟩;have h1:=qG4 a h j hh i 0;rw[Nat.zero_mul] at h1;have hp:0<2^(j+1):=YY (by decide);have h2:(a+h-1)/2^(j+1)<=a/2^(j+1)+8/2^(j+1)+1:=by
  have:=Nat.add_div (a:=a) (b:=8) hp;have h3:(a+h-1)/2^(j+1)<=(a+8)/2^(j+1):=Nat.div_le_div_right (by lia);split at this<;>lia
 have h4:8/2^(j+1)+2<=lim (j+1):=by
  match j with
  |0=>decide
  |1=>decide
  |2=>decide
  |j+3=>
   have:2^(j+3+1)>=16:=by
    have:=WK (n:=2) (by decide) (show 4<=j+3+1 by lia);simpa using this
   rw[Yx (by lia)];exact Zd 2
 lia
def lims:Nat->Nat
 |0=>0
 |j+1=>lims j+lim (j+1)*lim (j+1)
theorem qY1 {a h c w k:Nat}(h1:1<=h) (h2:h<=9) (w1:1<=w) (w2:w<=9):∀j,j<=k->squ a h c w j k 0 0<=lims j
 |0,_=>Zd _
 |j+1,hj=>Nat.add_le_add (qY1 h1 h2 w1 w2 j (by lia)) (Nat.mul_le_mul (xd8 h1 h2 hj) (xd8 w1 w2 hj))
theorem qN6:∀{j k:Nat},j<=k->lims j<=lims k
 |j,0,h=>by rw[show j=0 by lia];exact Zd _
 |j,k+1,h=>by
  by_cases e:j=k+1
  ·rw[e];exact Zd _
  ·exact ZE (qN6 (show j<=k by lia)) (ZO _ _)
theorem qj5 (s i j:Nat):∀(k u v:Nat),cnt [i*2^s,j*2^s,2^s,2^s] k (u*2^k) (v*2^k)<=k
 |0,u,v=>Zd _
 |k+1,u,v=>by
  show (if qf4 (u*2^(k+1)) (v*2^(k+1)) (2^(k+1)) [i*2^s,j*2^s,2^s,2^s]=true/\hasB (u*2^(k+1)) (v*2^(k+1)) (2^(k+1)) [i*2^s,j*2^s,2^s,2^s]=false then _ else _)<=_;split
  ·rename_i hm;have m:i*2^s<u*2^(k+1)+2^(k+1)/\u*2^(k+1)<i*2^s+2^s/\v*2^(k+1)<j*2^s+2^s/\j*2^s<v*2^(k+1)+2^(k+1):=Zq hm.1;have nh:¬(i*2^s<=u*2^(k+1)/\u*2^(k+1)+2^(k+1)<=i*2^s+2^s/\j*2^s<=v*2^(k+1)/\v*2^(k+1)+2^(k+1)<=j*2^s+2^s):=YL hm.2;have mul_up:∀{x y m:Nat},0<m->x*m<y*m+m->x*m<=y*m:=λ{x y m} hm h=>by
    have:x<y+1:=Ys (a:=m) (by rw[Yy];exact h);exact Z6 _ (by lia)
   have hk:s<=k:=by
    by_cases z:s<=k
    ·exact z
    ·exfalso;apply nh;obtain⟨d,rfl⟩:∃d,s=k+1+d:=⟨s-(k+1),by lia⟩;have hp:0<2^(k+1):=YY (by decide);have ep:2^(k+1+d)=2^d*2^(k+1):=by rw[XX,Yn]
     have e:∀i,i*2^(k+1+d)=i*2^d*2^(k+1):=λi=>by rw[ep,Yc]
     have e':∀i,i*2^(k+1+d)+2^(k+1+d)=(i*2^d+2^d)*2^(k+1):=λi=>by rw[Xl,<- ep,<- e]
     have low:∀u i,i*2^(k+1+d)<u*2^(k+1)+2^(k+1)->i*2^(k+1+d)<=u*2^(k+1):=λu i h=>by
      rw[e] at h ⊢;exact mul_up hp h
     have up:∀u i,u*2^(k+1)<i*2^(k+1+d)+2^(k+1+d)->u*2^(k+1)+2^(k+1)<=i*2^(k+1+d)+2^(k+1+d):=λu i h=>by
      rw[e'] at h ⊢;rw[<- Yy];exact Z6 _ (Ys h)
     exact⟨low u i m.1,up u i m.2.1,low v j m.2.2.2,up v j m.2.2.1⟩
   obtain⟨d,rfl⟩:∃d,k=s+d:=⟨k-s,by lia⟩;have hp:0<2^s:=YY (by decide);have es:2^(s+d)=2^d*2^s:=by rw[XX,Yn]
   have ek:∀u,u*2^(s+d+1)=(2*u)*2^(s+d):=λu=>by rw[Yh,Yn (2^(s+d)) 2,<- Yc,Yn u 2]
   have ek2:∀u,u*2^(s+d+1)+2^(s+d)=(2*u+1)*2^(s+d):=λu=>by rw[ek];exact (Yy _ _).symm
   have half:∀u i,i*2^s+2^s<=(2*u+1)*2^(s+d)\/(2*u+1)*2^(s+d)<=i*2^s:=λu i=>by
    rw[es,<- Yc,<- Yy];rcases Nat.lt_or_ge i ((2*u+1)*2^d) with z|z
    ·exact .inl (Z6 _ z)
    ·exact .inr (Z6 _ z)
   have q0:∀x y,¬(x<i*2^s+2^s)\/¬(i*2^s<x+2^(s+d))\/¬(y<j*2^s+2^s)\/¬(j*2^s<y+2^(s+d))->cnt [i*2^s,j*2^s,2^s,2^s] (s+d) x y=0:=λx y hn=>by
    cases hsd:s+d with
    |zero=>rfl
    |succ k'=>
     rw[hsd] at hn;show (if qf4 x y (2^(k'+1)) [i*2^s,j*2^s,2^s,2^s]=true/\_ then _ else _)=0;rw[Zm];rintro⟨h1,_⟩;have m:i*2^s<x+2^(k'+1)/\x<i*2^s+2^s/\y<j*2^s+2^s/\j*2^s<y+2^(k'+1):=Zq h1;rcases hn with z|z|z|z
     ·exact z m.2.1
     ·exact z m.1
     ·exact z m.2.2.1
     ·exact z m.2.2.2
   have c1:=qj5 s i j (s+d) (2*u) (2*v);have c2:=qj5 s i j (s+d) (2*u) (2*v+1);have c3:=qj5 s i j (s+d) (2*u+1) (2*v);have c4:=qj5 s i j (s+d) (2*u+1) (2*v+1);rw[ek2,ek2,ek,ek];have st:∀u:Nat,(2*u)*2^(s+d)+2^(s+d)=(2*u+1)*2^(s+d):=λu=>(Yy _ _).symm;rcases half u i with hu|hu
   ·have z3:=q0 ((2*u+1)*2^(s+d)) ((2*v)*2^(s+d)) (.inl (by lia));have z4:=q0 ((2*u+1)*2^(s+d)) ((2*v+1)*2^(s+d)) (.inl (by lia));rcases half v j with hv|hv
    ·have z2:=q0 ((2*u)*2^(s+d)) ((2*v+1)*2^(s+d)) (.inr (.inr (.inl (by lia))));lia
    ·have z1:=q0 ((2*u)*2^(s+d)) ((2*v)*2^(s+d)) (.inr (.inr (.inr (by rw[st];lia))));lia
   ·have z1:=q0 ((2*u)*2^(s+d)) ((2*v)*2^(s+d)) (.inr (.inl (by rw[st];lia)));have z2:=q0 ((2*u)*2^(s+d)) ((2*v+1)*2^(s+d)) (.inr (.inl (by rw[st];lia)));rcases half v j with hv|hv
    ·have z4:=q0 ((2*u+1)*2^(s+d)) ((2*v+1)*2^(s+d)) (.inr (.inr (.inl (by lia))));lia
    ·have z3:=q0 ((2*u+1)*2^(s+d)) ((2*v)*2^(s+d)) (.inr (.inr (.inr (by rw[st];lia))));lia
  ·exact ZB _
theorem qz3 {n:Nat}{bs:List Row}(hn:n<=12) (h:qS8 n bs):nds (bt n bs 0 0)<=485:=by
 rcases h.2 with ⟨h4,_⟩|⟨h5,hs⟩
 ·refine ZE (q38 n bs 0 0) ?_
  match n,h4 with
  |0,_|1,_|2,_|3,_=>decide
 ·refine ZE (qN4 n bs 0 0) ?_;have each:∀b∈bs,cnt b n 0 0<=97:=λb hb=>by
   obtain⟨r,c,hh,w,rfl,h1,w1,_⟩:=h.1 b hb;obtain⟨r',c',hh',w',e,sm⟩:=hs _ hb;simp only[Y1,Vo] at e;obtain⟨rfl,rfl,rfl,rfl⟩:=e;rcases sm with ⟨h9,w9⟩|⟨s,i,j,rfl,rfl,rfl,rfl⟩
   ·refine ZE (qz2 r c hh w n 0 0) (ZE (qY1 h1 h9 w1 w9 n (Zd _)) (ZE (qN6 hn) (by decide)))
   ·have:=qj5 s i j n 0 0;rw[Nat.zero_mul] at this;lia
  unfold cnts;have gen:∀l:List Row,(∀b∈l,cnt b n 0 0<=97)->(l.map λb=>cnt b n 0 0).sum<=l.length*97:=λl hl=>by
   induction l with
   |nil=>exact ZB _
   |cons b l ih=>
    have h1:=hl b Zh;have h2:=ih λx hx=>hl x (Ze _ hx);rw[Zz,We,Zy,Yy];lia
  have:=gen bs each;lia
theorem kp0 {t0 t1 t2 t3:Tr}{L L4:List Tr}(e4:L4=post t3 (post t2 (post t1 (post t0 L)))) (z:[0,0,0,0]=[name L4 t0,name L4 t1,name L4 t2,name L4 t3].map λx:Nat=>(x:Int)):L4=L/\mk t0 t1 t2 t3=.z/\name L4 t0=0:=by
 simp only[Zz,X7,Y1,Vo] at z;have g0:=qd7 (L:=L4) (t:=t0) (by lia);have g1:=qd7 (L:=L4) (t:=t1) (by lia);have g2:=qd7 (L:=L4) (t:=t2) (by lia);have g3:=qd7 (L:=L4) (t:=t3) (by lia);subst g0 g1 g2 g3;exact⟨e4,rfl,rfl⟩
theorem kp1 {t0 t1 t2 t3:Tr}{L L4:List Tr}(e4:L4=post t3 (post t2 (post t1 (post t0 L)))) (z:[1,1,1,1]=[name L4 t0,name L4 t1,name L4 t2,name L4 t3].map λx:Nat=>(x:Int)):L4=L/\mk t0 t1 t2 t3=.o/\name L4 t0=1:=by
 simp only[Zz,X7,Y1,Vo] at z;have g0:=qe9 (L:=L4) (t:=t0) (by lia);have g1:=qe9 (L:=L4) (t:=t1) (by lia);have g2:=qe9 (L:=L4) (t:=t2) (by lia);have g3:=qe9 (L:=L4) (t:=t3) (by lia);subst g0 g1 g2 g3;exact⟨e4,rfl,rfl⟩
theorem kpn {t0 t1 t2 t3:Tr}{L4:List Tr}(hc:¬(decide ([0,0,0,0]=[name L4 t0,name L4 t1,name L4 t2,name L4 t3].map λx:Nat=>(x:Int))||decide ([1,1,1,1]=[name L4 t0,name L4 t1,name L4 t2,name L4 t3].map λx:Nat=>(x:Int)))=true):mk t0 t1 t2 t3=.nd t0 t1 t2 t3:=by
 unfold mk;rw[Zm,Zm]
 ·rintro⟨rfl,rfl,rfl,rfl⟩;exact hc (by rw[WQ];exact .inr (Zj rfl))
 ·rintro⟨rfl,rfl,rfl,rfl⟩;exact hc (by rw[WQ];exact .inl (Zj rfl))
theorem kpi {t0 t1 t2 t3:Tr}{L L4:List Tr}(hO:Ord L) (e4:L4=post t3 (post t2 (post t1 (post t0 L)))) (vI:Tr.nd t0 t1 t2 t3∈L4):Tr.nd t0 t1 t2 t3∈L/\L4=L:=by
 have vK:Tr.nd t0 t1 t2 t3∈L:=by
  by_cases zz:Tr.nd t0 t1 t2 t3∈L
  ·exact zz
  ·exact absurd (e4▸vI) (Tr.not_below zz)
 obtain⟨i,hi,ei⟩:=ZJ.mp vK;have kin:=λs hs=>(Tr.kid_in hO (i:=i) (t:=.nd t0 t1 t2 t3) (by rw[Zb hi,ei]) (s:=s) hs).1;exact⟨vK,by rw[e4,qh1 (kin t0 (by simp[Tr.kids])),qh1 (kin t1 (by simp[Tr.kids])),qh1 (kin t2 (by simp[Tr.kids])),qh1 (kin t3 (by simp[Tr.kids]))]⟩
theorem kpx {t0 t1 t2 t3:Tr}{L L4:List Tr}(e4:L4=post t3 (post t2 (post t1 (post t0 L)))) (vI:Tr.nd t0 t1 t2 t3∉L4):post (.nd t0 t1 t2 t3) L=L4++[.nd t0 t1 t2 t3]:=by
 have vK:Tr.nd t0 t1 t2 t3∉L:=λz=>vI (by
  rw[e4];obtain⟨s1,h1⟩:=Tr.post_ext t0 L;obtain⟨s2,h2⟩:=Tr.post_ext t1 (Tr.post t0 L);obtain⟨s3,h3⟩:=Tr.post_ext t2 (Tr.post t1 (Tr.post t0 L));obtain⟨s4,h4⟩:=Tr.post_ext t3 (Tr.post t2 (Tr.post t1 (Tr.post t0 L)));rw[h4,h3,h2,h1];simp[z])
 rw[e4];show (if Tr.nd t0 t1 t2 t3∈L then L else _)=_;rw[Zm vK]
end Qf
namespace Pr
open PySem L2 Qf
theorem xs9 {t0 t1 t2 t3:Tr}{L4:List Tr}(O4:Tr.Ord L4) (hk:∀s∈Tr.kids (.nd t0 t1 t2 t3),Tr.In L4 s) (hm:¬[Tr.name L4 t0,Tr.name L4 t1,Tr.name L4 t2,Tr.name L4 t3]∈Tr.rowsOf L4) :
  putK (tK (Tr.rowsOf L4)) (keyN [Tr.name L4 t0,Tr.name L4 t1,Tr.name L4 t2,Tr.name L4 t3]) (.int (((tK (Tr.rowsOf L4)).length:Int)+2))=tK (Tr.rowsOf (L4++[.nd t0 t1 t2 t3])):=by
 have er:=qm7 O4 hk;rw[show (Tr.kids (.nd t0 t1 t2 t3)).map (Tr.name L4)=[Tr.name L4 t0,Tr.name L4 t1,Tr.name L4 t2,Tr.name L4 t3] from rfl] at er;have j7:(tK (Tr.rowsOf L4)).length=L4.length:=by unfold tK;rw[qj0,Tr.rowsOf_len]
 have h1:=qX6 (key:=keyN) (k:=2) (λa b=>qv3) hm;rw[er,j7];unfold tK;rw[<- h1,Tr.rowsOf_len];congr 2;lia
end Pr
namespace Qf
open Tr
theorem qm0 {rows:List Row}(ok:qb7 rows){q:Nat}(hq:q<rows.length+2):(T rows q=z<->q=0)/\(T rows q=o<->q=1):=by
 by_cases q2:q<2
 ·match q,q2 with
  |0,_=>rw[qi1];exact⟨⟨λ_=>rfl,λ_=>rfl⟩,⟨λh=>(nomatch h),λh=>(nomatch h)⟩⟩
  |1,_=>rw[qo2];exact⟨⟨λh=>(nomatch h),λh=>(nomatch h)⟩,⟨λ_=>rfl,λ_=>rfl⟩⟩
 ·obtain⟨p',a',b',c',d',rfl,hp'⟩:=qu2 ok hq q2;rw[qq3 ok hp'];exact⟨⟨λh=>(nomatch h),λh=>by lia⟩,⟨λh=>(nomatch h),λh=>by lia⟩⟩
theorem xJ9 {rows:List Row}(ok:qb7 rows){p a b c d:Nat}(hp:rows[p]?=some [a,b,c,d]):a<rows.length+2/\b<rows.length+2/\c<rows.length+2/\d<rows.length+2:=by
 have hl:=(gS_ hp).1;have h:=(ok p _ hp).2;have h1:=h a (by simp);have h2:=h b (by simp);have h3:=h c (by simp);have h4:=h d (by simp);lia
theorem xE6 {rows:List Row}(ok:qb7 rows) (np:∀r∈rows,¬qh3 r):∀x,x<rows.length+2->Red (T rows x):=by
 intro x
 induction x using Nat.strongRecOn with
 |ind x ih=>
  intro hx;by_cases z:x<2
  ·match x,z with
   |0,_=>rw[qi1];trivial
   |1,_=>rw[qo2];trivial
  ·obtain⟨p,a,b,c,d,rfl,hp⟩:=qu2 ok hx z;have j7:=(ok p _ hp).2;have jF:=(gS_ hp).1;have la:=j7 a (by simp);have lb:=j7 b (by simp);have lc:=j7 c (by simp);have ld:=j7 d (by simp);rw[qq3 ok hp];have hnp:=np _ (Zs hp);refine⟨λh=>hnp (.inl ?_),λh=>hnp (.inr ?_),ih a (by lia) (by lia),ih b (by lia) (by lia),ih c (by lia) (by lia),ih d (by lia) (by lia)⟩
   ·rw[(qm0 ok (by lia)).1.mp h.1,(qm0 ok (by lia)).1.mp h.2.1,(qm0 ok (by lia)).1.mp h.2.2.1,(qm0 ok (by lia)).1.mp h.2.2.2]
   ·rw[(qm0 ok (by lia)).2.mp h.1,(qm0 ok (by lia)).2.mp h.2.1,(qm0 ok (by lia)).2.mp h.2.2.1,(qm0 ok (by lia)).2.mp h.2.2.2]
theorem qe7 {n top:Nat}{rows:List Row}(c:Canon n top rows):Red (T rows top):=xE6 c.rok c.unplain top c.inn
theorem qq8 {n top:Nat}{rows:List Row}(c:Canon n top rows):dep (T rows top)<=n:=by
 obtain⟨er,et⟩:=qm6 c;obtain⟨ho,hi⟩:=post_ord (T rows top) [] ord_nil;have h:=qo3 ho _ hi;rw[<- er,<- et] at h;rw[<- h];exact c.deep
theorem xy1 {rows:List Row}(ok:qb7 rows){p a b c d s:Nat}(hp:rows[p]?=some [a,b,c,d]) (h:dp rows (p+2)<=s+1):dp rows a<=s/\dp rows b<=s/\dp rows c<=s/\dp rows d<=s:=by
 rw[qy2 ok hp] at h;have hm:∀x∈[a,b,c,d],dp rows x<=mx ([a,b,c,d].map (dp rows)):=λx hx=>qR9 (List.mem_map_of_mem hx);have h1:=hm a (by simp);have h2:=hm b (by simp);have h3:=hm c (by simp);have h4:=hm d (by simp);lia
def qr (i:Nat):Tr->Tr
 |.nd a b c d=>[a,b,c,d].getD i .z
 |t=>t
theorem T_qr {rows:List Row}(ok:qb7 rows){p i:Nat}{r:Row}{x:Nat}(hp:rows[p]?=some r) (hi:i<4) (hx:r[i]?=some x):T rows x=qr i (T rows (p+2)):=by
 obtain⟨a,b,c,d,rfl⟩:=ql8 (ok p r hp).1;rw[qq3 ok hp]
 match i,hi with
 |0,_=>cases hx;rfl
 |1,_=>cases hx;rfl
 |2,_=>cases hx;rfl
 |3,_=>cases hx;rfl
theorem qN7 {i k:Nat}(hi:i<4):∀(t:Tr),dep t<=k+1->dep (qr i t)<=k
 |.z,_=>ZB _
 |.o,_=>ZB _
 |.nd a b c d,h=>by
  have h':mx [dep a,dep b,dep c,dep d]<=k:=by
   have:1+mx [dep a,dep b,dep c,dep d]<=k+1:=h;lia
  have m:∀x∈[dep a,dep b,dep c,dep d],x<=k:=λx hx=>ZE (qR9 hx) h'
  match i,hi with
  |0,_=>exact m (dep a) (by simp)
  |1,_=>exact m (dep b) (by simp)
  |2,_=>exact m (dep c) (by simp)
  |3,_=>exact m (dep d) (by simp)
theorem dep0:∀{t:Tr},dep t<=0->t=.z\/t=.o
 |.z,_=>.inl rfl
 |.o,_=>.inr rfl
 |.nd a b c d,h=>by
  have:1+mx [dep a,dep b,dep c,dep d]<=0:=h;lia
def cof (f:Nat->Nat):Nat->List Nat->Nat
 |k+1,d::ds=>2^k*f d+cof f k ds
 |_,_=>0
theorem xd9 (f:Nat->Nat):∀(n:Nat) (l m:List Nat),l.length<=n->cof f n (l++m)=cof f n l+cof f (n-l.length) m
 |n,[],m,_=>by
  have:cof f n []=0:=by cases n<;>rfl
  rw[this];simp
 |n+1,d::l,m,h=>by
  have h':l.length<=n:=by simpa using h
  show 2^n*f d+cof f n (l++m)=2^n*f d+cof f n l+cof f (n+1-(l.length+1)) m;rw[xd9 f n l m h',WB];lia
end Qf
namespace L2
open PySem PySem.Spec PyProof.Rows
theorem xe0 {z:Str}{g:TG}{tb:TS}{D:Ends}{σ:St}{H:Hp}(Pv:Nat->St->Hp->Prop) (h0:Pv 0 σ H)
  (hs:∀i c σ H,z.cps[i]?=some c->Pv i σ H->g (.str ⟨#[c]⟩) σ H λσ2 H2=>tb { D with nx:=Pv (i+1),ct:=Pv (i+1),bk:=D.nx } σ2 H2) (hd:∀σ H,Pv z.cps.size σ H->D.nx σ H) :
  ∃W:Nat->Nat->St->Hp->Prop,(∃m,W 0 m σ H)/\∀i m σ H,W i m σ H ->
   ((Its z).stop i H/\D.nx σ H)\/((Its z).go i H/\∃N:St->Hp->Prop,(∀σ' H',N σ' H'->∃m',m'<m/\W (i+1) m' σ' H')/\∀x H',(Its z).yld i H x H'->g x σ H' λσ2 H2=>tb { D with nx:=N,ct:=N,bk:=D.nx } σ2 H2):=by
 refine⟨λi m σ H=>m=z.cps.size-i/\i<=z.cps.size/\Pv i σ H,⟨z.cps.size,by simp,ZB _,h0⟩,?_⟩;rintro i m σ H ⟨rfl,hi,p⟩;by_cases j7:i<z.cps.size
 ·refine .inr ⟨j7,Pv (i+1),λσ' H' p'=>⟨z.cps.size-(i+1),by lia,rfl,j7,p'⟩,λx H' y=>?_⟩;obtain⟨e,c,e1,e2⟩:=y;subst e e2;exact hs i c σ _ e1 p
 ·have e:i=z.cps.size:=by lia
  subst e;exact .inl ⟨Zd _,hd σ H p⟩
end L2
namespace Pr
open PySem L2 Qf
def txt (ds:List Nat):Str:=⟨(ds.map (48+·)).toArray⟩
theorem qd2 (ds:List Nat):(txt ds).length=ds.length:=by simp[txt,Str.length]
theorem qY2 (ds:List Nat):(txt ds).cps.size=ds.length:=by simp[txt]
theorem xt0 {ds:List Nat}{i c:Nat}(h:(txt ds).cps[i]?=some c):∃d,ds[i]?=some d/\c=48+d:=by
 have hc':(ds.map (48+·))[i]?=some c:=by simpa [txt] using h
 rw[Zg] at hc';obtain⟨d,hd,rfl⟩:=Zr.mp hc';exact⟨d,hd,rfl⟩
theorem xe1 {d:Nat}(h:d<4):PySem.intText? ⟨#[48+d]⟩=some (d:Int):=by
 match d,h with
 |0,_|1,_|2,_|3,_=>decide +kernel
def four (c:Nat):Bool:=!(Builtin.Str.occurrences "0123" ⟨#[c]⟩ 0 ("0123" : Str).length 1).isEmpty
theorem xn9 {d:Nat}(h:d<4):four (48+d)=true:=by
 match d,h with
 |0,_|1,_|2,_|3,_=>decide +kernel
theorem qY3 (ds:List Nat):Txt.join "" (ds.map λd=>(⟨#[48+d]⟩:Str))=txt ds:=by
 have hs:PyProof.Rows.signs (txt ds)=ds.map λd=>(⟨#[48+d]⟩:Str):=by simp[PyProof.Rows.signs,txt]
 rw[<- hs];have h:=XB.mp (PyProof.Rows.join_closes (sep:= "") (sep':=⟨#[]⟩) (ys:=PyProof.Rows.signs (txt ds)) (by decide +kernel));rw[h];exact PyProof.Rows.join_nil_signs (txt ds)
theorem xe2 {ds:List Nat}{i d:Nat}(h:ds[i]?=some d):ds.take (i+1)=ds.take i++[d]:=by rw[XY,h];rfl
theorem qY4 {f:Nat->Nat}{n i d:Nat}{ds:List Nat}(h:ds[i]?=some d) (hl:ds.length<=n):cof f n (ds.take (i+1))=cof f n (ds.take i)+2^(n-i-1)*f d:=by
 have hi:=(gS_ h).1;have ht:(ds.take i).length=i:=by rw[ZS];lia
 rw[xe2 h,xd9 f n _ _ (by lia),ht];congr 1;obtain⟨k,hk⟩:∃k,n-i=k+1:=⟨n-i-1,by lia⟩;rw[hk];show 2^k*f d+cof f k []=_;have:cof f k []=0:=by cases k<;>rfl
 rw[this]
 rfl
theorem xo0 {n i:Nat}(h:i<n):((2^(n-i):Nat):Int)/2=((2^(n-i-1):Nat):Int):=by
 have e:2^(n-i)=2^(n-i-1)*2:=by
  rw[<- Yh];congr 1;lia
 rw[e];lia
end Pr
namespace Qf
open Tr
def subT:Tr->List Nat->Tr
 |t,[]=>t
 |t,d::ds=>subT (qr d t) ds
def putT:Tr->List Nat->Tr->Tr
 |_,[],u=>u
 |t,d::ds,u=>mk (if d=0 then putT (qr d t) ds u else qr 0 t) (if d=1 then putT (qr d t) ds u else qr 1 t) (if d=2 then putT (qr d t) ds u else qr 2 t) (if d=3 then putT (qr d t) ds u else qr 3 t)
theorem qT0 {d:Nat}:∀{t:Tr},Red t->Red (qr d t)
 |.z,_=>by unfold qr;trivial
 |.o,_=>by unfold qr;trivial
 |.nd a b c e,h=>by
  obtain⟨_,_,h1,h2,h3,h4⟩:=h;unfold qr
  match d with
  |0=>exact h1
  |1=>exact h2
  |2=>exact h3
  |3=>exact h4
  |d+4=>trivial
theorem qG5:∀(ds:List Nat){t u:Tr},Red t->Red u->Red (putT t ds u)
 |[],_,_,_,h=>h
 |d::ds,t,u,h,g=>by
  have k:=qG5 ds (qT0 (d:=d) h) g;refine xs7 ?_ ?_ ?_ ?_<;>(split;exact k;exact qT0 h)
theorem qT1:∀(ds:List Nat){t u:Tr}{k:Nat},(∀d∈ds,d<4)->dep t<=k+ds.length->dep u<=k->dep (putT t ds u)<=k+ds.length
 |[],_,_,_,_,_,h=>h
 |d::ds,t,u,k,hd,h,g=>by
  have h1:dep t<=k+ds.length+1:=h;have e:=qT1 ds (t:=qr d t) (λx hx=>hd x (Ze _ hx)) (qN7 (hd d Zh) t h1) g;refine xs8 (k:=k+ds.length) ?_ ?_ ?_ ?_<;>(split;exact e;exact qN7 (by decide) t h1)
theorem xe3 {a b c e:Tr}{i:Nat}(hi:i<4):qr i (mk a b c e)=qr i (.nd a b c e):=by
 unfold mk;split
 ·rename_i h;obtain⟨rfl,rfl,rfl,rfl⟩:=h
  match i,hi with
  |0,_|1,_|2,_|3,_=>rfl
 ·split
  ·rename_i h;obtain⟨rfl,rfl,rfl,rfl⟩:=h
   match i,hi with
   |0,_|1,_|2,_|3,_=>rfl
  ·rfl
theorem xe4:∀(ds:List Nat) (t u:Tr),(∀d∈ds,d<4)->subT (putT t ds u) ds=u
 |[],_,_,_=>rfl
 |d::ds,t,u,hd=>by
  have e:qr d (putT t (d::ds) u)=putT (qr d t) ds u:=by
   show qr d (mk _ _ _ _)=_;have:=hd d Zh;rw[xe3 this]
   match d,this with
   |0,_=>rfl
   |1,_=>rfl
   |2,_=>rfl
   |3,_=>rfl
  show subT (qr d (putT t (d::ds) u)) ds=u;rw[e];exact xe4 ds (qr d t) u λx hx=>hd x (Ze _ hx)
theorem xK0:∀{t:Tr},Red t->mk (qr 0 t) (qr 1 t) (qr 2 t) (qr 3 t)=t
 |.z,_=>by decide
 |.o,_=>by decide
 |.nd a b c e,h=>by
  show mk a b c e=_;unfold mk;rw[Zm h.1,Zm h.2.1]
theorem xe5:∀(ds:List Nat){t:Tr},Red t->(∀d∈ds,d<4)->putT t ds (subT t ds)=t
 |[],_,_,_=>rfl
 |d::ds,t,h,hd=>by
  have e:putT (qr d t) ds (subT t (d::ds))=qr d t:=xe5 ds (qT0 h) λx hx=>hd x (Ze _ hx);show mk _ _ _ _=t;rw[e];have:=hd d Zh;have m:=xK0 h
  match d,this with
  |0,_=>exact m
  |1,_=>exact m
  |2,_=>exact m
  |3,_=>exact m
theorem xe6:∀(ds:List Nat) (t u v:Tr),(∀d∈ds,d<4)->putT (putT t ds u) ds v=putT t ds v
 |[],_,_,_,_=>rfl
 |d::ds,t,u,v,hd=>by
  have e:∀i,i<4->qr i (putT t (d::ds) u)=if d=i then putT (qr d t) ds u else qr i t:=λi hi=>by
   show qr i (mk _ _ _ _)=_;rw[xe3 hi]
   match i,hi with
   |0,_=>rfl
   |1,_=>rfl
   |2,_=>rfl
   |3,_=>rfl
  have h4:=hd d Zh;have k:=xe6 ds (qr d t) u v λx hx=>hd x (Ze _ hx);show mk _ _ _ _=mk _ _ _ _;rw[e d h4,Zt rfl,k,e 0 (by decide),e 1 (by decide),e 2 (by decide),e 3 (by decide)];congr 1<;>(split<;>rfl)
theorem qN8:∀(p:List Nat) (a b:Nat) (as bs:List Nat) (t u:Tr),a≠b->(∀d∈p,d<4)->a<4->b<4->subT (putT t (p++a::as) u) (p++b::bs)=subT t (p++b::bs)
 |[],a,b,as,bs,t,u,ne,_,ha,hb=>by
  show subT (qr b (mk _ _ _ _)) bs=subT (qr b t) bs;rw[xe3 hb];congr 1
  match b,hb with
  |0,_=>show (if a=0 then _ else _)=_;rw[Zm ne]
  |1,_=>show (if a=1 then _ else _)=_;rw[Zm ne]
  |2,_=>show (if a=2 then _ else _)=_;rw[Zm ne]
  |3,_=>show (if a=3 then _ else _)=_;rw[Zm ne]
 |d::p,a,b,as,bs,t,u,ne,hp,ha,hb=>by
  have e:qr d (putT t (d::(p++a::as)) u)=putT (qr d t) (p++a::as) u:=by
   show qr d (mk _ _ _ _)=_;have:=hp d Zh;rw[xe3 this]
   match d,this with
   |0,_=>rfl
   |1,_=>rfl
   |2,_=>rfl
   |3,_=>rfl
  show subT (qr d (putT t (d::(p++a::as)) u)) (p++b::bs)=subT (qr d t) (p++b::bs);rw[e];exact qN8 p a b as bs (qr d t) u ne (λx hx=>hp x (Ze _ hx)) ha hb
theorem xe7:∀(ds:List Nat){t:Tr},Red t->Red (subT t ds)
 |[],_,h=>h
 |_::ds,_,h=>xe7 ds (qT0 h)
theorem xe8:∀(ds:List Nat){t:Tr}{k:Nat},(∀d∈ds,d<4)->dep t<=k+ds.length->dep (subT t ds)<=k
 |[],_,_,_,h=>h
 |d::ds,t,k,hd,h=>xe8 ds (λx hx=>hd x (Ze _ hx)) (qN7 (hd d Zh) t (show dep t<=k+ds.length+1 from h))
def qrow (rows:List Row) (x:Nat):Row:=if x<2 then [x,x,x,x] else rows.getD (x-2) []
theorem xo1 {rows:List Row}(ok:qb7 rows){x:Nat}(hx:x<rows.length+2):(qrow rows x).length=4:=by
 unfold qrow;split
 ·rfl
 ·rename_i h;exact (ok (x-2) _ (qf2 (by lia))).1
theorem xe9 {rows:List Row}(ok:qb7 rows){x i y:Nat}(hx:x<rows.length+2) (h:(qrow rows x)[i]?=some y):y<rows.length+2/\T rows y=qr i (T rows x)/\dp rows y<=dp rows x-1:=by
 unfold qrow at h;split at h
 ·rename_i h2;have hy:y=x:=by
   match i,h with
   |0,h|1,h|2,h|3,h=>simpa using h.symm
   |i+4,h=>simp at h
  subst hy;refine⟨hx,?_,by rw[qL6 h2];lia⟩
  match y,h2 with
  |0,_=>rw[qi1];rfl
  |1,_=>rw[qo2];rfl
 ·rename_i h2;have e:=qf2 (rows:=rows) (p:=x-2) (by lia);have wW:i<4:=by
   have:=(ok _ _ e).1;have:=(gS_ h).1;lia
  have jL:=(ok _ _ e).2 y (Zs h);refine⟨by lia,?_,?_⟩
  ·have:=T_qr ok e wW h;rw[show x-2+2=x by lia] at this;exact this
  ·have hd:=qy2 ok e;rw[show x-2+2=x by lia] at hd;have:=qR9 (Yo.mpr ⟨y,Zs h,rfl⟩:dp rows y∈(rows.getD (x-2) []).map (dp rows));lia
def qt0 (rows:List Row):Nat->List Nat->Nat
 |x,[]=>x
 |x,d::ds=>qt0 rows ((qrow rows x).getD d 0) ds
theorem qG6 {rows:List Row}(ok:qb7 rows){x d:Nat}(hx:x<rows.length+2) (hd:d<4):(qrow rows x)[d]?=some ((qrow rows x).getD d 0):=by
 have:=xo1 ok hx;rw[ZG,Zb (by lia)]
 rfl
theorem qG7 {rows:List Row}(ok:qb7 rows):∀(ds:List Nat) (x:Nat),x<rows.length+2->(∀d∈ds,d<4)->qt0 rows x ds<rows.length+2/\T rows (qt0 rows x ds)=subT (T rows x) ds/\dp rows (qt0 rows x ds)<=dp rows x-ds.length
 |[],x,hx,_=>⟨hx,rfl,Zd _⟩
 |d::ds,x,hx,hd=>by
  obtain⟨h1,h2,h3⟩:=xe9 ok hx (qG6 ok hx (hd d Zh));obtain⟨k1,k2,k3⟩:=qG7 ok ds _ h1 λy hy=>hd y (Ze _ hy);refine⟨k1,?_,?_⟩
  ·show T rows (qt0 rows ((qrow rows x).getD d 0) ds)=subT (qr d (T rows x)) ds;rw[k2,h2]
  ·show dp rows (qt0 rows ((qrow rows x).getD d 0) ds)<=dp rows x-(ds.length+1);lia
theorem qC6 {rows:List Row}:∀(ds:List Nat) (x d:Nat),qt0 rows x (ds++[d])=(qrow rows (qt0 rows x ds)).getD d 0
 |[],_,_=>rfl
 |e::ds,x,d=>qC6 ds _ d
end Qf
namespace Pr
open PySem L2 Qf
section
variable {P:Program}{w:World}{K:PySem.W.Frag}{mg:Str->Option Value}{base:Heap}
theorem xK1:FnScope ["rows", "number"] ["rows", "number"] (qa3 qM0):=qd0
def xy2:Sp:=λvs H Q _=>∃(rp:Addr) (x:Nat) (rows:List Row),vs=[.ref rp,.int (x:Nat)]/\RowsS H rp rows/\x<rows.length+2/\∀H' b,Same H H'->H' b=some (.tup (vN (qrow rows x)))->Q (.ref b) H'
theorem xt1 {f:Addr}{fd:FuncData}(F:Fun K "quarters_of" "quarters_of" qM0 f fd) (Tc:Cst mg):FnOk P w K mg base CX0 1 f fd ["rows", "number"] xy2:=by
 obtain⟨tf,hf⟩:=Tc.first;refine F.ok xK1 (λvs H Q E h=>?_) (λcdv A outer s H vs Q E hr h=>?_)
 ·obtain⟨rp,x,rows,rfl,_⟩:=h
  rfl
 ·obtain⟨rp,x,rows,rfl,⟨bs,hb,hl,jB⟩,hx,q⟩:=h;refine seqE ⟨_,⟨qc9 (qb2 qn8 (pv 1) (qc6 (v:=.int 2) (by rfl) hf ⟨_,rfl⟩) (qb4 _)) (qa8 (qa9 (qb0 qR8 (qg0 (qa0 (pv 1) qa2)) qa5))) qb1⟩,?_⟩;refine qe5 ⟨_,⟨qa9 (pxN xC3 (pv 0) (qb0 qe0 (pv 1) (qc6 (v:=.int 2) (by rfl) hf ⟨_,rfl⟩)))⟩,?_⟩;refine⟨_,rfl,_,_,rfl,rfl,_,rfl,?_⟩;refine ite2 (λhc=>?_) (λhc=>?_)
  ·have x2:x<2:=by have:=Zq hc;lia
   refine⟨_,rfl,(by show 1<=sizeLine;decide),λb hb'=>⟨b,4,_,rfl,rfl,qa1,by decide,by decide,λp hp=>q _ p ((qb3 hb').trans (qb3 hp)) ?_⟩⟩;rw[qa1];unfold qrow;rw[Zt x2]
   rfl
  ·have x2:¬x<2:=λz=>hc (Zj (by lia));have hi:x-2<bs.length:=by lia
   have hbi:bs[x-2]?=some bs[x-2]:=Zb hi;have jZ:=jB _ _ _ hbi (qf2 (by lia));have ex:(x:Int)-2=((x-2:Nat):Int):=by lia
   refine⟨_,rfl,_,rfl,_,_,rfl,rfl,?_⟩;show rIx _ (V.ref rp) (V.int ((x:Int)-2)) H _;rw[ex];have hv:(bs.map V.ref)[x-2]?=some (.ref bs[x-2]):=by rw[Zg,hbi];rfl
   have fin:Q (.ref bs[x-2]) H:=q H _ (Same.refl _) (by unfold qrow;rw[Zm x2];exact jZ);rcases hb with hb|hb
   ·exact .inr (.inl ⟨rp,_,_,_,rfl,rfl,SqT.of hb,qd8 hv,fin⟩)
   ·exact .inl ⟨rp,_,_,_,rfl,rfl,SqL.of hb,qd8 hv,fin⟩
abbrev nNa:List Str:=["rows", "top", "address", "number", "figure"]
theorem scNa:FnScope nNa ["rows", "top", "address"] (qa3 qW5):=qd0
def spNa:Sp:=λvs H Q _=>∃(rp:Addr) (x:Nat) (ds:List Nat) (rows:List Row),vs=[.ref rp,.int (x:Nat),.str (txt ds)]/\RowsS H rp rows/\qb7 rows/\x<rows.length+2/\(∀d∈ds,d<4)/\ds.length<=12/\∀H',Same H H'->Q (.int (qt0 rows x ds:Nat)) H'
theorem xK2 {f fQ:Addr}{fd fdQ:FuncData}(F:Fun K "number_at" "number_at" qW5 f fd) (B:Blt mg) (Tc:Cst mg)
  (hQ:mg "quarters_of" = some (.ref fQ)) (FQ:Fun K "quarters_of" "quarters_of" qM0 fQ fdQ) (bQ:Binds K fdQ ["rows", "number"] []):FnOk P w K mg base CX0 2 f fd ["rows", "top", "address"] spNa:=by
 have GQ:FnOk P w K mg base CX0 1 fQ fdQ ["rows", "number"] xy2:=xt1 FQ Tc;refine F.ok scNa (λvs H Q E h=>?_) (λcdv A outer s H vs Q E hr h=>?_)
 ·obtain⟨rp,x,ds,rows,rfl,_⟩:=h
  rfl
 ·obtain⟨rp,x,ds,rows,rfl,hR,ok,hx,j9,hl,q⟩:=h;refine seqE ⟨_,⟨psN 3 scNa.nd (pv 1)⟩,?_⟩;refine seqE ⟨_,⟨qo6 YS rfl (xb0 (pv 2)) (pgN 4 scNa.nd) (qa8 (psN 3 scNa.nd (pxN ix_tup (pcN GQ hr hQ FQ.kp bQ (qa0 (pv 0) (qa0 (pv 3) qa2))) (qc1 qL3 (by rfl) B.int Xd (qa0 (pv 4) qa2)))))⟩,?_⟩;refine qe5 ⟨_,⟨qa9 (pv 3)⟩,?_⟩;refine⟨_,rfl,_,rfl,txt ds,rfl,xe0 (λi σ H2=>i<=ds.length/\Same H H2/\∃v4,σ=[some (.ref rp),some (.int (x:Nat)),some (.str (txt ds)),some (.int (qt0 rows x (ds.take i):Nat)),v4]) ⟨ZB _,Same.refl _,none,rfl⟩ ?_ ?_⟩
  ·rintro i c σ H2 hc ⟨hi,s2,v4,rfl⟩;obtain⟨d,hd,rfl⟩:=xt0 hc;have jN:d<4:=j9 d (Zs hd);obtain⟨k1,k2,k3⟩:=qG7 ok (ds.take i) x hx λy hy=>j9 y (WJ hy);refine⟨_,rfl,_,rfl,rp,_,rows,rfl,hR.same s2,k1,λH3 b s3 hb=>?_⟩;refine⟨_,rfl,_,(d:Int),rfl,xe1 jN,(by show 1<=640;decide),?_⟩;refine⟨b,_,(d:Int),.int ((qrow rows (qt0 rows x (ds.take i))).getD d 0:Nat),rfl,rfl,SqT.of hb,qu0 (qG6 ok k1 jN),?_⟩;have j7:=(gS_ hd).1;refine⟨by lia,s2.trans s3,some (.str ⟨#[48+d]⟩),?_⟩;rw[xe2 hd,qC6]
   rfl
  ·rintro σ H2 ⟨hi,s2,v4,rfl⟩;refine⟨_,rfl,?_⟩;rw[qY2,YT];exact q H2 s2
end
end Pr
namespace SetT
open PySem
def Rise (xs:Array Nat):Prop:=∀i j (hi:i<xs.size) (hj:j<xs.size),i<j->xs[i]<xs[j]
theorem qG8 {xs:Array Nat}(hr:Rise xs) (j:Nat):∀(f lo hi:Nat),hi-lo<=f->lo<=hi->hi<=xs.size->(∀k (h:k<xs.size),k<lo->xs[k]<j)->(∀k (h:k<xs.size),hi<=k->j<=xs[k]) ->
  SetTable.below.go xs j f lo hi<=xs.size/\(∀k (h:k<xs.size),k<SetTable.below.go xs j f lo hi->xs[k]<j)/\(∀k (h:k<xs.size),SetTable.below.go xs j f lo hi<=k->j<=xs[k])
 |0,lo,hi,hf,hl,hs,h1,h2=>by
  have e:lo=hi:=by lia
  subst e;exact⟨hs,h1,h2⟩
 |f+1,lo,hi,hf,hl,hs,h1,h2=>by
  unfold SetTable.below.go;by_cases hc:lo<hi
  ·rw[Zt hc];have hm:(lo+hi)/2<xs.size:=by lia
   have em:xs.getD ((lo+hi)/2) j=xs[(lo+hi)/2]:=by simp[Array.getD,hm]
   simp only;rw[em];by_cases hx:xs[(lo+hi)/2]<j
   ·rw[Zt hx];refine qG8 hr j f _ hi (by lia) (by lia) hs (λk h hk=>?_) h2;by_cases ek:k=(lo+hi)/2
    ·subst ek;exact hx
    ·exact Xk (hr k _ h hm (by lia)) hx
   ·rw[Zm hx];refine qG8 hr j f lo _ (by lia) (by lia) (by lia) h1 (λk h hk=>?_);by_cases ek:k=(lo+hi)/2
    ·subst ek;lia
    ·have:=hr _ k hm h (by lia);lia
  ·rw[Zm hc];have e:lo=hi:=by lia
   subst e;exact⟨hs,h1,h2⟩
theorem qv4 {xs:Array Nat}(hr:Rise xs) (j:Nat):SetTable.below xs j<=xs.size/\(∀k (h:k<xs.size),k<SetTable.below xs j->xs[k]<j)/\(∀k (h:k<xs.size),SetTable.below xs j<=k->j<=xs[k]):=
 qG8 hr j xs.size 0 xs.size (by lia) (ZB _) (Zd _) (λk h hk=>absurd hk (Yj _)) (λk h hk=>absurd h (by lia))
theorem xo2 {xs:Array Nat}(hr:Rise xs){i j:Nat}(h:xs[i]?=some j):SetTable.below xs j=i:=by
 obtain⟨hi,e⟩:=ZF.mp h;obtain⟨h0,h1,h2⟩:=qv4 hr j;rcases Ww (SetTable.below xs j) i with z|z|z
 ·have a:=h2 (SetTable.below xs j) (by lia) (Zd _);have b:=hr _ i (by lia) hi z;lia
 ·exact z
 ·have:=h1 i hi z;lia
theorem qz4 {t:SetTable}(hr:Rise t.place){i j:Nat}(h:t.place[i]?=some j):t.slot j=.live i:=by
 unfold SetTable.slot;simp only;rw[xo2 hr h,Zt (by rw[h];simp)]
theorem qd1 {α:Type}(xs:Array α) (p:Nat) (hp:p<=xs.size) (x:α) (k:Nat):(SetTable.insertAt xs p x)[k]?=if k<p then xs[k]? else if k=p then some x else xs[k-1]?:=by
 unfold SetTable.insertAt;have e1:(xs.extract 0 p).size=p:=by simp;lia
 have e2:((xs.extract 0 p).push x).size=p+1:=by rw[Array.size_push,e1]
 rw[Array.getElem?_append,e2];by_cases h1:k<p
 ·rw[Zt (by lia),Zt h1,WT,e1,Zm (by lia),Array.getElem?_extract];simp only[X8];rw[Zt (by lia)]
 ·rw[Zm h1];by_cases h2:k=p
  ·rw[Zt h2,Zt (by lia),WT,e1,Zt h2]
  ·rw[Zm h2,Zm (by lia),Array.getElem?_extract];have:p+(k-(p+1))=k-1:=by lia
   rw[this];by_cases h3:k-1<xs.size
   ·rw[Zt (by lia)]
   ·rw[Zm (by lia),XG (by lia)]
theorem xf0 {xs:Array Nat}(h:∀i j x y:Nat,i<j->xs[i]?=some x->xs[j]?=some y->x<y):Rise xs:=λi j hi hj kD=>h i j _ _ kD (ZP hi) (ZP hj)
theorem Rise.at {xs:Array Nat}(h:Rise xs){i j x y:Nat}(kD:i<j) (e1:xs[i]?=some x) (e2:xs[j]?=some y):x<y:=by
 obtain⟨h1,rfl⟩:=ZF.mp e1;obtain⟨h2,rfl⟩:=ZF.mp e2;exact h i j h1 h2 kD
theorem xo3 {xs:Array Nat}(hr:Rise xs){j:Nat}(hj:∀i:Nat,xs[i]?≠some j):Rise (SetTable.insertAt xs (SetTable.below xs j) j):=by
 obtain⟨h0,h1,h2⟩:=qv4 hr j;have lo:∀k x:Nat,k<SetTable.below xs j->xs[k]?=some x->x<j:=λk x hk e=>by
  obtain⟨h,rfl⟩:=ZF.mp e;exact h1 k h hk
 have hi:∀k x:Nat,SetTable.below xs j<=k->xs[k]?=some x->j<x:=λk x hk e=>by
  obtain⟨h,e'⟩:=ZF.mp e;have:=h2 k h hk;rw[e'] at this;have jE:x≠j:=λz=>hj k (by rw[e,z]);lia
 generalize SetTable.below xs j=p at *;refine xf0 λa b x y vS ea eb=>?_;rw[qd1 _ _ h0] at ea eb;by_cases a1:a<p
 ·rw[Zt a1] at ea;by_cases b1:b<p
  ·rw[Zt b1] at eb;exact hr.at vS ea eb
  ·rw[Zm b1] at eb;by_cases b2:b=p
   ·rw[Zt b2] at eb;cases eb;exact lo a x a1 ea
   ·rw[Zm b2] at eb;exact hr.at (by lia) ea eb
 ·rw[Zm a1] at ea;rw[Zm (by lia),Zm (by lia)] at eb;by_cases a2:a=p
  ·rw[Zt a2] at ea;cases ea;exact hi _ y (by lia) eb
  ·rw[Zm a2] at ea;exact hr.at (by lia) ea eb
theorem qq9 {t t':SetTable}(h:t.mask=t'.mask):∀(m:Nat) (p:SetTable.Probe),adv t m p=adv t' m p
 |0,p=>rfl
 |m+1,p=>by
  have e:t.advance p=t'.advance p:=by unfold SetTable.advance;rw[h]
  show adv t m (t.advance p)=adv t' m (t'.advance p);rw[e];exact qq9 h m _
theorem qm9 {t t':SetTable}(h:t.mask=t'.mask) (x:Int):t.probeStart x=t'.probeStart x:=by unfold SetTable.probeStart;rw[h]
def Way (t:SetTable) (x:Int) (j:Nat):Prop:=∃m,m<10*SetTable.turns t.mask/\(adv t m (t.probeStart x)).j=j/\∀m',m'<m->∃i:Nat,t.place[i]?=some (adv t m' (t.probeStart x)).j
theorem Way.more {t t':SetTable}{x:Int}{j:Nat}(w:Way t x j) (hm:t.mask=t'.mask) (hp:∀k:Nat,(∃i:Nat,t.place[i]?=some k)->∃i:Nat,t'.place[i]?=some k):Way t' x j:=by
 obtain⟨m,h1,h2,h3⟩:=w;refine⟨m,by rw[<- hm];exact h1,?_,λm' hm'=>?_⟩
 ·rw[<- qm9 hm,<- qq9 hm];exact h2
 ·rw[<- qm9 hm,<- qq9 hm];exact hp _ (h3 m' hm')
structure Good (t:SetTable) (hs:Array Int):Prop where
 gr:Grown t hs.size
 ri:Rise t.place
 wy:∀(i j:Nat) (x:Int),t.place[i]?=some j->hs[i]?=some x->Way t x j
theorem Good.put {t:SetTable}{hs:Array Int}(g:Good t hs) (hf:t.tooFull=false){j:Nat}{x:Int}(hj:∀i:Nat,t.place[i]?≠some j) (w:Way t x j):Good (t.put j).1 (SetTable.insertAt hs (t.put j).2 x):=by
 have e:(t.put j).1={ t with place:=SetTable.insertAt t.place (SetTable.below t.place j) j }:=by
  unfold SetTable.put;simp only;rw[g.gr.du,qE5];simp[g.gr.du]
 have e2:(t.put j).2=SetTable.below t.place j:=rfl;have k8:=(qv4 g.ri j).1;have hsz:t.place.size=hs.size:=g.gr.pl;have jJ:∀k:Nat,(∃i:Nat,t.place[i]?=some k)->∃i:Nat,(t.put j).1.place[i]?=some k:=λk ⟨i,hi⟩=>by
  rw[e];by_cases h:i<SetTable.below t.place j
  ·exact⟨i,by rw[qd1 _ _ k8,Zt h];exact hi⟩
  ·exact⟨i+1,by rw[qd1 _ _ k8,Zm (by lia),Zm (by lia)];exact hi⟩
 have kQ:t.mask=(t.put j).1.mask:=by rw[e]
 refine⟨by rw[qj9];exact g.gr.put hf j,by rw[e];exact xo3 g.ri hj,λi k y hi hy=>?_⟩;rw[e2,qd1 _ _ (by lia)] at hy;rw[e] at hi;have hi':(SetTable.insertAt t.place (SetTable.below t.place j) j)[i]?=some k:=hi;rw[qd1 _ _ k8] at hi';by_cases h1:i<SetTable.below t.place j
 ·rw[Zt h1] at hi' hy;exact (g.wy i k y hi' hy).more kQ jJ
 ·rw[Zm h1] at hi' hy;by_cases h2:i=SetTable.below t.place j
  ·rw[Zt h2] at hi' hy;cases hi';cases hy;exact w.more kQ jJ
  ·rw[Zm h2] at hi' hy;exact (g.wy (i-1) k y hi' hy).more kQ jJ
def tm (mask:Nat):SetTable:={ mask:=mask,place:=#[],dummies:=#[],finger:=0,led:=false,moves:=0,plain:=true }
theorem xf1 {mask i k:Nat}(hi:i<=mask) (hk:k<=SetTable.runEnd mask i-i):i+k<=mask:=by
 unfold SetTable.runEnd at hk;split at hk<;>lia
theorem qG9 {mask:Nat}{owner:Array (Option Nat)}:∀(f i p:Nat) (p0:SetTable.Probe) (j:Nat),i<=mask->Head (tm mask) i p none p0->SetTable.layClean.free mask owner f i p=some j ->
  ∃m,m<10*f/\(adv (tm mask) m p0).j=j/\j<=mask/\(owner.getD j (some 0)).isNone=true/\∀m',m'<m->(adv (tm mask) m' p0).j<=mask/\(owner.getD (adv (tm mask) m' p0).j (some 0)).isNone=false
 |0,i,p,p0,j,_,_,h=>by cases h
 |f+1,i,p,p0,j,hi,hd,h=>by
  unfold SetTable.layClean.free at h;have hrl:=qK0 mask i;have y8:∀k,k<=SetTable.runEnd mask i-i->(adv (tm mask) k p0).j=i+k:=λk hk=>by
   rw[qE4 (tm mask) k p0 (by rw[hd.e];exact hk),hd.e]
  have hge:i<=SetTable.runEnd mask i:=by unfold SetTable.runEnd;split<;>lia
  cases e:(List.range (SetTable.runEnd mask i+1-i)).find? λk=>(owner.getD (i+k) (some 0)).isNone with
  |some k=>
   rw[e] at h;have hj:i+k=j:=Zw h;obtain⟨h1,h2,h3⟩:=List.find?_range_eq_some.mp e;have hk:k<=SetTable.runEnd mask i-i:=by have:=ZW.mp h2;lia
   refine⟨k,by lia,by rw[y8 k hk];exact hj,by rw[<- hj];exact xf1 hi hk,by rw[<- hj];exact h1,λm' hm'=>?_⟩;rw[y8 m' (by lia)];refine⟨xf1 hi (by lia),?_⟩;have:=h3 m' hm';simpa using this
  |none=>
   rw[e] at h;simp only at h;have jH:∀k,k<=SetTable.runEnd mask i-i->(owner.getD (i+k) (some 0)).isNone=false:=λk hk=>by
    have h0:∀x∈List.range (SetTable.runEnd mask i+1-i),¬(owner.getD (i+x) (some 0)).isNone=true:=by simpa using e
    have:=h0 k (ZW.mpr (by lia));exact YE.mpr this
   have hnext:Head (tm mask) (SetTable.leap mask i p).1 (SetTable.leap mask i p).2 none (adv (tm mask) ((SetTable.runEnd mask i-i)+1) p0):=by
    refine⟨?_⟩;rw[ql1,qE4 (tm mask) _ p0 (by rw[hd.e];exact Zd _)];show (tm mask).advance _=_;rw[hd.e];unfold SetTable.advance;rw[Zm (by show ¬(SetTable.runEnd mask i-i)-(SetTable.runEnd mask i-i)>0;lia)]
    rfl
   have hl:(SetTable.leap mask i p).1<=mask:=by
    have:=Y8 (i*5+1+p/32) (WY mask);exact Xm this
   obtain⟨m,h1,h2,h3,h4,h5⟩:=qG9 f _ _ _ j hl hnext h;refine⟨(SetTable.runEnd mask i-i)+1+m,by lia,by rw[ql1];exact h2,h3,h4,λm' hm'=>?_⟩;by_cases hc:m'<=SetTable.runEnd mask i-i
   ·rw[y8 m' hc];exact⟨xf1 hi hc,jH m' hc⟩
   ·obtain⟨d,rfl⟩:∃d,m'=(SetTable.runEnd mask i-i)+1+d:=⟨m'-((SetTable.runEnd mask i-i)+1),by lia⟩;rw[ql1];exact h5 d (by lia)
def WayO (mask:Nat) (owner:Array (Option Nat)) (x:Int) (j:Nat):Prop:=∃m,m<10*SetTable.turns mask/\(adv (tm mask) m ((tm mask).probeStart x)).j=j/\∀m',m'<m->∃v:Nat,owner[(adv (tm mask) m' ((tm mask).probeStart x)).j]?=some (some v)
structure LaidW (mask:Nat) (owner:Array (Option Nat)) (hs:List Int) (K:Nat):Prop where
 sz:owner.size=mask+1
 wy:∀j k:Nat,owner[j]?=some (some k)->k<K/\∀x,hs[k]?=some x->WayO mask owner x j
theorem q39 {mask K:Nat}{owner:Array (Option Nat)}{hs:List Int}(g:LaidW mask owner hs K){x:Int}(hx:hs[K]?=some x){j:Nat}
  (h:SetTable.layClean.free mask owner (SetTable.turns mask) (SetTable.bits x%(mask+1)) (SetTable.bits x)=some j):LaidW mask (owner.setIfInBounds j (some K)) hs (K+1):=by
 obtain⟨m,h1,h2,h3,h4,h5⟩:=qG9 (mask:=mask) (owner:=owner) (SetTable.turns mask) _ _ ((tm mask).probeStart x) j (Xm (Y8 _ (WY _))) ⟨rfl⟩ h;have hjs:j<owner.size:=by rw[g.sz];lia
 have some':∀k:Nat,k<=mask->(owner.getD k (some 0)).isNone=false->∃v:Nat,owner[k]?=some (some v):=λk hk hn=>by
  have hks:k<owner.size:=by rw[g.sz];lia
  have e:owner.getD k (some 0)=owner[k]:=by simp[Array.getD,hks]
  rw[e] at hn;cases ho:owner[k] with
  |none=>rw[ho] at hn;cases hn
  |some v=>exact⟨v,by rw[ZP hks,ho]⟩
 have keep:∀k v:Nat,owner[k]?=some (some v)->∃v':Nat,(owner.setIfInBounds j (some K))[k]?=some (some v'):=λk v hk=>by
  rw[Y2];by_cases e:j=k
  ·rw[Zt e,Zt hjs];exact⟨K,rfl⟩
  ·rw[Zm e];exact⟨v,hk⟩
 have up:∀y k,WayO mask owner y k->WayO mask (owner.setIfInBounds j (some K)) y k:=λy k ⟨a,b,c,d⟩=>⟨a,b,c,λm' hm'=>by
  obtain⟨v,hv⟩:=d m' hm';exact keep _ v hv⟩
 refine⟨by rw[Wb];exact g.sz,λk v hk=>?_⟩;rw[Y2] at hk;by_cases e:j=k
 ·rw[Zt e,Zt hjs] at hk;have ev:v=K:=by
   have:=Zw (Zw hk);exact this.symm
  subst ev;refine⟨Z2 _,λy hy=>?_⟩;rw[hx] at hy;cases hy;rw[<- e];refine up x j ⟨m,h1,h2,λm' hm'=>?_⟩;obtain⟨a,b⟩:=h5 m' hm';exact some' _ a b
 ·rw[Zm e] at hk;obtain⟨a,b⟩:=g.wy k v hk;exact⟨by lia,λy hy=>up y k (b y hy)⟩
theorem qN9 {mask:Nat}(all:List Int):∀(hs:List Int) (owner owner':Array (Option Nat)) (K K':Nat),LaidW mask owner all K->(∀i x,hs[i]?=some x->all[K+i]?=some x) ->
  (hs.foldl (λ(acc:Option (Array (Option Nat)×Nat)) (h:Int)=>do
   let (owner,k) <- acc
   let j <- SetTable.layClean.free mask owner (SetTable.turns mask) (SetTable.bits h%(mask+1)) (SetTable.bits h)
   pure (owner.setIfInBounds j (some k),k+1)) (some (owner,K)))=some (owner',K')->LaidW mask owner' all K'
 |[],owner,owner',K,K',g,_,e=>by
  have:=Zw e;cases this;exact g
 |h::hs,owner,owner',K,K',g,ha,e=>by
  rw[Z3] at e;have hx:=ha 0 h rfl;rw[Nat.add_zero] at hx;cases hf:SetTable.layClean.free mask owner (SetTable.turns mask) (SetTable.bits h%(mask+1)) (SetTable.bits h) with
  |none=>
   exfalso;have e2:(hs.foldl (λ(acc:Option (Array (Option Nat)×Nat)) (h:Int)=>do
    let (owner,k) <- acc
    let j <- SetTable.layClean.free mask owner (SetTable.turns mask) (SetTable.bits h%(mask+1)) (SetTable.bits h)
    pure (owner.setIfInBounds j (some k),k+1)) none)=some (owner',K'):=by
    rw[<- e];congr 1;show none=(SetTable.layClean.free mask owner (SetTable.turns mask) (SetTable.bits h%(mask+1)) (SetTable.bits h)).bind _;rw[hf]
    rfl
   have no:∀l:List Int,(l.foldl (λ(acc:Option (Array (Option Nat)×Nat)) (h:Int)=>do
    let (owner,k) <- acc
    let j <- SetTable.layClean.free mask owner (SetTable.turns mask) (SetTable.bits h%(mask+1)) (SetTable.bits h)
    pure (owner.setIfInBounds j (some k),k+1)) none)=none:=λl=>by
    induction l with
    |nil=>rfl
    |cons a l ih=>rw[Z3];exact ih
   rw[no] at e2;cases e2
  |some j=>
   refine qN9 all hs (owner.setIfInBounds j (some K)) owner' (K+1) K' (q39 g hx hf) (λi x hi=>?_) ?_
   ·have:=ha (i+1) x (by simpa using hi);rw[show K+1+i=K+(i+1) by lia];exact this
   ·rw[<- e];congr 1;show some _=(SetTable.layClean.free mask owner (SetTable.turns mask) (SetTable.bits h%(mask+1)) (SetTable.bits h)).bind _;rw[hf]
    rfl
theorem xo4 {mask:Nat}{hs:Array Int}{owner:Array (Option Nat)}(h:SetTable.layClean mask hs=some owner):LaidW mask owner hs.toList hs.size:=by
 unfold SetTable.layClean at h;rw[<- W3] at h;obtain⟨⟨o,K'⟩,e,rfl⟩:=Zr.mp h;have g0:LaidW mask (Array.replicate (mask+1) none) hs.toList 0:=⟨by simp,λj k hk=>by
  rw[Array.getElem?_replicate] at hk;split at hk<;>cases hk⟩
 have g:=qN9 hs.toList hs.toList _ o 0 K' g0 (λi x hi=>by rw[X8];exact hi) e;refine⟨g.sz,λj k hk=>?_⟩;obtain⟨a,b⟩:=g.wy j k hk;have cnt:∀(l:List Int) (o o':Array (Option Nat)) (K K':Nat),(l.foldl (λ(acc:Option (Array (Option Nat)×Nat)) (h:Int)=>do
   let (owner,k) <- acc
   let j <- SetTable.layClean.free mask owner (SetTable.turns mask) (SetTable.bits h%(mask+1)) (SetTable.bits h)
   pure (owner.setIfInBounds j (some k),k+1)) (some (o,K)))=some (o',K')->K'=K+l.length:=λl=>by
  induction l with
  |nil=>intro o o' K K' e;have:=Zw e;cases this;rfl
  |cons x l ih=>
   intro o o' K K' e;rw[Z3] at e;cases hf:SetTable.layClean.free mask o (SetTable.turns mask) (SetTable.bits x%(mask+1)) (SetTable.bits x) with
   |none=>
    exfalso;have no:∀l:List Int,(l.foldl (λ(acc:Option (Array (Option Nat)×Nat)) (h:Int)=>do
     let (owner,k) <- acc
     let j <- SetTable.layClean.free mask owner (SetTable.turns mask) (SetTable.bits h%(mask+1)) (SetTable.bits h)
     pure (owner.setIfInBounds j (some k),k+1)) none)=none:=λl=>by
     induction l with
     |nil=>rfl
     |cons a l ih=>rw[Z3];exact ih
    have e2:(SetTable.layClean.free mask o (SetTable.turns mask) (SetTable.bits x%(mask+1)) (SetTable.bits x)).bind (λj=>some (o.setIfInBounds j (some K),K+1))=none:=by rw[hf];rfl
    have e3:(l.foldl (λ(acc:Option (Array (Option Nat)×Nat)) (h:Int)=>do
     let (owner,k) <- acc
     let j <- SetTable.layClean.free mask owner (SetTable.turns mask) (SetTable.bits h%(mask+1)) (SetTable.bits h)
     pure (owner.setIfInBounds j (some k),k+1)) ((SetTable.layClean.free mask o (SetTable.turns mask) (SetTable.bits x%(mask+1)) (SetTable.bits x)).bind (λj=>some (o.setIfInBounds j (some K),K+1))))=some (o',K'):=e
    rw[e2,no] at e3;cases e3
   |some j=>
    have e3:(l.foldl (λ(acc:Option (Array (Option Nat)×Nat)) (h:Int)=>do
     let (owner,k) <- acc
     let j <- SetTable.layClean.free mask owner (SetTable.turns mask) (SetTable.bits h%(mask+1)) (SetTable.bits h)
     pure (owner.setIfInBounds j (some k),k+1)) ((SetTable.layClean.free mask o (SetTable.turns mask) (SetTable.bits x%(mask+1)) (SetTable.bits x)).bind (λj=>some (o.setIfInBounds j (some K),K+1))))=some (o',K'):=e
    rw[hf] at e3;have:=ih _ _ _ _ e3;rw[this,Zy];lia
 have hK:=cnt _ _ _ _ _ e;rw[X8,ZZ] at hK;exact⟨by lia,b⟩
theorem qT2 (owner:Array (Option Nat)):∀(n:Nat),(∀i j k:Nat,((List.range n).filterMap λj=>(owner.getD j none).map (λv=>(j,v)))[i]?=some (j,k)->j<n/\owner[j]?=some (some k)) /\
  (∀(i i':Nat) (p p':Nat×Nat),i<i'->((List.range n).filterMap λj=>(owner.getD j none).map (λv=>(j,v)))[i]?=some p->((List.range n).filterMap λj=>(owner.getD j none).map (λv=>(j,v)))[i']?=some p'->p.1<p'.1) /\
  (∀j k:Nat,j<n->owner[j]?=some (some k)->∃i:Nat,((List.range n).filterMap λj=>(owner.getD j none).map (λv=>(j,v)))[i]?=some (j,k))
 |0=>⟨λi j k h=>by simp at h,λi i' p p' _ h=>by simp at h,λj k h=>absurd h (Yj _)⟩
 |n+1=>by
  obtain⟨h1,h2,h3⟩:=qT2 owner n;rw[Xi,List.filterMap_append];generalize hL:((List.range n).filterMap λj=>(owner.getD j none).map (λv=>(j,v)))=L at h1 h2 h3;have hget:∀v,owner.getD n none=some v->owner[n]?=some (some v):=λv hv=>by
   by_cases hn:n<owner.size
   ·have e:owner.getD n none=owner[n]:=by simp[Array.getD,hn]
    rw[ZP hn,<- e,hv]
   ·have e:owner.getD n none=none:=by simp[Array.getD,hn]
    rw[e] at hv;cases hv
  cases ho:owner.getD n none with
  |none=>
   have e:[n].filterMap (λj=>(owner.getD j none).map (λv=>(j,v)))=[]:=by
    rw[ZV,ho];rfl
   rw[e,Wg];refine⟨λi j k h=>⟨YD (h1 i j k h).1,(h1 i j k h).2⟩,h2,λj k hj hk=>?_⟩;by_cases ej:j=n
   ·subst ej;have hn:=(ZF.mp hk).1;have e:owner.getD j none=owner[j]:=by simp[Array.getD,hn]
    rw[ZP hn] at hk;rw[e,Zw hk] at ho;cases ho
   ·exact h3 j k (by lia) hk
  |some v=>
   have e:[n].filterMap (λj=>(owner.getD j none).map (λv=>(j,v)))=[(n,v)]:=by
    rw[ZV,ho];rfl
   rw[e];have inL:∀(i:Nat) p,L[i]?=some p->p.1<n:=λi p h=>(h1 i p.1 p.2 h).1;refine⟨λi j k h=>?_,λi i' p p' hii h h'=>?_,λj k hj hk=>?_⟩
   ·by_cases hi:i<L.length
    ·rw[Zo hi] at h;exact⟨YD (h1 i j k h).1,(h1 i j k h).2⟩
    ·rw[Zv (by lia)] at h;have:i-L.length=0:=by
      have:=(gS_ h).1;simp at this;lia
     rw[this] at h;have h:=Zw h;cases h;exact⟨Z2 _,hget v ho⟩
   ·have hi':=(gS_ h').1;rw[Zu] at hi';have hi':i'<L.length+1:=hi';rw[Zo (by lia)] at h;by_cases hc:i'<L.length
    ·rw[Zo hc] at h';exact h2 i i' p p' hii h h'
    ·rw[Zv (by lia)] at h';have e0:i'-L.length=0:=by lia
     rw[e0] at h';have h':=Zw h';rw[<- h'];exact inL i p h
   ·by_cases ej:j=n
    ·subst ej;have:=hget v ho;rw[this] at hk;cases hk;exact⟨L.length,by rw[Zv (Zd _),Vr];rfl⟩
    ·obtain⟨i,hi⟩:=h3 j k (by lia) hk;exact⟨i,by rw[Zo (gS_ hi).1];exact hi⟩
theorem qz5 {α:Type}{es:Array α}{order:Array Nat}(h:∀v∈order,v<es.size){i k:Nat}(e:order[i]?=some k):(order.filterMap (es[·]?))[i]?=es[k]?:=by
 have key:∀(l:List Nat),(∀v∈l,v<es.size)->∀i k:Nat,l[i]?=some k->(l.filterMap (es[·]?))[i]?=es[k]?:=λl=>by
  induction l with
  |nil=>intro _ i k e;simp at e
  |cons a l ih=>
   intro hh i k e;have ha:=hh a Zh;rw[ZV,show es[a]?=some es[a] by simp[ha]];simp only;cases i with
   |zero=>
    have:a=k:=by simpa using e
    subst this;simp[ha]
   |succ i=>
    rw[List.getElem?_cons_succ] at e ⊢;exact ih (λv hv=>hh v (Ze _ hv)) i k e
 have:=key order.toList (λv hv=>h v (by simpa using hv)) i k (by rw[Xb];exact e);rw[<- Xb,Array.toList_filterMap];exact this
theorem xf2 {mask finger moves:Nat}{led plain:Bool}{hs:Array Int}{t:SetTable}{order:Array Nat}(e:SetTable.laid mask finger moves led plain hs=some (t,order)) (gr:Grown t hs.size) (ho:∀v∈order,v<hs.size) (hz:order.size=hs.size) :
  Good t (order.filterMap (hs[·]?)):=by
 unfold SetTable.laid at e;cases hl:SetTable.layClean mask hs with
 |none=>rw[hl] at e;cases e
 |some owner=>
  rw[hl] at e;have e:=Zw e;have g:=xo4 hl;obtain⟨h1,h2,h3⟩:=qT2 owner (mask+1);have et:t={ mask:=mask,place:=((((List.range (mask+1)).filterMap λj=>(owner.getD j none).map (λv=>(j,v))).map (·.1)).toArray),dummies:=#[],finger:=finger,led:=led,moves:=moves,plain:=plain }:=(Prod.mk.inj e).1.symm;have eo:order=((((List.range (mask+1)).filterMap λj=>(owner.getD j none).map (λv=>(j,v))).map (·.2)).toArray):=(Prod.mk.inj e).2.symm;generalize ((List.range (mask+1)).filterMap λj=>(owner.getD j none).map (λv=>(j,v)))=L at h1 h2 h3 et eo;have jF:∀i j:Nat,t.place[i]?=some j<->∃k,L[i]?=some (j,k):=λi j=>by
   rw[et];show ((L.map (·.1)).toArray)[i]?=some j<->_;rw[WC,Zg];constructor
   ·intro h;obtain⟨p,hp,rfl⟩:=Zr.mp h;exact⟨p.2,hp⟩
   ·rintro⟨k,h⟩;rw[h];rfl
  have kQ:t.mask=mask:=by rw[et]
  refine⟨?_,xf0 λa b x y vS ea eb=>?_,λi j x hi hx=>?_⟩
  ·rw[ql2 ho,hz];exact gr
  ·obtain⟨k,hk⟩:=(jF a x).mp ea;obtain⟨k',hk'⟩:=(jF b y).mp eb;exact h2 a b _ _ vS hk hk'
  ·obtain⟨k,hk⟩:=(jF i j).mp hi;have hok:order[i]?=some k:=by
    rw[eo,WC,Zg,hk];rfl
   rw[qz5 ho hok] at hx;obtain⟨_,b⟩:=g.wy j k (h1 i j k hk).2;obtain⟨m,w1,w2,w3⟩:=b x (by rw[Xb];exact hx);have hmk':(tm mask).mask=t.mask:=kQ.symm;refine⟨m,by rw[kQ];exact w1,?_,λm' hm'=>?_⟩
   ·rw[<- qm9 hmk',<- qq9 hmk'];exact w2
   ·obtain⟨v,hv⟩:=w3 m' hm';rw[<- qm9 hmk',<- qq9 hmk'];have j7:(adv (tm mask) m' ((tm mask).probeStart x)).j<mask+1:=by
     have:=(ZF.mp hv).1;rw[g.sz] at this;exact this
    obtain⟨i',hi'⟩:=h3 _ v j7 hv;exact⟨i',(jF i' _).mpr ⟨v,hi'⟩⟩
end SetT
namespace SetT
open PySem PySem.Spec PyProof.Rows
theorem xt2 {t:SetTable}(hd:t.dummies=#[]) (f:Nat->Int) (h:Int) (st:SetTable.Probe):∀(fuel m0 M:Nat),M-m0<fuel->m0<=M->st.dummy=none->t.slot (adv t M st).j=.empty ->
  (∃m1 j,m0<=m1/\m1<=M/\SetTable.probe.go t f h fuel (adv t m0 st)=some (.empty j none)/\(adv t m1 st).j=j/\t.slot j=.empty/\∀m',m0<=m'->m'<m1->∃i:Nat,t.place[i]?=some (adv t m' st).j/\f i≠h) \/
  (∃m1 j i,m0<=m1/\m1<M/\SetTable.probe.go t f h fuel (adv t m0 st)=some (.candidate j i (adv t (m1+1) st))/\(adv t m1 st).j=j/\t.slot j=.live i/\t.place[i]?=some j/\f i=h/\∀m',m0<=m'->m'<m1->∃i:Nat,t.place[i]?=some (adv t m' st).j/\f i≠h)
 |0,m0,M,h1,_,_,_=>absurd h1 (Yj _)
 |fuel+1,m0,M,h1,h2,hp,he=>by
  unfold SetTable.probe.go;have hdm:(adv t m0 st).dummy=none:=by rw[qK1];exact hp
  have hnx:t.advance (adv t m0 st)=adv t (m0+1) st:=by rw[ql1];rfl
  rcases q85 hd (adv t m0 st).j with e|⟨i,e,e2⟩
  ·rw[e];exact .inl ⟨m0,_,Zd _,h2,by rw[hdm],rfl,e,λm' a b=>absurd a (by lia)⟩
  ·rw[e];have j7:m0<M:=by
    rcases Nat.lt_or_ge m0 M with z|z
    ·exact z
    ·have:m0=M:=by lia
     subst this;rw[e] at he;cases he
   by_cases hc:f i==h
   ·refine .inr ⟨m0,_,i,Zd _,j7,?_,rfl,e,e2,by simpa using hc,λm' a b=>absurd a (by lia)⟩;simp only;rw[Zt hc,hnx]
   ·simp only;rw[Zm hc,hnx];have ext:∀m1,(∀m',m0+1<=m'->m'<m1->∃i:Nat,t.place[i]?=some (adv t m' st).j/\f i≠h)->∀m',m0<=m'->m'<m1->∃i:Nat,t.place[i]?=some (adv t m' st).j/\f i≠h:=λm1 hh m' a b=>by
     by_cases z:m'=m0
     ·subst z;exact⟨i,e2,by simpa using hc⟩
     ·exact hh m' (by lia) b
    rcases xt2 hd f h st fuel (m0+1) M (by lia) j7 hp he with ⟨m1,j,a,b,c,d,e',g⟩|⟨m1,j,i',a,b,c,d,e',g,k,l⟩
    ·exact .inl ⟨m1,j,by lia,b,c,d,e',ext m1 g⟩
    ·exact .inr ⟨m1,j,i',by lia,b,c,d,e',g,k,ext m1 l⟩
theorem qO0 {t:SetTable}{f:Nat->Int}{h:Int}{st:SetTable.Probe}{pr:Option SetTable.Met}{m0 M:Nat}(hp:t.probe f h (adv t m0 st)=pr) (hd:t.dummies=#[]) (hM:M<10*SetTable.turns t.mask) (h2:m0<=M) (hdm:st.dummy=none) (he:t.slot (adv t M st).j=.empty)
  {es:Array (Int×Value)}(hf:∀(i:Nat) e,es[i]?=some e->f i=e.1) (jF:t.place.size=es.size) :
  (∃m1 j,m0<=m1/\m1<=M/\pr=some (.empty j none)/\(adv t m1 st).j=j/\t.slot j=.empty/\∀m',m0<=m'->m'<m1->∃i:Nat,t.place[i]?=some (adv t m' st).j/\∀e,es[i]?=some e->e.1≠h) \/
  (∃m1 j i,m0<=m1/\m1<M/\pr=some (.candidate j i (adv t (m1+1) st))/\(adv t m1 st).j=j/\t.slot j=.live i/\t.place[i]?=some j/\(∀e,es[i]?=some e->e.1=h)/\∀m',m0<=m'->m'<m1->∃i:Nat,t.place[i]?=some (adv t m' st).j/\∀e,es[i]?=some e->e.1≠h):=by
 subst hp;rcases xt2 hd f h st (10*SetTable.turns t.mask) m0 M (by lia) h2 hdm he with ⟨m1,j,a,b,c,d,e',g⟩|⟨m1,j,i',a,b,c,d,e',g,k,l⟩
 ·exact .inl ⟨m1,j,a,b,c,d,e',λm' x y=>let ⟨i,p,q⟩:=g m' x y;⟨i,p,λe z w=>q (by rw[hf i e z];exact w)⟩⟩
 ·exact .inr ⟨m1,j,i',a,b,c,d,e',g,λe z=>by rw[<- hf i' e z];exact k,λm' x y=>let ⟨i,p,q⟩:=l m' x y;⟨i,p,λe z w=>q (by rw[hf i e z];exact w)⟩⟩
section
variable {prog:Program}{w:World}{K:Type}[DecidableEq K]{knd:KeyKind prog w K}{A:Around}{E:Value->Shared->Prop}{s:Shared}
theorem xE7 {t:SetTable}{es:Array (Int×Value)}{ks:List K}{h:Heap}(G:Good t (es.map (·.1))) (vE:∀(i:Nat) e,es[i]?=some e->∃b' k',e.2=.ref b'/\IsTupleKey knd h k' b'/\e.1=tupleKeyHash knd k'){m1 j:Nat}(a4:(adv t m1 (t.probeStart (tupleKeyHash knd ks))).j=j) (a5:t.slot j=.empty)
  (a6:∀m',m'<m1->∃i:Nat,t.place[i]?=some (adv t m' (t.probeStart (tupleKeyHash knd ks))).j/\∀e b',es[i]?=some e->e.2=.ref b'->¬IsTupleKey knd h ks b') :
  ∀(i:Nat) e b',es[i]?=some e->e.2=.ref b'->¬IsTupleKey knd h ks b':=by
 intro i e b' x1 x2 x3;have g:Grown t es.size:=by have:=G.gr;rw[Yt] at this;exact this
 obtain⟨b0,k0,y1,y2,y3⟩:=vE i e x1;rw[x2] at y1;cases y1;have ek:k0=ks:=y2.inj x3;subst ek;have hi:i<t.place.size:=by rw[g.pl];exact (ZF.mp x1).1
 have hpi:t.place[i]?=some t.place[i]:=ZP hi;obtain⟨m,w1,w2,w3⟩:=G.wy i _ e.1 hpi (by rw[Xa,x1];rfl);rw[y3] at w2 w3;rcases Ww m m1 with z|z|z
 ·obtain⟨i',p1,p2⟩:=a6 m z;rw[w2] at p1;have e1:=qz4 G.ri p1;have e2:=qz4 G.ri hpi;rw[e1] at e2;cases e2;exact p2 e b' x1 x2 x3
 ·subst z;rw[w2] at a4;rw[<- a4,qz4 G.ri hpi] at a5;cases a5
 ·obtain⟨i',p1⟩:=w3 m1 z;rw[a4] at p1;rw[qz4 G.ri p1] at a5;cases a5
theorem xy3 {a b:Addr}{o:Obj}{es:Array (Int×Value)}{ep:Nat}{t:SetTable}{ks:List K}{Q:SetFound->Shared->Prop}(hu:A.units<cLine)
  (ho:s.heap.get? a=some o) (hd:o.data=.set es ep t) (G:Good t (es.map (·.1))) (hk:IsTupleKey knd s.heap ks b)
  (vE:∀(i:Nat) e,es[i]?=some e->∃b' k',e.2=.ref b'/\IsTupleKey knd s.heap k' b'/\e.1=tupleKeyHash knd k')
  (there:(∃(i:Nat) (e:Int×Value) (b':Addr),es[i]?=some e/\e.2=.ref b'/\IsTupleKey knd s.heap ks b')->Q (.there none) s)
  (free:∀j,(∀(i:Nat) e b',es[i]?=some e->e.2=.ref b'->¬IsTupleKey knd s.heap ks b')->Way t (tupleKeyHash knd ks) j->(∀i:Nat,t.place[i]?≠some j)->Q (.free j false) s)
  {M:Nat}(hM:M<10*SetTable.turns t.mask) (hMe:t.slot (adv t M (t.probeStart (tupleKeyHash knd ks))).j=.empty) :
  ∀(d m0 fuel:Nat) (stand:Option SetTable.Probe),M-m0<=d->m0<=M->d<fuel->stand.getD (t.probeStart (tupleKeyHash knd ks))=adv t m0 (t.probeStart (tupleKeyHash knd ks)) ->
   (∀m',m'<m0->∃i:Nat,t.place[i]?=some (adv t m' (t.probeStart (tupleKeyHash knd ks))).j/\∀e b',es[i]?=some e->e.2=.ref b'->¬IsTupleKey knd s.heap ks b') ->
   wpAny (model prog w) A (setSearchFrom a (.ref b) (tupleKeyHash knd ks) true fuel stand) Q E s:=by
 have g:Grown t es.size:=by have:=G.gr;rw[Yt] at this;exact this
 intro d
 induction d using Nat.strongRecOn with
 |_ d ih=>
  intro m0 fuel stand h1 h2 h3 kP hps;cases fuel with
  |zero=>exact absurd h3 (Yj _)
  |succ fuel=>
   unfold setSearchFrom;refine Za (YR ho hd g.fits ?_);dsimp only;rw[g.way];simp only[ZL,Yq];rw[kP];split
   rotate_left
   ·rename_i hp;exact Or.elim (qO0 rfl g.du hM h2 rfl hMe (es:=es) (λi e he=>by show (es[i]?.map (·.1)).getD 0=e.1;rw[he];rfl) g.pl) (λ⟨_,_,_,_,e,_⟩=>(hp _ e).elim) (λ⟨_,_,_,_,_,e,_⟩=>(hp _ e).elim)
   rename_i met hp;rcases qO0 hp g.du hM h2 rfl hMe (es:=es) (λi e he=>by show (es[i]?.map (·.1)).getD 0=e.1;rw[he];rfl) g.pl with ⟨m1,j,a1,a2,a3,a4,a5,a6⟩|⟨m1,j,i,a1,a2,a3,a4,a5,a6,a7,a8⟩
   ·cases a3;dsimp only;refine Zf ?_;have nj:∀i:Nat,t.place[i]?≠some j:=λi z=>by rw[qz4 G.ri z] at a5;cases a5
    have all:∀m',m'<m1->∃i:Nat,t.place[i]?=some (adv t m' (t.probeStart (tupleKeyHash knd ks))).j/\∀e b',es[i]?=some e->e.2=.ref b'->¬IsTupleKey knd s.heap ks b':=λm' hm'=>by
     by_cases z:m'<m0
     ·exact hps m' z
     ·obtain⟨i',hi',hf⟩:=a6 m' (by lia) hm';refine⟨i',hi',λe c x1 x2 x3=>hf e x1 ?_⟩;obtain⟨c',kc,y1,y2,y3⟩:=vE i' e x1;rw[x2] at y1;cases y1;rw[y3,y2.inj x3]
    exact free j (xE7 G vE a4 a5 all) ⟨m1,by lia,a4,λm' hm'=>let ⟨i,hi,_⟩:=all m' hm';⟨i,hi⟩⟩ nj
   ·cases a3;dsimp only;have hi:i<es.size:=by
     have:=(ZF.mp a6).1;rw[g.pl] at this;exact this
    obtain⟨b',k',e2,hk',e3⟩:=vE i es[i] (ZP hi);have hei:es[i]?=some (es[i].1,.ref b'):=by
     rw[<- e2];simp[hi]
    have sm:t.sameMemory t.moves t.mask=some true:=by
     unfold SetTable.sameMemory;rw[Zt (by simp)]
    have seen:∀y∈(es.filter (·.1==tupleKeyHash knd ks)).toList.map (·.2),∃b ks',y=.ref b/\IsTupleKey knd s.heap ks' b:=λy hy=>by
     obtain⟨e,he',rfl⟩:=Yo.mp hy;have:e∈es:=(Array.mem_filter.mp (show e∈es.filter (·.1==tupleKeyHash knd ks) by simpa using he')).1;obtain⟨n,hn,en⟩:=Array.mem_iff_getElem.mp this;obtain⟨b'',ks'',x1,x2,_⟩:=vE n e (by rw[ZP hn,en]);exact⟨b'',ks'',x1,x2⟩
    have nx:k'≠ks->wpAny (model prog w) A (setSearchFrom a (.ref b) (tupleKeyHash knd ks) true fuel (some (adv t (m1+1) (t.probeStart (tupleKeyHash knd ks))))) Q E s:=λjE=>by
     refine ih (d-1) (by lia) (m1+1) fuel _ (by lia) (by lia) (by lia) rfl λm' hm'=>?_;by_cases z:m'<m0
     ·exact hps m' z
     ·by_cases z2:m'=m1
      ·subst z2;refine⟨i,by rw[a4];exact a6,λe c x1 x2 x3=>jE ?_⟩;rw[hei] at x1;cases x1;cases x2;exact hk'.inj x3
      ·obtain⟨i',hi',hf⟩:=a8 m' (by lia) (by lia);refine⟨i',hi',λe c x1 x2 x3=>hf e x1 ?_⟩;obtain⟨c',kc,y1,y2,y3⟩:=vE i' e x1;rw[x2] at y1;cases y1;rw[y3,y2.inj x3]
    have yes:k'=ks->Q (.there none) s:=λhe=>there ⟨i,_,b',hei,rfl,by rw[<- he];exact hk'⟩;cases hl:t.led with
    |false=>
     simp only[VA,Xu];refine Za (xD0 hk ?_ seen);simp only[ZL,Yq];rw[hei];dsimp only;refine Za (Yu (wpAny_eqBool_tuple hu hk' hk ?_));by_cases jE:k'=ks
     ·rw[Zj jE];refine Za (YR ho hd g.fits ?_);dsimp only;simp only[Vj,Xu];exact Zf (yes jE)
     ·rw[Zp jE];refine Za (YR ho hd g.fits ?_);dsimp only;simp only[Va,ZL,Yq];rw[sm];dsimp only;simp only[Xu];rw[a5];dsimp only;rw[hei];dsimp only;refine Za (wpAny_isSame_ref_self ?_);refine Za (Zf ?_);simp only[Xu];exact nx jE
    |true=>
     simp only[WF,ZL,Yq];rw[hei];dsimp only;refine Za (Yu (wpAny_eqBool_tuple hu hk' hk ?_));by_cases jE:k'=ks
     ·rw[Zj jE];refine Za (YR ho hd g.fits ?_);dsimp only;simp only[Vj,Xu];exact Zf (yes jE)
     ·rw[Zp jE];refine Za (YR ho hd g.fits ?_);dsimp only;simp only[Va,ZL,Yq];rw[sm];dsimp only;simp only[Xu];rw[a5];dsimp only;rw[hei];dsimp only;refine Za (wpAny_isSame_ref_self ?_);refine Za (Zf ?_);simp only[Xu];exact nx jE
end
end SetT
namespace SetT
open PySem
theorem qY5 {mask:Nat}(P:Array (Option Nat)->Nat->Prop) (step:∀o K x j,P o K->SetTable.layClean.free mask o (SetTable.turns mask) (SetTable.bits x%(mask+1)) (SetTable.bits x)=some j->P (o.setIfInBounds j (some K)) (K+1)) :
  ∀(hs:List Int) (o o':Array (Option Nat)) (K K':Nat),P o K ->
  (hs.foldl (λ(acc:Option (Array (Option Nat)×Nat)) (h:Int)=>do
   let (owner,k) <- acc
   let j <- SetTable.layClean.free mask owner (SetTable.turns mask) (SetTable.bits h%(mask+1)) (SetTable.bits h)
   pure (owner.setIfInBounds j (some k),k+1)) (some (o,K)))=some (o',K')->P o' K'/\K'=K+hs.length
 |[],o,o',K,K',p,e=>by
  have:=Zw e;cases this;exact⟨p,rfl⟩
 |x::hs,o,o',K,K',p,e=>by
  rw[Z3] at e;have e3:(hs.foldl (λ(acc:Option (Array (Option Nat)×Nat)) (h:Int)=>do
     let (owner,k) <- acc
     let j <- SetTable.layClean.free mask owner (SetTable.turns mask) (SetTable.bits h%(mask+1)) (SetTable.bits h)
     pure (owner.setIfInBounds j (some k),k+1)) ((SetTable.layClean.free mask o (SetTable.turns mask) (SetTable.bits x%(mask+1)) (SetTable.bits x)).bind (λj=>some (o.setIfInBounds j (some K),K+1))))=some (o',K'):=e
  cases hf:SetTable.layClean.free mask o (SetTable.turns mask) (SetTable.bits x%(mask+1)) (SetTable.bits x) with
  |none=>
   exfalso;have no:∀l:List Int,(l.foldl (λ(acc:Option (Array (Option Nat)×Nat)) (h:Int)=>do
     let (owner,k) <- acc
     let j <- SetTable.layClean.free mask owner (SetTable.turns mask) (SetTable.bits h%(mask+1)) (SetTable.bits h)
     pure (owner.setIfInBounds j (some k),k+1)) none)=none:=λl=>by
    induction l with
    |nil=>rfl
    |cons a l ih=>rw[Z3];exact ih
   rw[hf] at e3;have e4:=no hs;rw[show (none:Option Nat).bind (λj=>some (o.setIfInBounds j (some K),K+1))=none from rfl,e4] at e3;cases e3
  |some j=>
   rw[hf] at e3;obtain⟨a,b⟩:=qY5 P step hs (o.setIfInBounds j (some K)) o' (K+1) K' (step o K x j p hf) e3;exact⟨a,by rw[b,Zy];lia⟩
theorem xf3 {mask:Nat}{hs:Array Int}{owner:Array (Option Nat)}(h:SetTable.layClean mask hs=some owner):owner.size=mask+1/\∀k,k<hs.size->∃j:Nat,owner[j]?=some (some k):=by
 unfold SetTable.layClean at h;rw[<- W3] at h;obtain⟨⟨o,K'⟩,e,rfl⟩:=Zr.mp h;obtain⟨⟨a,b⟩,c⟩:=qY5 (λo K=>o.size=mask+1/\∀k,k<K->∃j:Nat,o[j]?=some (some k)) (λo K x j p hf=>by
  obtain⟨p1,p2⟩:=p;obtain⟨m,h1,h2,h3,h4,h5⟩:=qG9 (mask:=mask) (owner:=o) (SetTable.turns mask) _ _ ((tm mask).probeStart x) j (Xm (Y8 _ (WY _))) ⟨rfl⟩ hf;have hjs:j<o.size:=by lia
  have ej:o.getD j (some 0)=o[j]:=by simp[Array.getD,hjs]
  rw[ej] at h4;refine⟨by rw[Wb];exact p1,λk hk=>?_⟩;by_cases z:k=K
  ·exact⟨j,by rw[Y2,Zt rfl,Zt hjs,z]⟩
  ·obtain⟨j',hj'⟩:=p2 k (by lia);refine⟨j',?_⟩;rw[Y2];by_cases y:j=j'
   ·subst y;rw[ZP hjs] at hj';rw[Zw hj'] at h4;cases h4
   ·rw[Zm y];exact hj') hs.toList _ o 0 K' ⟨by simp,λk hk=>absurd hk (Yj _)⟩ e
 refine⟨a,λk hk=>b k ?_⟩;rw[c,X8,ZZ];exact hk
theorem q40 {mask finger moves:Nat}{led plain:Bool}{hs:Array Int}{t:SetTable}{order:Array Nat}(e:SetTable.laid mask finger moves led plain hs=some (t,order)):∀k,k<hs.size->∃i:Nat,order[i]?=some k:=by
 unfold SetTable.laid at e;cases hl:SetTable.layClean mask hs with
 |none=>rw[hl] at e;cases e
 |some owner=>
  rw[hl] at e;have e:=Zw e;obtain⟨sz,cv⟩:=xf3 hl;obtain⟨h1,h2,h3⟩:=qT2 owner (mask+1);have eo:order=((((List.range (mask+1)).filterMap λj=>(owner.getD j none).map (λv=>(j,v))).map (·.2)).toArray):=(Prod.mk.inj e).2.symm;intro k hk;obtain⟨j,hj⟩:=cv k hk;have j7:=(ZF.mp hj).1;obtain⟨i,hi⟩:=h3 j k (by lia) hj;exact⟨i,by rw[eo,WC,Zg,hi];rfl⟩
end SetT
namespace SetT
open PySem PySem.Spec PyProof.Rows
section
variable {prog:Program}{w:World}{K:Type}[DecidableEq K]{knd:KeyKind prog w K}{A:Around}{E:Value->Shared->Prop}{s:Shared}
structure SetD (knd:KeyKind prog w K) (h:Heap) (a:Addr) (Ks:List (List K)):Prop where
 ex:∃o es ep t,h.get? a=some o/\o.ExactSet/\o.data=.set es ep t/\Good t (es.map (·.1))/\t.tooFull=false/\t.mask<=8*Ks.length+8/\es.size=Ks.length/\Ks.Nodup /\
  (∀(i:Nat) e,es[i]?=some e->∃b ks,e.2=.ref b/\ks∈Ks/\IsTupleKey knd h ks b/\e.1=tupleKeyHash knd ks)/\∀ks∈Ks,∃(i:Nat) (e:Int×Value) (b:Addr),es[i]?=some e/\e.2=.ref b/\IsTupleKey knd h ks b
theorem qz6 {α:Type}{xs:Array α}{p:Nat}(hp:p<=xs.size){x e:α}{i:Nat}(h:(SetTable.insertAt xs p x)[i]?=some e):e=x\/∃i':Nat,xs[i']?=some e:=by
 rw[qd1 _ _ hp] at h;split at h
 ·exact .inr ⟨_,h⟩
 ·split at h
  ·exact .inl (Zw h).symm
  ·exact .inr ⟨_,h⟩
theorem qz7 {α:Type}{xs:Array α}{p:Nat}(hp:p<=xs.size){x e:α}{i:Nat}(h:xs[i]?=some e):∃i':Nat,(SetTable.insertAt xs p x)[i']?=some e:=by
 by_cases z:i<p
 ·exact⟨i,by rw[qd1 _ _ hp,Zt z];exact h⟩
 ·exact⟨i+1,by rw[qd1 _ _ hp,Zm (by lia),Zm (by lia)];exact h⟩
theorem qO1 {α β:Type}(f:α->β) (xs:Array α) (p:Nat) (hp:p<=xs.size) (x:α):(SetTable.insertAt xs p x).map f=SetTable.insertAt (xs.map f) p (f x):=by
 apply Array.ext_getElem?
 intro i;rw[Xa,qd1 _ _ hp,qd1 _ _ (by rw[Yt];exact hp)];split
 ·rw[Xa]
 ·split
  ·rfl
  ·rw[Xa]
theorem Good.plain {t:SetTable}{hs:Array Int}(g:Good t hs) (b:Bool):Good { t with plain:=b } hs:=⟨⟨g.gr.pl,g.gr.du,g.gr.ma,g.gr.le⟩,g.ri,λi j x h1 h2=>by
 obtain⟨m,w1,w2,w3⟩:=g.wy i j x h1 h2;have e:t.mask=({ t with plain:=b }:SetTable).mask:=rfl;exact Way.more (t:=t) ⟨m,w1,w2,w3⟩ e λk hk=>hk⟩
theorem xo5 {a b:Addr}{ks:List K}{Ks:List (List K)}{Q:Bool->Shared->Prop}(hu:A.units<cLine) (S:SetD knd s.heap a Ks) (hk:IsTupleKey knd s.heap ks b) (hHb:∀o items m,s.heap.get? b=some o->o.data=.seq items m->∀v∈items.toList,Hb v)
  (hsz:Ks.length<1200) (old:ks∈Ks->Q false s) (q:ks∉Ks->∀h',Heap.SameBut a s.heap h'->SetD knd h' a (ks::Ks)->Q true { s with heap:=h' }) :
  wpAny (model prog w) A (setAddHashed a (.ref b) (tupleKeyHash knd ks)) Q E s:=by
 obtain⟨o,es,ep,t,ho,vD,hd,G,hf,kQ,hsize,wH,vE,hcv⟩:=S.ex;have g:Grown t es.size:=by have:=G.gr;rw[Yt] at this;exact this
 unfold setAddHashed setAddHashedIn;refine Yu (Za (YR ho hd g.fits ?_));dsimp only;have hby:byScan (.ref b) es=false:=rfl;rw[hby];simp only[ZL,Yq];obtain⟨m,hm,hslot⟩:=g.meets (tupleKeyHash knd ks);have hfu:m<100000:=by
  unfold SetTable.turns at hm;lia
 refine Za (xy3 hu ho hd G hk (λi e he=>?_) (λjL=>?_) (λj wR hway hnj=>?_) hm hslot m 0 100000 none (by lia) (ZB _) hfu rfl λm' hm'=>absurd hm' (Yj _))
 ·obtain⟨b',ks',e1,e2,e3,e4⟩:=vE i e he;exact⟨b',ks',e1,e3,e4⟩
 ·dsimp only;refine Zf (old ?_);obtain⟨i,e,b',x1,x2,x3⟩:=jL;obtain⟨b'',ks',e1,e2,e3,e4⟩:=vE i e x1;rw[x2] at e1;cases e1;rw[x3.inj e3];exact e2
 have hnew:ks∉Ks:=λz=>by
  obtain⟨i,e,b',x1,x2,x3⟩:=hcv ks z;exact wR i e b' x1 x2 x3
 replace q:=q hnew
 dsimp only;refine Za (YR ho hd g.fits ?_);dsimp only;have G1:=G.put hf hnj hway;have k8:(t.put j).2<=es.size:=by
  have:=(qv4 G.ri j).1;rw[g.pl] at this;exact this
 have ep1:(SetTable.insertAt es (t.put j).2 (tupleKeyHash knd ks,Value.ref b)).map (·.1)=SetTable.insertAt (es.map (·.1)) (t.put j).2 (tupleKeyHash knd ks):=qO1 _ _ _ k8 _;rw[<- ep1] at G1;have hmk0:(t.put j).1.mask=t.mask:=rfl;generalize hp:t.put j=tp at G1 k8 hmk0;obtain⟨t1,p⟩:=tp;dsimp only at G1 k8 hmk0 ⊢;have hmk1:t1.mask=t.mask:=hmk0;have hba:b≠a:=qx8 hk ho hd;have mem1:∀{h1:Heap},Heap.SameBut a s.heap h1->∀(i:Nat) e,(SetTable.insertAt es p (tupleKeyHash knd ks,Value.ref b))[i]?=some e->∃b' ks',e.2=.ref b'/\ks'∈ks::Ks/\IsTupleKey knd h1 ks' b'/\e.1=tupleKeyHash knd ks':=λ{h1} hs i e he=>by
  rcases qz6 k8 he with rfl|⟨i',he⟩
  ·exact⟨b,ks,rfl,Zh,qp4 hk hba hs,rfl⟩
  ·obtain⟨b',ks',e1,e2,e3,e4⟩:=vE i' e he;exact⟨b',ks',e1,Ze _ e2,qp4 e3 (qx8 e3 ho hd) hs,e4⟩
 have cov1:∀{h1:Heap},Heap.SameBut a s.heap h1->∀ks'∈ks::Ks,∃(i:Nat) (e:Int×Value) (b':Addr),(SetTable.insertAt es p (tupleKeyHash knd ks,Value.ref b))[i]?=some e/\e.2=.ref b'/\IsTupleKey knd h1 ks' b':=λ{h1} hs ks' hks'=>by
  rcases ZC.mp hks' with rfl|hks'
  ·exact⟨p,_,b,by rw[qd1 _ _ k8,Zm (Yk _),Zt rfl],rfl,qp4 hk hba hs⟩
  ·obtain⟨i,e,b',x1,x2,x3⟩:=hcv ks' hks';obtain⟨i',hi'⟩:=qz7 k8 (x:=(tupleKeyHash knd ks,Value.ref b)) x1;exact⟨i',e,b',hi',x2,qp4 x3 (qx8 x3 ho hd) hs⟩
 have nd1:(ks::Ks).Nodup:=YJ.mpr ⟨hnew,wH⟩;have sz1:(SetTable.insertAt es p (tupleKeyHash knd ks,Value.ref b)).size=es.size+1:=qj9 _ _ _;have szK:es.size+1=(ks::Ks).length:=by rw[Zy,hsize]
 have room:es.size+1<=sizeLine:=by rw[Xj];lia
 have tail:∀t2:SetTable,Good t2 ((SetTable.insertAt es p (tupleKeyHash knd ks,Value.ref b)).map (·.1))->t2.mask=t.mask->wpAny (model prog w) A (do
   storeSet a (SetTable.insertAt es p (tupleKeyHash knd ks,Value.ref b)) t2
   if (!false&&t2.tooFull)=true then do
     setRelay a (SetTable.grown (es.size+1))
     pure true
    else pure true) Q E s:=λt2 G2 wS=>by
  have g2:Grown t2 (es.size+1):=by have:=G2.gr;rw[Yt,sz1] at this;exact this
  refine Za (wpAny_storeSet_of ho hd ?_ (by rw[sz1];exact room));have ho1:=q89 (es':=SetTable.insertAt es p (tupleKeyHash knd ks,Value.ref b)) (t':=t2) ho hd;have hs1:=Y3 s.heap a (Obj.putSet (SetTable.insertAt es p (tupleKeyHash knd ks,Value.ref b)) t2);cases ht:t2.tooFull with
  |false=>
   simp only[Va,ZL,Yq];refine Zf (q _ hs1 ⟨_,_,_,t2,ho1,vD,rfl,G2,ht,by rw[Zy];lia,by rw[sz1];exact szK,nd1,mem1 hs1,cov1 hs1⟩)
  |true=>
   simp only[VA,Vj,Xu];refine Za ?_;unfold setRelay;refine Za (YR ho1 rfl (by rw[sz1];exact g2.fits) ?_);dsimp only;have gw:SetTable.grown (es.size+1)=(es.size+1)*4:=by
    unfold SetTable.grown;rw[Zm (by lia)]
   obtain⟨k,ek,_,_,hk3⟩:=qt7 (n:=SetTable.grown (es.size+1)) (by rw[gw];lia);rw[Zm (by rw[ek,Xj];rw[gw] at hk3;lia)];obtain⟨t3,order,er,g3,hw1,hw2,_,eo,ev⟩:=qR2 (t:=t2) (hs:=(SetTable.insertAt es p (tupleKeyHash knd ks,Value.ref b)).map (·.1)) (wanted:=SetTable.grown (es.size+1)) (by rw[gw];lia) (by rw[Yt,sz1,gw];lia);have G3:=xf2 er g3 ev eo;have cv3:=q40 er;rw[Yt] at g3 eo ev cv3;rw[er];have es2:(order.filterMap ((SetTable.insertAt es p (tupleKeyHash knd ks,Value.ref b))[·]?)).size=es.size+1:=by rw[ql2 ev,eo,sz1]
   refine Za ?_;show wpAny _ _ (if ((order.filterMap ((SetTable.insertAt es p (tupleKeyHash knd ks,Value.ref b))[·]?)).size != (SetTable.insertAt es p (tupleKeyHash knd ks,Value.ref b)).size)=true then _ else _) _ _ _;rw[Zm (by rw[es2,sz1];simp)];refine Zf ?_;dsimp only;refine wpAny_storeSet_of ho1 rfl ?_ (by rw[es2];exact room);have ho2:=q89 (es':=order.filterMap ((SetTable.insertAt es p (tupleKeyHash knd ks,Value.ref b))[·]?)) (t':=t3) ho1 rfl;have hs2:=hs1.trans (Y3 _ a (Obj.putSet (order.filterMap ((SetTable.insertAt es p (tupleKeyHash knd ks,Value.ref b))[·]?)) t3));have emap:(order.filterMap ((SetTable.insertAt es p (tupleKeyHash knd ks,Value.ref b))[·]?)).map (·.1)=order.filterMap (((SetTable.insertAt es p (tupleKeyHash knd ks,Value.ref b)).map (·.1))[·]?):=by
    apply Array.ext_getElem?
    intro i;rw[Xa];by_cases hi:i<order.size
    ·have ei:order[i]?=some order[i]:=ZP hi;rw[qz5 ev ei,qz5 (by rw[Yt];exact ev) ei,Xa]
    ·rw[XG (by rw[ql2 ev];lia),XG (by rw[ql2 (by rw[Yt];exact ev)];lia)]
     rfl
   refine Zf (q _ hs2 ⟨_,_,_,t3,ho2,vD,rfl,by rw[emap];exact G3,?_,?_,by rw[es2];exact szK,nd1,λi e he=>?_,λks' hks'=>?_⟩)
   ·unfold SetTable.tooFull;rw[g3.fill,sz1];rw[gw] at hw1;exact Zp (by lia)
   ·rw[gw] at hw2;rw[<- szK];lia
   ·have hi:i<order.size:=by
     have:=(ZF.mp he).1;rw[ql2 ev] at this;exact this
    rw[qz5 ev (ZP hi)] at he;exact mem1 hs2 _ e he
   ·obtain⟨i,e,b',x1,x2,x3⟩:=cov1 hs2 ks' hks';obtain⟨i',hi'⟩:=cv3 i (ZF.mp x1).1;exact⟨i',e,b',by rw[qz5 ev hi'];exact x1,x2,x3⟩
 cases jF:t1.plain with
 |false=>
  simp only[ZL,Yq];refine Za (Zf ?_);simp only[Xu];exact tail t1 G1 hmk1
 |true=>
  simp only[Xu];obtain⟨ob,items,nn,kF,kB,y7,_⟩:=id hk;refine Za (qK4 kF kB y7 (hHb _ _ _ kF y7) λc=>?_);cases c with
  |true=>
   simp only[Xu];exact tail t1 G1 hmk1
  |false=>
   simp only[ZL,Yq];exact tail { t1 with plain:=false } (G1.plain false) hmk1
theorem SetD.at {h h':Heap}{a:Addr}{Ks:List (List K)}(S:SetD knd h a Ks) (k:∀b o,h.get? b=some o->h'.get? b=some o\/b≠a/\¬∃ks,IsTupleKey knd h ks b):SetD knd h' a Ks:=by
 obtain⟨o,es,ep,t,ho,vD,hd,G,hf,kQ,hn,wH,vE,hcv⟩:=S.ex;have kp:∀ks b,IsTupleKey knd h ks b->IsTupleKey knd h' ks b:=λks b e3=>by
  obtain⟨o',items,n',ho',r⟩:=id e3;rcases k b o' ho' with z|z
  ·exact⟨o',items,n',z,r⟩
  ·exact absurd ⟨ks,e3⟩ z.2
 refine⟨o,es,ep,t,?_,vD,hd,G,hf,kQ,hn,wH,λi e he=>?_,λks hks=>?_⟩
 ·rcases k a o ho with z|z
  ·exact z
  ·exact absurd rfl z.1
 ·obtain⟨b,ks,e1,e2,e3,e4⟩:=vE i e he;exact⟨b,ks,e1,e2,kp _ _ e3,e4⟩
 ·obtain⟨i,e,b,x1,x2,x3⟩:=hcv ks hks;exact⟨i,e,b,x1,x2,kp _ _ x3⟩
end
section
variable {prog:Program}{w:World}{K:Type}[DecidableEq K]{knd:KeyKind prog w K}
variable {A:Around}{R:Result->Shared->Prop}{I:Addr}{fp wr:List Addr}{G:Array GenState->Array GenState->Prop}{n:Nat}{P:Nat->Value->Prop}{St:Nat->Shared->Prop}
def seen (val:Nat->List K):Nat->List (List K)
 |0=>[]
 |i+1=>if val i∈seen val i then seen val i else val i::seen val i
theorem seen_length (val:Nat->List K):∀i,(seen val i).length<=i
 |0=>Zd _
 |i+1=>by
  have:=seen_length val i;unfold seen;split
  ·lia
  ·rw[Zy];lia
theorem xf4 (val:Nat->List K):∀i j,j<i->val j∈seen val i
 |0,j,h=>absurd h (Yj _)
 |i+1,j,h=>by
  unfold seen;by_cases e:j=i
  ·subst e;split
   ·assumption
   ·exact Zh
  ·have:=xf4 val i j (by lia);split
   ·exact this
   ·exact Ze _ this
theorem qY6 (val:Nat->List K):∀i ks,ks∈seen val i->∃j,j<i/\ks=val j
 |0,ks,h=>by cases h
 |i+1,ks,h=>by
  unfold seen at h;have up:ks∈seen val i->∃j,j<i+1/\ks=val j:=λz=>let ⟨j,a,b⟩:=qY6 val i ks z;⟨j,by lia,b⟩;split at h
  ·exact up h
  ·rcases ZC.mp h with rfl|h
   ·exact⟨i,Z2 _,rfl⟩
   ·exact up h
theorem seen_full (val:Nat->List K):∀i,(seen val i).length=i<->∀a b,a<b->b<i->val a≠val b
 |0=>⟨λ_ a b _ h=>absurd h (Yj _),λ_=>rfl⟩
 |i+1=>by
  have ih:=seen_full val i;have hl:=seen_length val i;unfold seen;by_cases h:val i∈seen val i
  ·rw[Zt h];refine⟨λe=>by lia,λe=>?_⟩;obtain⟨j,hj,ej⟩:=qY6 val i _ h;exact absurd ej.symm (e j i hj (Z2 _))
  ·rw[Zm h,Zy];refine⟨λe a b vS hb=>?_,λe=>?_⟩
   ·by_cases eb:b=i
    ·subst eb;intro z;exact h (by rw[<- z];exact xf4 val b a vS)
    ·exact ih.mp (by lia) a b vS (by lia)
   ·have:=ih.mpr λa b vS hb=>e a b vS (by lia);lia
theorem q41 (W:WalksS prog w A.in1 I fp wr G n P St) (S:Addr) (hSf:S∉fp) (val:Nat->List K) (hn:n<=1200) (hu:A.in1.units<cLine)
  (nt:∀i s,St i s->xJ2 knd wr s.heap) :
  ∀(k i:Nat) (s:Shared),n-i=k->i<=n->St i s->xw4 knd S wr P val s.heap->SetD knd s.heap S (seen val i) ->
   (∀s',Moved (S::wr) G s s'->SetD knd s'.heap S (seen val n)->R (.ok (.ret .none)) s') ->
   codeAny (model prog w) A (.builtin "set.update.loop" ⟨[.ref S,.ref I],[]⟩) R s:=by
 have hSw:S∉wr:=λz=>hSf (W.sub _ z);have up:∀b∈wr,b∈S::wr:=λb hb=>Ze _ hb;have stays:∀{i:Nat}{s s':Shared}{Ks:List (List K)},St i s->Moved wr G s s'->SetD knd s.heap S Ks->SetD knd s'.heap S Ks:=λ{i s s' Ks} st mv S0=>S0.at λb o e=>by
  by_cases hb:b∈wr
  ·exact .inr ⟨λz=>hSw (by rw[<- z];exact hb),nt i s st b hb⟩
  ·exact .inl (mv.heap b o hb e)
 intro k
 induction k with
 |zero=>
  intro i s hk hi st its hS hR;have jL:i=n:=by lia
  subst jL;refine Y0 X9 ?_;rw[Xo YC _];show wpAny _ A.in1 (pyNext (.ref I) >>= _) _ _ s;refine Za (W.done s _ _ st λs' mv=>?_);show wpAny _ A.in1 (ret Value.none) _ _ s';exact Zf (hR s' (mv.mono up) (stays st mv hS))
 |succ k ih=>
  intro i s hk hi st its hS hR;have j7:i<n:=by lia
  refine Y0 X9 ?_;rw[Xo YC _];show wpAny _ A.in1 (pyNext (.ref I) >>= _) _ _ s;refine Za (W.item i s _ _ j7 st λv s' hP st' mv=>?_);obtain⟨b,rfl,hbS,hbw,hb⟩:=its i v hP;have hb':TupK knd s'.heap (val i) b:=hb.at λo e=>mv.heap b o hbw e;have S1:SetD knd s'.heap S (seen val i):=stays st mv hS;have ln:=seen_length val i;show wpAny _ A.in1 (holding [Value.ref b] (setAdd S (.ref b)) >>= _) _ _ s';refine Za (Yu ?_);unfold setAdd;refine Yu ?_;refine Za (wpAny_pyHash_tuple hu hb'.key ?_);refine xo5 (s:={ s' with toks:=s'.toks+((val i).length+1) }) hu S1 hb'.key hb'.hb (by lia) (λjL=>?_) λhnew h' hsb S2=>?_
  ·have its':xw4 knd S wr P val s'.heap:=λj u hPj=>by
    obtain⟨c,rfl,h1,h2,h3⟩:=its j u hPj;exact⟨c,rfl,h1,h2,h3.at λo e=>mv.heap c o h2 e⟩
   refine Zf ⟨Vi YC _,ih (i+1) _ (by lia) j7 (W.frame _ s' _ _ st' (ZO _ _) λc hc o e=>e) its' ?_ λs'' mv'' fin=>?_⟩
   ·show SetD knd s'.heap S (if val i∈seen val i then seen val i else val i::seen val i);rw[Zt jL];exact S1
   ·exact hR s'' (Moved.trans W.gtrans ((mv.mono up).then_heap (ZO _ _) λc o hc e=>e) mv'') fin
  ·have its':xw4 knd S wr P val h':=λj u hPj=>by
    obtain⟨c,rfl,h1,h2,h3⟩:=its j u hPj;exact⟨c,rfl,h1,h2,(h3.at λo e=>mv.heap c o h2 e).at λo e=>(hsb.2 c h1).trans e⟩
   refine Zf ⟨Vi YC _,ih (i+1) _ (by lia) j7 (W.frame _ s' _ _ st' (ZO _ _) λc hc o e=>?_) its' ?_ λs'' mv'' fin=>?_⟩
   ·rw[hsb.2 c (λz:c=S=>hSf (by rw[<- z];exact hc))];exact e
   ·show SetD knd h' S (if val i∈seen val i then seen val i else val i::seen val i);rw[Zm hnew];exact S2
   ·refine hR s'' (Moved.trans W.gtrans ((mv.mono up).then_heap (ZO _ _) λc o hc e=>?_) mv'') fin;rw[hsb.2 c (λz:c=S=>hc (by rw[z];exact Zh))];exact e
end
section
variable {prog:Program}{w:World}{K:Type}[DecidableEq K]{knd:KeyKind prog w K}{A:Around}{E:Value->Shared->Prop}{s:Shared}
theorem q42 {h:Heap}{a:Addr}{led:Bool}(e:h.get? a=some (newS led)):SetD knd h a []:=
 ⟨_,#[],0,.fresh 0 0 led,e,⟨rfl,rfl,rfl⟩,rfl,⟨⟨(by rw[Yt];rfl),rfl,⟨3,rfl,by decide⟩,(by rw[Yt];exact ZB _)⟩,λi j hi=>absurd hi (Yj _),λi j x h=>by have:(#[]:Array Nat)[i]?=some j:=h;simp at this⟩,by rfl,(by show 7<=8*0+8;decide),rfl,W1,λi e he=>by simp at he,λks h=>nomatch h⟩
theorem call_set_tuple2 {l:Addr}{items:Array Value}{val:Nat->List K}{Q:Value->Shared->Prop}(hh:A.handled=none) (hu:A.units+8<cLine) (hl:s.heap.IsTuple l items)
  (hi:∀(i:Nat) (v:Value),items[i]?=some v->∃b,v=.ref b/\TupK knd s.heap (val i) b) (hb:items.size<=1200)
  (h:∀(h':Heap) (tk:Nat),SetD knd h' s.heap.objs.size (seen val items.size)->(∀b o,b<s.heap.objs.size->s.heap.get? b=some o->h'.get? b=some o)->Q (.ref s.heap.objs.size) { s with heap:=h',toks:=tk }) :
  wpAny (model prog w) A (call (.type "set") [.ref l]) Q E s:=by
 obtain⟨c,tl,hmro⟩:=F.called_set.mro;have made0:=F.called_set.made;have sub0:=F.called_set.sub;refine wpAny_call (codeAny_of_tree ?_);show wpAny _ _ (callAny (.type "set") _) _ _ _;refine Zf ⟨Code.quiet_builtin _ (by decide +kernel),Y0 F.entry_type_call ?_⟩;rw[Around.under_plain (weight_type_call_type "set" [.ref l] []) rfl];have f1:=F.called_set.notType;have f2:=F.called_set.canCreate;have f3:=F.typeCall_set_1 (.ref l)
 repeat (any_goals first|assumption|wp_step)
 refine X6 (code_set_new_1 (.ref l) (E:=E) (Q₁:=λobj s₁=>∃led:Bool,obj=.ref s.heap.objs.size/\s₁={ s with heap:=s.heap.push (newS led) }) λled=>⟨led,rfl,rfl⟩) λr s₁ hr=>?_;cases r with
 |error e=>exact hr
 |ok fl=>
  cases fl with
  |ret obj=>
   obtain⟨led,rfl,rfl⟩:=hr;have hS:(s.heap.push (newS led)).get? s.heap.objs.size=some (newS led):=Zk _ rfl;have hT:Shared.TypeIs { s with heap:=s.heap.push (newS led) } (.ref s.heap.objs.size) "set":=⟨_,hS,rfl⟩;have i1:=F.called_set.init.lookup;have i2:=F.called_set.init.bind (.ref s.heap.objs.size)
   repeat (any_goals first|assumption|wp_step)
   refine X6 (WI (R:=wants (λr s₂=>r=.none/\∃h' tk,s₂={ s with heap:=h',toks:=tk }/\SetD knd h' s.heap.objs.size (seen val items.size) /\
     (∀b o,b<s.heap.objs.size->s.heap.get? b=some o->h'.get? b=some o)) E) F.called_set.init.plain F.entry_set_init (check_set_init_1 hT ?_)) λr₂ s₂ hr₂=>?_
   ·obtain⟨ol,hol,hcl,nl,hdl⟩:=id hl;obtain⟨ocls,odict,odata,oslots⟩:=ol;simp only at hcl hdl;subst hcl;subst hdl;have hol':(s.heap.push (newS led)).get? l=some { cls:=.type "tuple",dict:=odict,data:=.seq items nl,slots:=oslots }:=Zc _ hol;have st1:=F.sub_tuple_set;have st2:=F.sub_tuple_frozenset;have ned:(Value.type "tuple" == Value.type "dict")=false:=by decide
    have hl1:(s.heap.push (newS led)).IsTuple l items:=⟨_,hol',rfl,nl,rfl⟩;unfold Builtin.«set.__init__» noKeywords Builtin.Frozenset.updateFrom;generalize hPI:pyIter=PI
    wp_walk
    subst hPI;refine Wl hl1 ?_;refine Za (wpAny_runValue ?_);have hlS:l<s.heap.objs.size:=Zl hol;have hsz:(s.heap.push (newS led)).objs.size=s.heap.objs.size+1:=Yp _ _;have hneI:l≠(s.heap.push (newS led)).objs.size:=by rw[hsz];exact Zx (YD hlS)
    have hSf:s.heap.objs.size∉[(s.heap.push (newS led)).objs.size,l]:=by
     rw[hsz];simp only[ZC,Vq,or_false,not_or];exact⟨Zx (Z2 _),XZ hlS⟩
    refine q41 (knd:=knd) ((Walks.tuple (by simp[hh]) _ l hneI items).toS) s.heap.objs.size hSf val hb (by show A.units+1+1+1<cLine;lia) (λi s' st b hbw=>?_) (items.size-0) 0 _ (by lia) (ZB _)
     ⟨⟨_,Zk _ rfl,rfl,rfl⟩,hl1.push _⟩ (λi v hv=>?_) (q42 (Zc _ hS)) λs' mv fin=>?_
    ·rintro⟨ks,o',its',n',e1,e2,e3,_⟩;have:b=(s.heap.push (newS led)).objs.size:=by simpa using hbw
     subst this;obtain⟨oi,x1,x2,x3⟩:=st.1;rw[x1] at e1;cases e1;rw[x2] at e2;injection e2 with e2
     exact absurd e2 (by decide)
    ·obtain⟨b,rfl,hb'⟩:=hi i v hv;have j7:b<s.heap.objs.size:=by obtain⟨o',_,_,e1,_⟩:=hb';exact Zl e1
     refine⟨b,rfl,Zx j7,(by rw[hsz];simp only[ZC,Vq,or_false];exact Zx (YD j7)),hb'.at λo e=>Zc _ (Zc _ e)⟩
    ·obtain⟨h',g',d',tk',os'⟩:=s';have eg:g'=s.gens:=mv.gens;have ed:d'=s.drawn:=mv.drawn;have eo:os'=s.os:=mv.os;subst eg;subst ed;subst eo;show wpAny _ _ _ _ _ _;refine Zf ?_;show wpAny _ _ (ret Value.none) _ _ _;refine Zf ⟨rfl,h',tk',rfl,fin,λb o j7 e=>?_⟩;exact mv.heap b o (by rw[hsz];simp only[ZC,Vq,or_false,not_or];exact⟨Zx j7,Zx (YD j7)⟩) (Zc _ (Zc _ e))
   ·cases r₂ with
    |error e=>exact hr₂
    |ok fl₂=>
     cases fl₂ with
     |ret r=>
      obtain⟨rfl,h',tk,rfl,fin,kp⟩:=hr₂
      repeat (any_goals first|assumption|wp_step)
      exact h _ _ fin kp
     |_=>exact hr₂.elim
  |_=>exact hr.elim
end
end SetT
namespace L2
open PySem PySem.Spec PyProof.Rows
section
variable {X:Cx}
theorem q43 (hc:X.calm=true){k:Nat}(hr:Room k X.A):qg3 X (.type "set") (λxs H Q=>∃(p:Addr) (bs:List Addr) (rows:List (List Key)),xs=[.ref p]/\H p=some (.tup (bs.map V.ref))/\bs.length=rows.length /\
  (∀(i:Nat) b ks,bs[i]?=some b->rows[i]?=some ks->H b=some (.tup (ks.map kV)))/\rows.length<=1200/\∀r n,H r=none->n<=rows.length->(n=rows.length<->rows.Nodup)->Q (.ref r) (upd H r (.ext (SetN r n)))):=by
 intro j4 s σ H xs us Q I rv h;obtain⟨p,bs,rows,rfl,hp,j6,jB,hsz,q⟩:=h;obtain⟨u,rfl,ru⟩:=qi3 rv;cases ru;obtain⟨_,its,r2,isT⟩:=I.hok p _ hp;have jP:its.length=bs.length:=by have:=r2.length;simpa using this.symm
 have un:=hr.units;have item:∀(i:Nat) (v:Value),its[i]?=some v->∃b,bs[i]?=some b/\v=.ref b:=λi v hv=>by
  have hi:i<bs.length:=by rw[<- jP];exact (gS_ hv).1
  obtain⟨w',e1,e2⟩:=r2.get (i:=i) (x:=V.ref bs[i]) (by simp[hi]);rw[hv] at e1;cases e1;exact⟨bs[i],by simp[hi],e2⟩
 refine SetT.call_set_tuple2 (knd:=qd5 X.prog X.w) (items:=its.toArray) (val:=λi=>rows.getD i []) (I.ok.hd hc) (by lia) (show s.heap.IsTuple p its.toArray from isT) (λi v hv=>?_) (by rw[ZI,jP,j6];exact hsz) λh' tk fin kp=>?_
 ·obtain⟨b,hb,rfl⟩:=item i v (by simpa using hv);have hi:i<rows.length:=by rw[<- j6];exact (gS_ hb).1
  have e:rows.getD i []=rows[i]:=by simp[List.getD,hi]
  show ∃b',Value.ref b=.ref b'/\SetT.TupK _ s.heap (rows.getD i []) b';rw[e];exact⟨b,rfl,xw5 I.hok (jB i b rows[i] hb (by simp[hi]))⟩
 ·obtain⟨o,es,ep,t,ho,vD,hd,G,hf,_,hn,_⟩:=fin.ex;have g:SetT.Grown t es.size:=by have:=G.gr;rw[Yt] at this;exact this
  have hz:its.toArray.size=rows.length:=by rw[ZI,jP,j6]
  rw[hz] at hn;refine⟨.ref s.heap.objs.size,_,I.laid (a:=s.heap.objs.size) (o:=.ext (SetN s.heap.objs.size (SetT.seen (λi=>rows.getD i []) rows.length).length)) (t':=tk) (λb o e=>kp b o (Zl e) e) (Zd _) ⟨⟨o,es,ep,t,ho,vD,hd,g.fits,hn⟩,⟨o,ho⟩,λh1 h2 φ k=>?_⟩,rfl,q _ _ (I.hok.fresh (Zd _)) (SetT.seen_length _ _) ((SetT.seen_full _ _).trans ?_)⟩
  ·obtain⟨o',es',ep',t',ho',r⟩:=φ;exact⟨o',es',ep',t',k o' ho',r⟩
  ·constructor
   ·intro h;rw[List.nodup_iff_pairwise_ne,Vb];intro i j hi hj kD z;refine h i j kD hj ?_;show rows.getD i []=rows.getD j [];simp[List.getD,hi,hj,z]
   ·intro h i j kD hj z;have hi:i<rows.length:=by lia
    have z':rows.getD i []=rows.getD j []:=z;have e1:rows.getD i []=rows[i]:=by simp[List.getD,hi]
    have e2:rows.getD j []=rows[j]:=by simp[List.getD,hj]
    rw[e1,e2] at z';have:=(List.getElem_inj h).mp z';lia
end
end L2
namespace Pr
open PySem L2 Qf
theorem keys_nodup_iff {rows:List Row}:(rows.map keyN).Nodup<->rows.Nodup:=by
 refine⟨λh=>?_,qC1⟩;rw[nd_iff] at h ⊢;intro i j kD hj z;refine h i j kD (by rw[Zi];exact hj) ?_;rw[Zg,Zg,z]
section
variable {P:Program}{w:World}{K:PySem.W.Frag}{mg:Str->Option Value}{base:Heap}
def qt1:Sp:=λvs H Q _=>∃(t:Addr) (n tp:Nat) (rows:List Row),vs=[.ref t]/\TellAt H t n tp rows/\n<=12/\qb7 rows/\rows.length<=990/\tp<rows.length+2/\∀H',Same H H'->Q (.bl (decide (dp rows tp<=n))) H'
theorem qT3 {f fS fR fN fD:Addr}{fd fdS fdR fdN fdD:FuncData}(F:Fun K "is_telling" "is_telling" qm5 f fd) (B:Blt mg)
  (hS:mg "is_size" = some (.ref fS)) (FS:Fun K "is_size" "is_size" q32 fS fdS) (bS:Binds K fdS ["thing"] []) (GS:FnOk P w K mg base CX0 2 fS fdS ["thing"] xr8)
  (hR:mg "are_rows" = some (.ref fR)) (FR:Fun K "are_rows" "are_rows" qM3 fR fdR) (bR:Binds K fdR ["thing"] []) (GR:FnOk P w K mg base CX0 4 fR fdR ["thing"] xs1)
  (hN:mg "is_number" = some (.ref fN)) (FN:Fun K "is_number" "is_number" ql5 fN fdN) (bN:Binds K fdN ["thing", "many"] []) (GN:FnOk P w K mg base CX0 2 fN fdN ["thing", "many"] qF9)
  (hD:mg "depths_of" = some (.ref fD)) (FD:Fun K "depths_of" "depths_of" q31 fD fdD) (bD:Binds K fdD ["rows"] []):FnOk P w K mg base CX0 5 f fd ["thing"] qt1:=by
 have GD:FnOk P w K mg base CX0 1 fD fdD ["rows"] xc4:=xc5 FD B;refine F.ok scTelling (λvs H Q E h=>?_) (λcdv A outer s H vs Q E hr h=>?_)
 ·obtain⟨t,n,tp,rows,rfl,_⟩:=h
  rfl
 ·obtain⟨t,n,tp,rows,rfl,⟨p,ht,jS⟩,hn,ok,hl,kN,q⟩:=h;have jD:Room 1 _:=hr.mono (by decide);have jZ:Room 2 _:=hr.mono (by decide);refine⟨_,qb6 (qc9 (qj6 (qh2 (qe3 (qa6 qd6 (by rfl) B.isi ZA (qa0 (pv 0) (qa0 (qh0 (v:=.ty "tuple") (by rfl) B.tuple ZH rfl) qa2)))))
    (qg7 (qb2 qw6 (qa6 qb9 (by rfl) B.len ZM (qa0 (pv 0) qa2)) qa5 (qb4 _)))).pt (qa8 (qa9 qk8)) qb1)
   (qb6 (qk5 (pv 0) (qo5 rfl (qb8 (pgN 1 scTelling.nd) (qb8 (pgN 2 scTelling.nd) (qb8 (pgN 3 scTelling.nd) qj7)))))
   (qb6 (qc9 (qj6 (qh2 (qe3 (pcN GS jZ hS FS.kp bS (qa0 (pv 1) qa2))))
    (qj6 (qh2 (qe3 (pcN GR hr hR FR.kp bR (qa0 (pv 3) qa2))))
    (qg7 (qh2 (qe3 (pcN GN jZ hN FN.kp bN (qa0 (pv 2) (qa0 (qa6 qb9 (by rfl) B.len ZM (qa0 (pv 3) qa2)) qa2)))))))).pt (qa8 (qa9 qk8)) qb1)
   (qa8 (qa9 (qf7 qr9 (pxN ix_list (pcN GD jD hD FD.kp bD (qa0 (pv 3) qa2)) (pv 2)) (pv 1) (qb4 _)))))),?_⟩
  refine⟨_,rfl,_,_,_,_,true,rfl,rfl,.inl (.tup ht),rfl,_,rfl,iteF ⟨_,rfl,t,_,rfl,.inr (SqT.of ht),rfl,_,rfl,iteF ?_⟩⟩;refine⟨_,rfl,t,_,rfl,SqT.of ht,rfl,_,_,rfl,_,_,rfl,_,_,rfl,rfl,?_⟩;refine⟨_,rfl,n,rfl,hn,_,rfl,iteF ⟨_,rfl,p,rows,rfl,jS,ok,hl,λH2 s2=>⟨_,rfl,iteF ?_⟩⟩⟩;obtain⟨bs,hp,j6,jB⟩:=id jS;refine⟨_,rfl,_,rfl,p,_,rfl,.inr (SqT.of (s2 _ _ hp)),tp,rows.length,by rw[Zi,j6];rfl,kN,_,rfl,iteF ?_⟩;refine⟨_,rfl,p,rows,rfl,jS.same s2,ok,hl,λH3 D s3 jV=>?_⟩;refine⟨_,rfl,D,_,(tp:Int),.int (dp rows tp:Nat),rfl,rfl,SqL.of jV,qu0 (xr9 kN),_,rfl,_,_,rfl,rfl,?_⟩;show Q (V.bl (decide ((dp rows tp:Int)<=(n:Int)))) H3;have e:decide ((dp rows tp:Int)<=(n:Int))=decide (dp rows tp<=n):=by
   by_cases z:dp rows tp<=n
   ·rw[Zj z,Zj (by lia)]
   ·rw[Zp z,Zp (by lia)]
  rw[e];exact q H3 (s2.trans s3)
def qH0:Sp:=λvs H Q _=>∃(t:Addr) (n tp:Nat) (rows:List Row),vs=[.ref t]/\TellAt H t n tp rows/\n<=12/\qb7 rows/\rows.length<=990/\tp<rows.length+2/\∀(b:Bool) H',(b=true<->Canon n tp rows)->Same H H'->Q (.bl b) H'
theorem xf5 {f fT fP fA:Addr}{fd fdT fdP fdA:FuncData}(F:Fun K "is_shape" "is_shape" qB5 f fd) (B:Blt mg) (T:Cst mg)
  (hT:mg "is_telling" = some (.ref fT)) (FT:Fun K "is_telling" "is_telling" qm5 fT fdT) (bT:Binds K fdT ["thing"] []) (GT:FnOk P w K mg base CX0 5 fT fdT ["thing"] qt1)
  (hP:mg "is_plain" = some (.ref fP)) (FP:Fun K "is_plain" "is_plain" qy3 fP fdP) (bP:Binds K fdP ["row"] [])
  (hA:mg "places_as_ended" = some (.ref fA)) (FA:Fun K "places_as_ended" "places_as_ended" qy4 fA fdA) (bA:Binds K fdA ["rows", "top"] []) (GA:∀d,FnOk P w K mg base CX0 (d+2) fA fdA ["rows", "top"] (qv2 d)):FnOk P w K mg base CX0 15 f fd ["thing"] qH0:=by
 have GP:FnOk P w K mg base CX0 2 fP fdP ["row"] qS4:=qX2 FP T;refine F.ok scShape (λvs H Q E h=>?_) (λcdv A outer s H vs Q E hr h=>?_)
 ·obtain⟨t,n,tp,rows,rfl,_⟩:=h
  rfl
 ·obtain⟨t,n,tp,rows,rfl,hTell,hn,ok,hl,kN,q⟩:=h;obtain⟨p,ht,jS⟩:=id hTell;obtain⟨bs,hp,j6,jB⟩:=id jS;have jZ:Room 2 _:=hr.mono (by decide);have hr5:Room 5 _:=hr.mono (by decide);have hrA:Room (n+2) _:=hr.mono (by lia);refine⟨_,qb6 (qc9 (qh2 (qe3 (pcN GT hr5 hT FT.kp bT (qa0 (pv 0) qa2)))) (qa8 (qa9 qk8)) qb1)
   (qb6 (qk5 (qv0 xC1 (pv 0) (qE0 qa5) qD9) (qo5 rfl (qb8 (pgN 1 scShape.nd) (qb8 (pgN 2 scShape.nd) qj7))))
   (qb6 (qc9 (PW.pt (qj6 (qe3 (qa6 (qL4 rfl) (by rfl) B.any PyProof.Rows.boot_any (qa0 (qg6 ["thing", "top", "rows"] (qa3 qB5) rfl rfl rfl scShape.nd (piT K rfl (pv 2)) (λcl C fp s₀ H₀=>pcN GP jZ hP FP.kp bP (qa0 (pv 0) qa2))) qa2)))
    (qg7 (qb2 qn8 (qa6 qR5 (by rfl) B.len ZM (qa0 (qc1 (q43 rfl hr) (by rfl) B.set PyProof.Rows.boot_set (qa0 (pv 2) qa2)) qa2)) (qa6 qb9 (by rfl) B.len ZM (qa0 (pv 2) qa2)) (qb4 _))))) (qa8 (qa9 qk8)) qb1)
   (qa8 (qa9 (qf7 (q90 hr) (pcN (GA n) hrA hA FA.kp bA (qa0 (pv 2) (qa0 (pv 1) qa2)))
    (qc1 (q26 rfl) (by rfl) B.list Wv (qa0 (qc1 qL5 (by rfl) B.range PyProof.Rows.boot_range (qa0 (qa6 qb9 (by rfl) B.len ZM (qa0 (pv 2) qa2)) qa2)) qa2)) (qb4 _)))))),?_⟩
  refine⟨_,rfl,t,n,tp,rows,rfl,hTell,hn,ok,hl,kN,λH1 s1=>?_⟩;have no:∀{H'},¬Canon n tp rows->Same H H'->Q (.bl false) H':=λ{H'} nc s'=>q false H' ⟨λz=>(by cases z),λz=>(nc z).elim⟩ s';by_cases hd:dp rows tp<=n
  rotate_left
  ·rw[Zp hd];exact⟨_,rfl,iteT (no (λc=>hd c.deep) s1)⟩
  rw[Zj hd];refine⟨_,rfl,iteF ?_⟩;have ht1:=s1 _ _ ht;refine⟨_,rfl,_,rfl,t,_,rfl,SqT.of ht1,(λz=>absurd (show HT.sIx 3 0 (some 1)=0 from z.1) (by decide)),λu hu=>?_⟩;refine⟨u,_,rfl,SqT.of qa1,rfl,_,_,rfl,_,_,rfl,rfl,?_⟩;have sA:Same H (upd H1 u (.tup [.int (tp:Nat),.ref p])):=s1.trans (qb3 hu);refine (λ(go:∀H2,Same H H2->_)=>go _ sA) ?_;intro H2 s2;have jR:=s2 _ _ hp;have jT:(bs.map V.ref).length=rows.length:=by rw[Zi];exact j6
  refine⟨_,rfl,p,rfl,⟨_,SqT.of jR⟩,λD hD=>qi0 hD (λj z _=>∀r,rows[j]?=some r->z=.bl (decide (qh3 r))) (qm4 (K:=K) jR) (by rw[jT];exact qb5 (by lia)) (λ_ _ _ _ _ _ h=>h) ?_ ?_⟩
  ·intro j x H3 hj hx s3 Q' hq;have vV:j<rows.length:=by rw[<- jT];exact hj
   rw[Zg] at hx;obtain⟨b,hb,rfl⟩:=Zr.mp hx;have jD:rows[j]?=some rows[j]:=by simp[vV]
   refine⟨_,rfl,b,rows[j],rfl,s3 _ _ (s2 _ _ (jB j b _ hb jD)),(ok j _ jD).1,λH4 s4=>hq _ _ s4 λr hr'=>?_⟩;rw[jD] at hr';cases hr'
   rfl
  ·intro ys H3 s3 jV kZ vG;have e:ys=(rows.map λr=>decide (qh3 r)).map V.bl:=by
    refine qi8 (by rw[kZ,jT];simp) λi x hx=>?_;have hi:=(gS_ hx).1;rw[kZ,jT] at hi;have jD:rows[i]?=some rows[i]:=by simp[hi]
    rw[vG i x hx _ jD];simp[hi]
   have s23:Same H H3:=s2.trans s3;refine⟨D,rows.map λr=>decide (qh3 r),rfl,by rw[<- e];exact jV,_,rfl,?_⟩;by_cases jF:∃r∈rows,qh3 r
   ·have na:(rows.map λr=>decide (qh3 r)).any id=true:=by
     obtain⟨r,h1,h2⟩:=jF;rw[Yb];exact⟨_,Yo.mpr ⟨r,h1,rfl⟩,Zj h2⟩
    rw[na];obtain⟨r,h1,h2⟩:=jF;exact iteT (no (λc=>c.unplain r h1 h2) s23)
   have hpl':∀r∈rows,¬qh3 r:=λr h1 h2=>jF ⟨r,h1,h2⟩;have na:(rows.map λr=>decide (qh3 r)).any id=false:=by
    rw[Vc];intro x hx;obtain⟨r,h1,rfl⟩:=Yo.mp hx;rw[Zp (hpl' r h1)];decide
   rw[na];refine iteF ?_;have kC:=s23 _ _ hp;refine⟨_,rfl,p,bs,rows.map keyN,rfl,kC,by rw[Zi];exact j6,λi b ks e1 e2=>?_,by rw[Zi];lia,λr m hr' hm1 wS=>?_⟩
   ·rw[Zg] at e2;obtain⟨r0,hr0,rfl⟩:=Zr.mp e2;rw[qn7];exact s23 _ _ (jB i b r0 e1 hr0)
   ·rw[Zi] at hm1 wS;have s4:Same H (upd H3 r (.ext (SetN r m))):=s23.trans (qb3 hr');have kG:=s4 _ _ hp;refine⟨r,_,rfl,qa1,by lia,_,rfl,p,_,rfl,.inr (SqT.of kG),_,_,rfl,rfl,_,rfl,?_⟩;by_cases wH:rows.Nodup
    rotate_left
    ·have nl:decide ((m:Int)<((bs.map V.ref).length:Int))=true:=Zj (by
      have:m≠rows.length:=λz=>wH (keys_nodup_iff.mp (wS.mp z));rw[jT];lia)
     rw[nl];exact iteT (no (λc=>wH c.unlike) s4)
    have nl:decide ((m:Int)<((bs.map V.ref).length:Int))=false:=Zp (by
     have:=wS.mpr (qC1 wH);rw[jT];lia)
    rw[nl];refine iteF ?_;refine (λ(go:∀H5,Same H H5->_)=>go _ s4) ?_;intro H5 s5;refine⟨_,rfl,_,rfl,p,tp,rows,rfl,(jS.same s5).s,ok,by lia,kN,hd,λH6 D6 s6 wK=>?_⟩;have hp6:=s6 _ _ (s5 _ _ hp);refine⟨_,rfl,p,_,rfl,.inr (SqT.of hp6),_,rfl,λg hg=>⟨g,rows.length,rfl,by rw[qa1,jT],by lia,λl hl'=>?_⟩⟩;have y6:=qc0 (u:=.lst ((List.range rows.length).map λ(i:Nat)=>V.int (i:Int))) (qc0 (u:=.rng 0 ((bs.map V.ref).length:Int)) wK hg) hl';rw[qu1] at y6;have e9:((List.range rows.length).map λ(i:Nat)=>V.int (i:Int))=((List.range rows.length).map λn:Nat=>(n:Int)).map V.int:=qu1 _;refine⟨dL ((dfs rows n [] tp).map λn:Nat=>(n:Int)),dL ((List.range rows.length).map λn:Nat=>(n:Int)),.lst y6 (DatasAt.ints _),.lst qa1 (e9▸DatasAt.ints _),qV3 _,qV3 _,?_,?_⟩
    ·exact ZE (qX5 _) (by decide)
    ·rw[q92];refine q _ _ ⟨λz=>⟨hn,ok,kN,hd,hpl',wH,qG0 (Zq z)⟩,λc=>Zj (by rw[c.ends])⟩ (s5.trans (s6.trans ((qb3 hg).trans (qb3 hl'))))
end
end Pr
namespace L2
open PySem PySem.Spec PyProof.Rows
mutual
inductive DatX (H:Hp):V->PyData->Prop
 |non:DatX H .non .none
 |bl (b:Bool):DatX H (.bl b) (.bool b)
 |int (i:Int):DatX H (.int i) (.int i)
 |str (x:Str):DatX H (.str x) (.str x)
 |lst {a:Addr}{xs:List V}{ds:List PyData}(h:H a=some (.lst xs)) (r:DatsX H xs ds):DatX H (.ref a) (.list ds)
 |tup {a:Addr}{xs:List V}{ds:List PyData}(h:H a=some (.tup xs)) (r:DatsX H xs ds):DatX H (.ref a) (.tuple ds)
 |dic {a:Addr}(h:H a=some (.dK [])):DatX H (.ref a) (.dict [])
inductive DatsX (H:Hp):List V->List PyData->Prop
 |nil:DatsX H [] []
 |cons {x:V}{xs:List V}{d:PyData}{ds:List PyData}(h:DatX H x d) (r:DatsX H xs ds):DatsX H (x::xs) (d::ds)
end
section
variable {H:Hp}
mutual
theorem DatX.same {H':Hp}(s:∀b o,H b=some o->H' b=some o):∀{x:V}{d:PyData},DatX H x d->DatX H' x d
 |_,_,.non=>.non
 |_,_,.bl b=>.bl b
 |_,_,.int i=>.int i
 |_,_,.str x=>.str x
 |_,_,.lst e r=>.lst (s _ _ e) (DatsX.same s r)
 |_,_,.tup e r=>.tup (s _ _ e) (DatsX.same s r)
 |_,_,.dic e=>.dic (s _ _ e)
theorem DatsX.same {H':Hp}(s:∀b o,H b=some o->H' b=some o):∀{xs:List V}{ds:List PyData},DatsX H xs ds->DatsX H' xs ds
 |_,_,.nil=>.nil
 |_,_,.cons h r=>.cons (DatX.same s h) (DatsX.same s r)
end
mutual
theorem DatX.of:∀{x:V}{d:PyData},DataAt H x d->DatX H x d
 |_,_,.non=>.non
 |_,_,.bl b=>.bl b
 |_,_,.int i=>.int i
 |_,_,.str x=>.str x
 |_,_,.lst e r=>.lst e (DatsX.of r)
 |_,_,.tup e r=>.tup e (DatsX.of r)
theorem DatsX.of:∀{xs:List V}{ds:List PyData},DatasAt H xs ds->DatsX H xs ds
 |_,_,.nil=>.nil
 |_,_,.cons h r=>.cons (DatX.of h) (DatsX.of r)
end
theorem DatsX.get:∀{xs:List V}{ds:List PyData}{i:Nat}{x:V},DatsX H xs ds->xs[i]?=some x->∃d,ds[i]?=some d/\DatX H x d
 |_,_,_,_,.nil,e=>by simp at e
 |_,_,0,_,.cons h r,e=>by simp at e;subst e;exact⟨_,rfl,h⟩
 |_,_,i+1,x,.cons h r,e=>by
  obtain⟨d,e1,e2⟩:=DatsX.get (i:=i) (x:=x) r (by simpa using e);exact⟨d,by simpa using e1,e2⟩
theorem DatsX.length:∀{xs:List V}{ds:List PyData},DatsX H xs ds->xs.length=ds.length
 |_,_,.nil=>rfl
 |_,_,.cons h r=>by rw[Zy,Zy,DatsX.length r]
def tyD:PyData->Value
 |.none=>.type "NoneType"
 |.bool _=>.type "bool"
 |.int _=>.type "int"
 |.str _=>.type "str"
 |.list _=>.type "list"
 |.tuple _=>.type "tuple"
 |.dict _=>.type "dict"
theorem DatX.ty {K:PySem.W.Frag}:∀{x:V}{d:PyData},DatX H x d->TyOf K H x (tyD d)
 |_,_,.non=>.non
 |_,_,.bl b=>.bl b
 |_,_,.int i=>.int i
 |_,_,.str x=>.str x
 |_,_,.lst e _=>.lst e
 |_,_,.tup e _=>.tup e
 |_,_,.dic e=>.dK e
def isI:PyData->Bool
 |.int _=>true
 |_=>false
def isIB:PyData->Bool
 |.int _=>true
 |.bool _=>true
 |_=>false
def isB:PyData->Bool
 |.bool _=>true
 |_=>false
def isT:PyData->Bool
 |.tuple _=>true
 |_=>false
theorem xy4 {K:PySem.W.Frag}(d:PyData):PySem.W.kitOne K (tyD d) (.type "int")=some (isIB d):=by cases d<;>rfl
theorem xo6 {K:PySem.W.Frag}(d:PyData):PySem.W.kitOne K (tyD d) (.type "bool")=some (isB d):=by cases d<;>rfl
theorem qz8 {K:PySem.W.Frag}(d:PyData):PySem.W.kitOne K (tyD d) (.type "tuple")=some (isT d):=by cases d<;>rfl
def qf5 (most:Nat):PyData->Bool
 |.int i=>decide (0<=i/\i<=(most:Int))
 |_=>false
def rowD (before:Nat):PyData->Bool
 |.tuple xs=>xs.length==4&&xs.all (qf5 (before+1))
 |_=>false
def xf6:PyData->Bool
 |.tuple rs=>rs.zipIdx.all λp=>rowD p.2 p.1
 |_=>false
end
end L2
namespace Pr
open PySem L2 Qf
section
variable {P:Program}{w:World}{K:PySem.W.Frag}{mg:Str->Option Value}{base:Heap}
def qH1:Sp:=λvs H Q _=>∃(v:V) (d:PyData),vs=[v]/\DatX H v d/\Q (.bl (isI d)) H
theorem qO2 {f:Addr}{fd:FuncData}(F:Fun K "is_whole" "is_whole" qt8 f fd) (B:Blt mg):FnOk P w K mg base CX0 1 f fd ["thing"] qH1:=by
 refine F.ok xb7 (λvs H Q E h=>?_) (λcdv A outer s H vs Q E hr h=>?_)
 ·obtain⟨v,d,rfl,_⟩:=h
  rfl
 ·obtain⟨v,d,rfl,hd,q⟩:=h;refine⟨_,qa8 (qa9 (qi4 (qa6 qd6 (by rfl) B.isi ZA (qa0 (pv 0) (qa0 (qh0 (v:=.ty "int") (by rfl) B.int Xd rfl) qa2)))
   (qj3 (xq5 (qa6 qd6 (by rfl) B.isi ZA (qa0 (pv 0) (qa0 (qh0 (v:=.ty "bool") (by rfl) B.bool PyProof.Rows.boot_bool rfl) qa2))))))),?_⟩
  refine⟨_,rfl,_,_,_,_,_,rfl,rfl,.inl hd.ty,xy4 d,_,rfl,?_⟩;by_cases hI:isIB d=true
  ·rw[hI];refine iteT ⟨_,rfl,_,_,_,_,_,rfl,rfl,.inl hd.ty,xo6 d,_,rfl,?_⟩;have e:isI d=!isB d:=by cases d<;>first|rfl|cases hI
   rw[e] at q;exact q
  ·have e1:isIB d=false:=by simpa using hI
   have e2:isI d=false:=by cases d<;>first|rfl|cases e1
   rw[e1];rw[e2] at q;exact iteF q
def qT4:Sp:=λvs H Q _=>∃(v:V) (d:PyData),vs=[v]/\DatX H v d/\Q (.bl (qf5 12 d)) H
theorem xo7 {f fW:Addr}{fd fdW:FuncData}(F:Fun K "is_size" "is_size" q32 f fd) (B:Blt mg) (T:Cst mg) (hW:mg "is_whole" = some (.ref fW)) (FW:Fun K "is_whole" "is_whole" qt8 fW fdW) (bW:Binds K fdW ["thing"] []):FnOk P w K mg base CX0 2 f fd ["thing"] qT4:=by
 have GW:FnOk P w K mg base CX0 1 fW fdW ["thing"] qH1:=qO2 FW B;obtain⟨tg,hgr⟩:=T.great;refine F.ok xr7 (λvs H Q E h=>?_) (λcdv A outer s H vs Q E hr h=>?_)
 ·obtain⟨v,d,rfl,_⟩:=h
  rfl
 ·obtain⟨v,d,rfl,hd,q⟩:=h;refine⟨_,qa8 (qa9 (qi4 (pcN GW hr hW FW.kp bW (qa0 (pv 0) qa2)) (qj3 (qu8 qr9 qr9 qa5 (pv 0) (qc6 (v:=.int 12) (by rfl) hgr ⟨_,rfl⟩))))),?_⟩;refine⟨_,rfl,v,d,rfl,hd,_,rfl,?_⟩;cases hd with
  |int n=>
   refine iteT ⟨_,rfl,_,_,rfl,rfl,_,rfl,?_⟩;refine ite2 (λh1=>⟨_,_,rfl,rfl,?_⟩) (λh1=>?_)
   ·have h0:=Zq h1;have e:decide ((n:Int)<=12)=qf5 12 (.int n):=by
     show _=decide (0<=n/\n<=((12:Nat):Int));by_cases z:n<=12
     ·rw[Zj z,Zj ⟨h0,z⟩]
     ·rw[Zp z,Zp λy=>z y.2]
    show Q (V.bl (decide ((n:Int)<=12))) H;rw[e];exact q
   ·have h0:¬(0:Int)<=n:=λz=>h1 (Zj z);have e:qf5 12 (.int n)=false:=Zp λy=>h0 y.1;rw[e] at q;exact q
  |_=>exact iteF q
def qr0:Sp:=λvs H Q _=>∃(v:V) (d:PyData) (m:Nat),vs=[v,.int (m:Nat)]/\DatX H v d/\Q (.bl (qf5 (m+1) d)) H
theorem q44 {f fW:Addr}{fd fdW:FuncData}(F:Fun K "is_number" "is_number" ql5 f fd) (B:Blt mg) (T:Cst mg) (hW:mg "is_whole" = some (.ref fW)) (FW:Fun K "is_whole" "is_whole" qt8 fW fdW) (bW:Binds K fdW ["thing"] []):FnOk P w K mg base CX0 2 f fd ["thing", "many"] qr0:=by
 have GW:FnOk P w K mg base CX0 1 fW fdW ["thing"] qH1:=qO2 FW B;obtain⟨tf,hf⟩:=T.first;refine F.ok qX1 (λvs H Q E h=>?_) (λcdv A outer s H vs Q E hr h=>?_)
 ·obtain⟨v,d,m,rfl,_⟩:=h
  rfl
 ·obtain⟨v,d,m,rfl,hd,q⟩:=h;refine⟨_,qa8 (qa9 (qi4 (pcN GW hr hW FW.kp bW (qa0 (pv 0) qa2)) (qj3 (qu8 qr9 qn8 qa5 (pv 0) (qb0 qc4 (pv 1) (qc6 (v:=.int 2) (by rfl) hf ⟨_,rfl⟩)))))),?_⟩;refine⟨_,rfl,v,d,rfl,hd,_,rfl,?_⟩;cases hd with
  |int n=>
   refine iteT ⟨_,rfl,_,_,rfl,rfl,_,rfl,?_⟩;refine ite2 (λh1=>⟨_,rfl,_,_,rfl,rfl,_,_,rfl,rfl,?_⟩) (λh1=>?_)
   ·have h0:=Zq h1;have e:decide ((n:Int)<(m:Int)+2)=qf5 (m+1) (.int n):=by
     show _=decide (0<=n/\n<=((m+1:Nat):Int));by_cases z:n<(m:Int)+2
     ·rw[Zj z,Zj ⟨h0,by lia⟩]
     ·rw[Zp z,Zp λy=>z (by have:=y.2;lia)]
    show Q (V.bl (decide ((n:Int)<(m:Int)+2))) H;rw[e];exact q
   ·have h0:¬(0:Int)<=n:=λz=>h1 (Zj z);have e:qf5 (m+1) (.int n)=false:=Zp λy=>h0 y.1;rw[e] at q;exact q
  |_=>exact iteF q
end
theorem qH2 {m:Nat}{d:PyData}(h:qf5 m d=true):∃x:Nat,d=.int (x:Nat)/\x<=m:=by
 cases d with
 |int i=>
  have h:decide (0<=i/\i<=(m:Int))=true:=h;obtain⟨h1,h2⟩:=Zq h;exact⟨i.toNat,by rw[Int.toNat_of_nonneg h1],by lia⟩
 |_=>cases h
theorem qO3 {m:Nat}:∀{ds:List PyData},ds.all (qf5 m)=true->∃r:Row,ds=(r.map λx:Nat=>(x:Int)).map PyData.int/\∀x∈r,x<=m
 |[],_=>⟨[],rfl,λx hx=>nomatch hx⟩
 |d::ds,h=>by
  rw[List.all_cons,YN] at h;obtain⟨x,rfl,hx⟩:=qH2 h.1;obtain⟨r,rfl,hr⟩:=qO3 h.2;exact⟨x::r,rfl,λy hy=>by
   rcases ZC.mp hy with rfl|hy
   ·exact hx
   ·exact hr y hy⟩
def dR (r:Row):PyData:=dT (r.map λx:Nat=>(x:Int))
theorem xE8 {i:Nat}{d:PyData}(h:rowD i d=true):∃r:Row,d=dR r/\xl9 i r:=by
 cases d with
 |tuple xs=>
  have h:(xs.length==4&&xs.all (qf5 (i+1)))=true:=h;rw[YN] at h;obtain⟨r,rfl,hr⟩:=qO3 h.2;have hl:r.length=4:=by simpa using h.1
  exact⟨r,rfl,hl,λx hx=>by have:=hr x hx;lia⟩
 |_=>cases h
theorem qz9:∀{rs:List PyData}{k:Nat},(rs.zipIdx k).all (λp=>rowD p.2 p.1)=true->∃rows:List Row,rs=rows.map dR/\∀i r,rows[i]?=some r->xl9 (k+i) r
 |[],k,_=>⟨[],rfl,λi r h=>by simp at h⟩
 |d::rs,k,h=>by
  rw[List.zipIdx_cons,List.all_cons,YN] at h;obtain⟨r,rfl,hr⟩:=xE8 h.1;obtain⟨rows,rfl,hrs⟩:=qz9 h.2;refine⟨r::rows,rfl,λi q hq=>?_⟩;cases i with
  |zero=>
   cases hq;exact hr
  |succ i=>
   have:=hrs i q hq;rw[show k+(i+1)=k+1+i by lia];exact this
theorem xy5 {d:PyData}(h:xf6 d=true):∃rows:List Row,d=.tuple (rows.map dR)/\qb7 rows:=by
 cases d with
 |tuple rs=>
  obtain⟨rows,rfl,hr⟩:=qz9 (k:=0) h;exact⟨rows,rfl,λi r hi=>by have:=hr i r hi;rwa [X8] at this⟩
 |_=>cases h
theorem qO4 {H:Hp}:∀{xs:List V}{r:Row},DatsX H xs ((r.map λx:Nat=>(x:Int)).map PyData.int)->xs=vN r
 |_,[],.nil=>rfl
 |_,x::r,.cons h t=>by
  cases h;rw[qO4 t]
  rfl
theorem xy6 {H:Hp}{v:V}{r:Row}(h:DatX H v (dR r)):∃b,v=.ref b/\H b=some (.tup (vN r)):=by
 cases h with
 |tup e t=>exact⟨_,rfl,by rw[e,qO4 t]⟩
theorem qO5 {H:Hp}:∀{xs:List V}{rows:List Row},DatsX H xs (rows.map dR)->∃bs:List Addr,xs=bs.map V.ref/\bs.length=rows.length/\∀(i:Nat) b r,bs[i]?=some b->rows[i]?=some r->H b=some (.tup (vN r))
 |_,[],.nil=>⟨[],rfl,rfl,λi b r e=>by simp at e⟩
 |_,r::rows,.cons h t=>by
  obtain⟨b,rfl,hb⟩:=xy6 h;obtain⟨bs,rfl,hl,hr⟩:=qO5 t;refine⟨b::bs,rfl,by rw[Zy,Zy,hl],λi c q e1 e2=>?_⟩;cases i with
  |zero=>
   cases e1;cases e2;exact hb
  |succ i=>exact hr i c q e1 e2
theorem qY7 {H:Hp}{v:V}{rows:List Row}(h:DatX H v (.tuple (rows.map dR))):∃p,v=.ref p/\RowsAt H p rows:=by
 cases h with
 |tup e t=>
  obtain⟨bs,rfl,h1,h2⟩:=qO5 t;exact⟨_,rfl,bs,e,h1,h2⟩
section
variable {P:Program}{w:World}{K:PySem.W.Frag}{mg:Str->Option Value}{base:Heap}
def xf7:Sp:=λvs H Q _=>∃(v:V) (d:PyData) (i:Nat),vs=[v,.int (i:Nat)]/\DatX H v d/\∀H',Same H H'->Q (.bl (rowD i d)) H'
theorem xy7 {f fN:Addr}{fd fdN:FuncData}(F:Fun K "is_row" "is_row" sRow f fd) (B:Blt mg) (hN:mg "is_number" = some (.ref fN)) (FN:Fun K "is_number" "is_number" ql5 fN fdN) (bN:Binds K fdN ["thing", "many"] []) (GN:FnOk P w K mg base CX0 2 fN fdN ["thing", "many"] qr0):FnOk P w K mg base CX0 3 f fd ["thing", "before"] xf7:=by
 refine F.ok scRow (λvs H Q E h=>?_) (λcdv A outer s H vs Q E hr h=>?_)
 ·obtain⟨v,d,i,rfl,_⟩:=h
  rfl
 ·obtain⟨v,d,i,rfl,hd,q⟩:=h;refine⟨_,qb6 (qc9 (qj6 (qh2 (qe3 (qa6 qd6 (by rfl) B.isi ZA (qa0 (pv 0) (qa0 (qh0 (v:=.ty "tuple") (by rfl) B.tuple ZH rfl) qa2)))))
    (qg7 (qb2 qw6 (qa6 qb9 (by rfl) B.len ZM (qa0 (pv 0) qa2)) qa5 (qb4 _)))).pt (qa8 (qa9 qk8)) qb1)
   (qa8 (qa9 (qa6 (ql3 rfl) (by rfl) B.all Xf (qa0 (qg6 ["thing", "before"] (qa3 sRow) rfl rfl rfl scRow.nd (piT K rfl (pv 0)) (λcl C fp s₀ H₀=>pcN GN hr hN FN.kp bN (qa0 (pv 0) (qa0 (pv 2) qa2)))) qa2)))),?_⟩
  refine⟨_,rfl,_,_,_,_,_,rfl,rfl,.inl hd.ty,qz8 d,_,rfl,?_⟩;cases hd with
  |@tup b xs ds hb r=>
   refine iteF ⟨_,rfl,b,_,rfl,.inr (SqT.of hb),rfl,_,rfl,?_⟩;have hl:=r.length;by_cases h4:xs.length=4
   ·refine xv5 (by rw[h4];rfl) ?_;refine⟨_,rfl,b,rfl,⟨_,SqT.of hb⟩,λD hD=>qi0 hD (λj z _=>∃d,ds[j]?=some d/\z=.bl (qf5 (i+1) d)) (qm4 (K:=K) hb) (by rw[h4];decide) (λ_ _ _ _ _ _ h=>h) ?_ ?_⟩
    ·intro j x H3 hj hx s3 Q' hq;obtain⟨d,e1,e2⟩:=r.get hx;exact⟨_,rfl,_,rfl,x,d,i,rfl,e2.same s3,hq _ _ (Same.refl _) ⟨d,e1,rfl⟩⟩
    ·intro ys H3 s3 jV kZ vG;have e:ys=(ds.map (qf5 (i+1))).map V.bl:=by
      refine qi8 (by rw[kZ,hl];simp) λj x hx=>?_;obtain⟨d,e1,rfl⟩:=vG j x hx;rw[Zg,Zg,e1];rfl
     refine⟨D,ds.map (qf5 (i+1)),rfl,by rw[<- e];exact jV,?_⟩;have ea:(ds.map (qf5 (i+1))).all id=rowD i (.tuple ds):=by
      show _=(ds.length==4&&ds.all (qf5 (i+1)));rw[<- hl,h4,Vt]
      rfl
     rw[ea];exact q H3 s3
   ·have e1:(decide (V.int ((xs.length:Nat):Int)=V.int 4))=false:=Zp λz=>h4 (by have:=V.int.inj z;lia);rw[e1];refine iteT ?_;have e2:rowD i (.tuple ds)=false:=by
     show (ds.length==4&&ds.all (qf5 (i+1)))=false;rw[<- hl,show (xs.length==4)=false by rw[Yz];exact h4]
     rfl
    have:=q H (Same.refl _);rw[e2] at this;exact this
  |_=>exact iteT (q H (Same.refl _))
def qT5:Sp:=λvs H Q _=>∃(v:V) (d:PyData),vs=[v]/\DatX H v d/\(∀ds,d=.tuple ds->ds.length<=990)/\∀H',Same H H'->Q (.bl (xf6 d)) H'
theorem xo8 {f fR:Addr}{fd fdR:FuncData}(F:Fun K "are_rows" "are_rows" qM3 f fd) (B:Blt mg) (hR:mg "is_row" = some (.ref fR)) (FR:Fun K "is_row" "is_row" sRow fR fdR) (bR:Binds K fdR ["thing", "before"] []) (GR:FnOk P w K mg base CX0 3 fR fdR ["thing", "before"] xf7):FnOk P w K mg base CX0 4 f fd ["thing"] qT5:=by
 refine F.ok scRows (λvs H Q E h=>?_) (λcdv A outer s H vs Q E hr h=>?_)
 ·obtain⟨v,d,rfl,_⟩:=h
  rfl
 ·obtain⟨v,d,rfl,hd,hb9,q⟩:=h;refine⟨_,qa8 (qa9 (qi4 (qa6 qd6 (by rfl) B.isi ZA (qa0 (pv 0) (qa0 (qh0 (v:=.ty "tuple") (by rfl) B.tuple ZH rfl) qa2)))
   (qj3 (qa6 (ql3 rfl) (by rfl) B.all Xf (qa0 (qV5 ["thing"] (qa3 qM3) rfl rfl rfl scRows.nd (qV4 (by rfl) B.enum (qa0 (pv 0) qa2)) (λcl C fp s₀ H₀=>pcN GR hr hR FR.kp bR (qa0 (pv 1) (qa0 (pv 0) qa2)))) qa2))))),?_⟩
  refine⟨_,rfl,_,_,_,_,_,rfl,rfl,.inl hd.ty,qz8 d,_,rfl,?_⟩;cases hd with
  |@tup p xs ds hp r=>
   refine iteT ?_;have hl:=r.length;have h9:=hb9 ds rfl;refine⟨_,rfl,p,rfl,⟨_,SqT.of hp⟩,λD hD=>qs4 hD (λ_=>true) (λj=>.bl (rowD j (ds.getD j .none))) (qL9 (K:=K) hp) (by rw[hl];exact qb5 (by lia)) ?_ ?_⟩
   ·rintro i x H2 hi ⟨t,y,rfl,hy,ht⟩ s2 os ho Q1 Q2 q1 q2
    match os,ho with
    |[o1,o2],_=>
     obtain⟨d,e1,e2⟩:=r.get hy;refine⟨t,_,rfl,SqT.of ht,rfl,_,_,rfl,_,_,rfl,rfl,?_⟩;refine iteT (B:=Q1 H2) ?_;refine⟨_,rfl,_,rfl,y,d,i,rfl,e2.same s2,λH3 s3=>?_⟩;have:=q2 rfl H3 s3;have e3:ds.getD i .none=d:=by rw[ZG,e1];rfl
     rw[e3] at this;exact this
   ·intro H2 s2 jW;refine⟨D,(List.range ds.length).map λj=>rowD j (ds.getD j .none),rfl,?_,?_⟩
    ·rw[jW,hl,List.filter_eq_self.mpr (λ_ _=>rfl),Y5]
     rfl
    ·have ea:((List.range ds.length).map λj=>rowD j (ds.getD j .none)).all id=xf6 (.tuple ds):=by
      show _=ds.zipIdx.all λp=>rowD p.2 p.1;have ez:ds.zipIdx=(List.range ds.length).map λj=>(ds.getD j .none,j):=by
       apply Wu;intro j;rw[WL,Zg];by_cases hj:j<ds.length
       ·rw[Y4 hj,Zb hj];simp[List.getD,hj]
       ·rw[YH (by lia),YH (by rw[XV];lia)]
        rfl
      rw[ez,Vt,Vt]
      rfl
     rw[ea];exact q H2 s2
  |_=>exact iteF (q H (Same.refl _))
end
theorem xK3 {P:Program}{w:World}{K:PySem.W.Frag}{mg:Str->Option Value}{base:Heap}{CX:CXT}{k:Nat}{f:Addr}{fd:FuncData}{ps:List Str}{sp sp':Sp}(F:FnOk P w K mg base CX k f fd ps sp) (G:FnOk P w K mg base CX k f fd ps sp') :
  FnOk P w K mg base CX k f fd ps (λvs H Q E=>sp vs H Q E\/sp' vs H Q E):=
 ⟨λvs H Q E h=>h.elim (F.len vs H Q E) (G.len vs H Q E),λA outer s H args us vs Q E hr en b v h=>h.elim (F.run A outer s H args us vs Q E hr en b v) (G.run A outer s H args us vs Q E hr en b v)⟩
def TlD (d:PyData) (n tp:Nat) (rows:List Row):Prop:=d=qe6 n tp rows/\n<=12/\qb7 rows/\tp<rows.length+2
theorem xy8 {H:Hp}{xs:List V}{ds:List PyData}(r:DatsX H xs ds) (h:0<xs.length):∃x d xs' ds',xs=x::xs'/\ds=d::ds'/\DatX H x d/\DatsX H xs' ds':=by
 cases r with
 |nil=>exact absurd h (Yk _)
 |cons a b=>exact⟨_,_,_,_,rfl,rfl,a,b⟩
theorem xK4 {H:Hp}{xs:List V}{ds:List PyData}(h:xs.length=3) (r:DatsX H xs ds):∃x0 x1 x2 d0 d1 d2,xs=[x0,x1,x2]/\ds=[d0,d1,d2]/\DatX H x0 d0/\DatX H x1 d1/\DatX H x2 d2:=by
 obtain⟨x0,d0,xs,ds,rfl,rfl,r0,r⟩:=xy8 r (by rw[h];decide);have h:xs.length+1=3:=h;obtain⟨x1,d1,xs,ds,rfl,rfl,r1,r⟩:=xy8 r (by lia);have h:xs.length+1+1=3:=h;obtain⟨x2,d2,xs,ds,rfl,rfl,r2,r⟩:=xy8 r (by lia);have h:xs.length+1+1+1=3:=h;cases r with
 |nil=>exact⟨x0,x1,x2,d0,d1,d2,rfl,rfl,r0,r1,r2⟩
 |cons _ _=>exact absurd h (by simp)
theorem xE9 {a b:Row}(h:dR a=dR b):a=b:=by
 have h1:(a.map λx:Nat=>(x:Int)).map PyData.int=(b.map λx:Nat=>(x:Int)).map PyData.int:=PyData.tuple.inj h;exact qG0 ((W8 (λ_ _ z=>PyData.int.inj z)).mp h1)
theorem qO6 {n n' tp tp':Nat}{rows rows':List Row}(h:qe6 n tp rows=qe6 n' tp' rows'):n=n'/\tp=tp'/\rows=rows':=by
 have h1:=PyData.tuple.inj h;injection h1 with e1 h2
 injection h2 with e2 h3
 injection h3 with e3 _
 have e1:=PyData.int.inj e1;have e2:=PyData.int.inj e2;have e3:rows.map dR=rows'.map dR:=PyData.tuple.inj e3;exact⟨by lia,by lia,(W8 (λ_ _ z=>xE9 z)).mp e3⟩
theorem qv5 {H:Hp}{v:V}{n tp:Nat}{rows:List Row}(h:DatX H v (qe6 n tp rows)):∃t,v=.ref t/\TellAt H t n tp rows:=by
 cases h with
 |@tup t xs _ e r=>
  cases r with
  |cons h0 r=>
   cases h0;cases r with
   |cons h1 r=>
    cases h1;cases r with
    |cons h2 r=>
     cases r;obtain⟨p,rfl,hR⟩:=qY7 (rows:=rows) h2;exact⟨t,rfl,p,e,hR⟩
def Bnd (d:PyData):Prop:=∀d0 d1 ds,d=.tuple [d0,d1,.tuple ds]->ds.length<=990
section
variable {P:Program}{w:World}{K:PySem.W.Frag}{mg:Str->Option Value}{base:Heap}
def qH3:Sp:=λvs H Q _=>∃(v:V) (d:PyData),vs=[v]/\DatX H v d/\Bnd d/\(∀n tp rows,¬TlD d n tp rows)/\∀H',Same H H'->Q (.bl false) H'
theorem xf8 {f fS fR fN fD:Addr}{fd fdS fdR fdN fdD:FuncData}(F:Fun K "is_telling" "is_telling" qm5 f fd) (B:Blt mg)
  (hS:mg "is_size" = some (.ref fS)) (FS:Fun K "is_size" "is_size" q32 fS fdS) (bS:Binds K fdS ["thing"] []) (GS:FnOk P w K mg base CX0 2 fS fdS ["thing"] qT4)
  (hR:mg "are_rows" = some (.ref fR)) (FR:Fun K "are_rows" "are_rows" qM3 fR fdR) (bR:Binds K fdR ["thing"] []) (GR:FnOk P w K mg base CX0 4 fR fdR ["thing"] qT5)
  (hN:mg "is_number" = some (.ref fN)) (FN:Fun K "is_number" "is_number" ql5 fN fdN) (bN:Binds K fdN ["thing", "many"] []) (GN:FnOk P w K mg base CX0 2 fN fdN ["thing", "many"] qr0)
  (hD:mg "depths_of" = some (.ref fD)) (FD:Fun K "depths_of" "depths_of" q31 fD fdD) (bD:Binds K fdD ["rows"] []):FnOk P w K mg base CX0 5 f fd ["thing"] qH3:=by
 have GD:FnOk P w K mg base CX0 1 fD fdD ["rows"] xc4:=xc5 FD B;refine F.ok scTelling (λvs H Q E h=>?_) (λcdv A outer s H vs Q E hr h=>?_)
 ·obtain⟨v,d,rfl,_⟩:=h
  rfl
 ·obtain⟨v,d,rfl,hd,bnd,no,q⟩:=h;have jD:Room 1 _:=hr.mono (by decide);have jZ:Room 2 _:=hr.mono (by decide);refine⟨_,qb6 (qc9 (qj6 (qh2 (qe3 (qa6 qd6 (by rfl) B.isi ZA (qa0 (pv 0) (qa0 (qh0 (v:=.ty "tuple") (by rfl) B.tuple ZH rfl) qa2)))))
    (qg7 (qb2 qw6 (qa6 qb9 (by rfl) B.len ZM (qa0 (pv 0) qa2)) qa5 (qb4 _)))).pt (qa8 (qa9 qk8)) qb1)
   (qb6 (qk5 (pv 0) (qo5 rfl (qb8 (pgN 1 scTelling.nd) (qb8 (pgN 2 scTelling.nd) (qb8 (pgN 3 scTelling.nd) qj7)))))
   (qb6 (qc9 (qj6 (qh2 (qe3 (pcN GS jZ hS FS.kp bS (qa0 (pv 1) qa2))))
    (qj6 (qh2 (qe3 (pcN GR hr hR FR.kp bR (qa0 (pv 3) qa2))))
    (qg7 (qh2 (qe3 (pcN GN jZ hN FN.kp bN (qa0 (pv 2) (qa0 (qa6 qb9 (by rfl) B.len ZM (qa0 (pv 3) qa2)) qa2)))))))).pt (qa8 (qa9 qk8)) qb1)
   (qa8 (qa9 (qf7 qr9 (pxN ix_list (pcN GD jD hD FD.kp bD (qa0 (pv 3) qa2)) (pv 2)) (pv 1) (qb4 _)))))),?_⟩
  refine⟨_,rfl,_,_,_,_,_,rfl,rfl,.inl hd.ty,qz8 d,_,rfl,?_⟩;cases hd with
  |@tup t xs ds ht r=>
   refine iteF ⟨_,rfl,t,_,rfl,.inr (SqT.of ht),rfl,_,rfl,?_⟩;have hl:=r.length;by_cases h3:xs.length=3
   rotate_left
   ·have e1:(decide (V.int ((xs.length:Nat):Int)=V.int 3))=false:=Zp λz=>h3 (by have:=V.int.inj z;lia);rw[e1];exact iteT (q H (Same.refl _))
   refine xv5 (by rw[h3];rfl) ?_;obtain⟨x0,x1,x2,d0,d1,d2,rfl,rfl,r0,r1,r2⟩:=xK4 h3 r;refine⟨_,rfl,t,_,rfl,SqT.of ht,rfl,_,_,rfl,_,_,rfl,_,_,rfl,rfl,?_⟩;refine⟨_,rfl,x0,d0,rfl,r0,_,rfl,?_⟩;by_cases w0:qf5 12 d0=true
   rotate_left
   ·rw[show qf5 12 d0=false by simpa using w0];exact iteT (q H (Same.refl _))
   rw[w0];refine iteF ⟨_,rfl,x2,d2,rfl,r2,λds e=>bnd d0 d1 ds (by rw[e]),λH2 s2=>⟨_,rfl,?_⟩⟩;by_cases w2:xf6 d2=true
   rotate_left
   ·rw[show xf6 d2=false by simpa using w2];exact iteT (q H2 s2)
   rw[w2];obtain⟨rows,rfl,ok⟩:=xy5 w2;obtain⟨p,rfl,hRw⟩:=qY7 (r2.same s2);obtain⟨bs,hp,j6,_⟩:=id hRw;refine iteF ⟨_,rfl,_,rfl,p,_,rfl,.inr (SqT.of hp),x1,d1,rows.length,by rw[Zi,j6];rfl,r1.same s2,_,rfl,?_⟩;by_cases w1:qf5 (rows.length+1) d1=true
   rotate_left
   ·rw[show qf5 (rows.length+1) d1=false by simpa using w1];exact iteT (q H2 s2)
   exfalso;obtain⟨n,rfl,hn⟩:=qH2 w0;obtain⟨tp,rfl,kN⟩:=qH2 w1;exact no n tp rows ⟨rfl,hn,ok,by lia⟩
  |_=>exact iteT (q H (Same.refl _))
theorem qv6 {n tp:Nat}{rows:List Row}(h:Bnd (qe6 n tp rows)):rows.length<=990:=by
 have:=h (.int (n:Nat)) (.int (tp:Nat)) (rows.map dR) rfl
 rwa [Zi] at this
def qO7:Sp:=λvs H Q _=>∃(v:V) (d:PyData),vs=[v]/\DatX H v d/\Bnd d/\(∀n tp rows,¬TlD d n tp rows)/\∀H',Same H H'->Q (.bl false) H'
theorem q45 {f fT:Addr}{fd fdT:FuncData}(F:Fun K "is_shape" "is_shape" qB5 f fd)
  (hT:mg "is_telling" = some (.ref fT)) (FT:Fun K "is_telling" "is_telling" qm5 fT fdT) (bT:Binds K fdT ["thing"] []) (GT:FnOk P w K mg base CX0 5 fT fdT ["thing"] qH3):FnOk P w K mg base CX0 15 f fd ["thing"] qO7:=by
 refine F.ok scShape (λvs H Q E h=>?_) (λcdv A outer s H vs Q E hr h=>?_)
 ·obtain⟨v,d,rfl,_⟩:=h
  rfl
 ·obtain⟨v,d,rfl,hd,bnd,no,q⟩:=h;have hr5:Room 5 _:=hr.mono (by decide);refine seqE ⟨_,⟨qc9 (qh2 (qe3 (pcN GT hr5 hT FT.kp bT (qa0 (pv 0) qa2)))) (qa8 (qa9 qk8)) qb1⟩,?_⟩;exact⟨_,qc3,_,rfl,v,d,rfl,hd,bnd,no,λH1 s1=>⟨_,rfl,iteT (q H1 s1)⟩⟩
def qH4:Sp:=λvs H Q _=>∃(v:V) (d:PyData),vs=[v]/\DatX H v d/\Bnd d/\∀(b:Bool) H',(b=true<->∃n tp rows,d=qe6 n tp rows/\Canon n tp rows)->Same H H'->Q (.bl b) H'
theorem xf9 {f:Addr}{fd:FuncData}(G2:FnOk P w K mg base CX0 15 f fd ["thing"] qH0) (G0:FnOk P w K mg base CX0 15 f fd ["thing"] qO7):FnOk P w K mg base CX0 15 f fd ["thing"] qH4:=by
 refine (xK3 G2 G0).imp λvs H Q E h=>?_;obtain⟨v,d,rfl,hd,bnd,q⟩:=h;by_cases hT:∃n tp rows,TlD d n tp rows
 ·obtain⟨n,tp,rows,rfl,hn,ok,kN⟩:=hT;obtain⟨t,rfl,tl⟩:=qv5 hd;refine .inl ⟨t,n,tp,rows,rfl,tl,hn,ok,qv6 bnd,kN,λb H' hb s'=>q b H' (hb.trans ⟨λc=>⟨n,tp,rows,rfl,c⟩,λz=>?_⟩) s'⟩;obtain⟨n',tp',rows',e,c⟩:=z;obtain⟨rfl,rfl,rfl⟩:=qO6 e;exact c
 ·refine .inr ⟨v,d,rfl,hd,bnd,λn tp rows z=>hT ⟨n,tp,rows,z⟩,λH' s'=>q false H' ⟨λz=>(by cases z),λz=>?_⟩ s'⟩;obtain⟨n,tp,rows,e,c⟩:=z;exact (hT ⟨n,tp,rows,e,c.size,c.rok,c.inn⟩).elim
end
end Pr
namespace L2
open PySem PySem.Spec PyProof.Rows
theorem Fun.ok1 {P:Program}{w:World}{K:PySem.W.Frag}{mg:Str->Option Value}{base:Heap}{x qual:Str}{st:Stmt}{f:Addr}{fd:FuncData}{N ps:List Str}{k:Nat}{sp:Sp}(F:Fun K x qual st f fd) (S:FnScope N ps (qa3 st)) (len:∀vs H Q E,sp vs H Q E->vs.length=ps.length)
  (jY:∀(cdv:Value) (A:Around) (outer:List Env) (s:Shared) (H:Hp) (vs:List V) (Q:VK) (E:XK),Room k (A.deeper (envOfC qual (qa3 st) s.heap.objs.size f cdv))->sp vs H Q E ->
   ∃t,PSs (cxOf (CX1 P w) P w K mg base N qual (qa3 st) f cdv A outer s H E) (qf6 st) t/\t { nx:=λ_ H'=>Q .non H',rt:=Q } (start N vs) H):FnOk P w K mg base (CX1 P w) (k+1) f fd ps sp:=by
 obtain⟨oc,od,kV,doc,pm,an,cdv,ct,osl,rfl,lk,kJ⟩:=F.ex;exact xB9 lk kJ S len λA outer s H vs Q E hr kX=>jY cdv A outer s H vs Q E hr kX
end L2
namespace L2
open PySem PySem.Spec PyProof.Rows PySem.W
section
variable {X:Cx}{st:Stmt}{rest:List Stmt}{t u:TS}
def xy9 (t u:TS):TS:=λD σ H=>∃I:St->Hp->Prop,t { D with nx:=I } σ H/\∀σ' H',I σ' H'->u D σ' H'
theorem qO8 (h1:PS X st t) (h2:PSs X rest u):PSs X (st::rest) (xy9 t u):=by
 intro j4 s σ H D I ⟨J,h,hJ⟩;refine wpAny_execs_cons (thn (h1 j4 s σ H { D with nx:=J } I h) λf s1 q=>?_);cases f with
 |next=>
  obtain⟨σ',H',I',q⟩:=q;exact h2 j4 s1 σ' H' D I' (hJ σ' H' q)
 |ret v=>exact q
 |brk=>exact q
 |cont=>exact q
end
section
variable {X:Cx}{e:Expr}{te:TE}
end
def qC7:Expr->Bool
 |.Starred _ _=>true
 |_=>false
theorem xo9 {e:Expr}(h:qC7 e=false) (es:List Expr) (env:Env):starEach (e::es) env=(false,eval e env)::starEach es env:=by
 cases e<;>first|rfl|(exfalso;cases h)
theorem pa_c {X:Cx}{e:Expr}{es:List Expr}{te:TE}{t:TA}(ha:PE X e te) (hr:PA X es t) (h:qC7 e=false:=by rfl):PA X (e::es) (qn3 te t):=qa0 ha hr (xo9 h es X.env)
inductive PAs (X:Cx):List Expr->List TE->Prop where
 |nil:PAs X [] []
 |cons {e:Expr}{es:List Expr}{te:TE}{ts:List TE}(h:PE X e te) (r:PAs X es ts) (n:qC7 e=false:=by rfl):PAs X (e::es) (te::ts)
def tAll:List TE->TA
 |[]=>tNil
 |t::ts=>qn3 t (tAll ts)
theorem PAs.pa {X:Cx}{es:List Expr}{ts:List TE}(h:PAs X es ts):PA X es (tAll ts):=by
 induction h with
 |nil=>exact qa2
 |cons h r n ih=>exact pa_c h ih n
end L2
namespace Pr
open PySem L2 Qf
theorem xK5 {X:Cx}{st:Stmt}{rest:List Stmt}{R:TS->Prop}(h:∃t,PSb X st t/\∃u,PSs X rest u/\R (xy9 t u)):∃t,PSs X (st::rest) t/\R t:=by
 obtain⟨t,h1,u,h2,h3⟩:=h;exact⟨_,qO8 h1.go h2,h3⟩
inductive StI (X:Cx):List Stmt->TS->Prop
 |one {st:Stmt}{t:TS}(h:PSb X st t):StI X [st] t
 |cons {st:Stmt}{rest:List Stmt}{t u:TS}(h:PSb X st t) (r:StI X rest u):StI X (st::rest) (tSeq t u)
 |consI {st:Stmt}{rest:List Stmt}{t u:TS}(h:PSb X st t) (r:StI X rest u):StI X (st::rest) (xy9 t u)
theorem StI.go {X:Cx}:∀{l:List Stmt}{t:TS},StI X l t->PSs X l t
 |_,_,.one h=>qa8 h.go
 |_,_,.cons h r=>qb6 h.go r.go
 |_,_,.consI h r=>qO8 h.go r.go
end Pr
namespace L2
open PySem
def Yl (H0:Hp) (σ:St) (R:Hp->V->Prop) (te:TE):Prop:=∀H,Same H0 H->∀Q:VK,(∀v H',Same H H'->R H' v->Q v H')->te σ H Q
def Yls (H0:Hp) (σ:St) (R:Hp->V->Prop):List TE->Prop
 |[]=>True
 |t::ts=>Yl H0 σ R t/\Yls H0 σ R ts
theorem xg0 {H0:Hp}{σ:St}{R:Hp->V->Prop}(mono:∀H H' v,Same H H'->R H v->R H' v):∀{ts:List TE}{H:Hp},Same H0 H->Yls H0 σ R ts->∀Q:List V->Hp->Prop,(∀vs H',Same H H'->vs.length=ts.length->(∀v∈vs,R H' v)->Q vs H')->tAll ts σ H Q
 |[],H,s,_,Q,h=>h [] H (Same.refl _) rfl λv hv=>nomatch hv
 |t::ts,H,s,y,Q,h=>y.1 H s _ λv H1 s1 r1=>xg0 mono (s.trans s1) y.2 _ λvs H2 s2 l2 r2=>h _ _ (s1.trans s2) (by rw[Zy,Zy,l2]) λx hx=>by
   rcases ZC.mp hx with rfl|hx
   ·exact mono _ _ _ s2 r1
   ·exact r2 x hx
end L2
namespace Pr
open PySem L2
end Pr
namespace L2
open PySem PySem.Spec PyProof.Rows
noncomputable def era (p:Addr->Prop) (H:Hp):Hp:=open Classical in λa=>if p a then none else H a
theorem era_at {p:Addr->Prop}{a:Addr}{H:Hp}{o:HO}:era p H a=some o<->¬p a/\H a=some o:=by
 unfold era;by_cases h:p a
 ·rw[Zt h];exact⟨(λz=>nomatch z),λz=>absurd h z.1⟩
 ·rw[Zm h];exact⟨λz=>⟨h,z⟩,λz=>z.2⟩
theorem xg1 {p:Addr->Prop}{H:Hp}:Same (era p H) H:=λb o e=>(era_at.mp e).2
theorem qH5 {p q:Addr->Prop}{H H':Hp}(k:∀a,q a->p a) (s:∀b o,H b=some o->¬p b->H' b=some o):Same (era p H) (era q H'):=λb o e=>era_at.mpr ⟨λz=>(era_at.mp e).1 (k b z),s _ _ (era_at.mp e).2 (era_at.mp e).1⟩
theorem qr1 {p:Addr->Prop}{H H':Hp}(s:Same H H'):Same (era p H) (era p H'):=qH5 (λ_ z=>z) λb o e _=>s _ _ e
def LsAt (p:Addr->Prop) (H:Hp):Prop:=∀a,p a->∃l,H a=some (.lst l)
def Yd (p:Addr->Prop) (H0:Hp) (σ:St) (te:TE) (d:PyData):Prop:=∀H,Same H0 H->∀Q:VK,(∀v H',Same H H'->DatX (era p H') v d->Q v H')->te σ H Q
inductive Yds (p:Addr->Prop) (H0:Hp) (σ:St):List TE->List PyData->Prop
 |nil:Yds p H0 σ [] []
 |cons {t:TE}{ts:List TE}{d:PyData}{ds:List PyData}(h:Yd p H0 σ t d) (r:Yds p H0 σ ts ds):Yds p H0 σ (t::ts) (d::ds)
section
variable {p:Addr->Prop}{H0:Hp}{σ:St}
theorem xg2 {ts:List TE}{ds:List PyData}(y:Yds p H0 σ ts ds):∀{H:Hp},Same H0 H->∀Q:List V->Hp->Prop,(∀vs H',Same H H'->DatsX (era p H') vs ds->Q vs H')->tAll ts σ H Q:=by
 induction y with
 |nil=>exact λs Q h=>h [] _ (Same.refl _) .nil
 |cons y r ih=>exact λs Q h=>y _ s _ λv H1 s1 d1=>ih (s.trans s1) _ λvs H2 s2 d2=>h _ _ (s1.trans s2) (.cons (d1.same (qr1 s2)) d2)
theorem qT6 {H:Hp}{b:Addr}{o:HO}(hp:LsAt p H0) (s:Same H0 H) (hb:H b=none):era p (upd H b o) b=some o:=era_at.mpr ⟨(λz=>by obtain⟨l,e⟩:=hp b z;rw[s _ _ e] at hb;cases hb),qa1⟩
theorem xg3 (i:Int):Yd p H0 σ (tC (.int i)) (.int i):=λH s Q q=>q _ _ (Same.refl _) (.int i)
theorem qC8 (x:Str):Yd p H0 σ (tC (.str x)) (.str x):=λH s Q q=>q _ _ (Same.refl _) (.str x)
theorem xF0 (b:Bool):Yd p H0 σ (tC (.bl b)) (.bool b):=λH s Q q=>q _ _ (Same.refl _) (.bl b)
theorem xt3:Yd p H0 σ (tC .non) .none:=λH s Q q=>q _ _ (Same.refl _) .non
def Hs (p:Addr->Prop) (R:PyData->Prop):Hp->V->Prop:=λH v=>∃d,DatX (era p H) v d/\R d
theorem qA0 {R:PyData->Prop}:∀H H' v,Same H H'->Hs p R H v->Hs p R H' v:=λH H' v s ⟨d,h,r⟩=>⟨d,h.same (qr1 s),r⟩
theorem qr2 {R:PyData->Prop}{te:TE}{d:PyData}(y:Yd p H0 σ te d) (r:R d):Yl H0 σ (Hs p R) te:=λH s Q q=>y H s Q λv H' s' h=>q v H' s' ⟨d,h,r⟩
theorem xg4 (hp:LsAt p H0):Yd p H0 σ xb1 (.dict []):=λH s Q q b hb=>q _ _ (qb3 hb) (.dic (qT6 hp s hb))
theorem xt4 (hp:LsAt p H0){ts:List TE}{ds:List PyData}(y:Yds p H0 σ ts ds) (h:ds.length<=sizeLine):Yd p H0 σ (tTup (tAll ts)) (.tuple ds):=λH s Q q=>xg2 y s _ λvs H1 s1 d1=>⟨by rw[d1.length];exact h,λb hb=>q _ _ (s1.trans (qb3 hb)) (.tup (qT6 hp (s.trans s1) hb) (d1.same (qr1 (qb3 hb))))⟩
theorem xF1 (hp:LsAt p H0){ts:List TE}{ds:List PyData}(y:Yds p H0 σ ts ds) (h:ds.length<=sizeLine):Yd p H0 σ (tLst (tAll ts)) (.list ds):=λH s Q q=>xg2 y s _ λvs H1 s1 d1=>⟨by rw[d1.length];exact h,λb hb=>q _ _ (s1.trans (qb3 hb)) (.lst (qT6 hp (s.trans s1) hb) (d1.same (qr1 (qb3 hb))))⟩
theorem xK6 {X:Cx}{a:Expr}{ta:TE}{x1:Nat}{pos:Pos}(ha:PE X a ta) (na:qC7 a=false:=by rfl):PE X (.Tuple [a] x1 pos) (tTup (tAll [ta])):=qg0 (@PAs.pa _ _ _ (.cons ha .nil na))
theorem xK7 (hp:LsAt p H0){ta:TE}{a:PyData}(ya:Yd p H0 σ ta a):Yd p H0 σ (tTup (tAll [ta])) (.tuple [a]):=xt4 hp (.cons ya .nil) (by show 1<=sizeLine;decide)
structure Bag (p:Addr->Prop) (R:PyData->Prop) (H0:Hp) (k:Nat) (D:Addr) (H:Hp):Prop where
 ex:∃xs H1,Same H0 H1/\H1 D=none/\Same H1 H/\H D=some (.lst xs)/\xs.length=k/\∀x∈xs,Hs p R H1 x
theorem Bag.same {R:PyData->Prop}{k:Nat}{D:Addr}{H:Hp}(b:Bag p R H0 k D H):Same H0 H:=by
 obtain⟨xs,H1,s,_,t,_⟩:=b;exact s.trans t
theorem xp0 {R:PyData->Prop}{k m:Nat}{D E:Addr}{H2 H3:Hp}{vs:List V}(b:Bag p R H0 k D H2) (s3:Same H2 H3) (l3:vs.length=m) (r3:∀v∈vs,Hs p R H3 v) (hE:H3 E=none) :
  ∃xs,upd H3 E (.lst vs) D=some (.lst xs)/\xs.length=k/\∀G,upd H3 E (.lst vs) G=none->Bag p R H0 (k+m) G (upd (upd H3 E (.lst vs)) G (.lst (xs++vs))):=by
 obtain⟨xs,H1,s1,hn,s2,hD,lx,hx⟩:=b;refine⟨xs,qc0 (s3 _ _ hD) hE,lx,λG hG=>⟨xs++vs,upd H3 E (.lst vs),((s1.trans s2).trans s3).trans (qb3 hE),hG,qb3 hG,qa1,by rw[Zu,lx,l3],λx hx'=>?_⟩⟩;rcases Z1.mp hx' with h|h
 ·exact qA0 _ _ _ ((s2.trans s3).trans (qb3 hE)) (hx x h)
 ·exact qA0 _ _ _ (qb3 hE) (r3 x h)
theorem xg5 {R:PyData->Prop}{ts:List TE}(y:Yls H0 σ (Hs p R) ts) (hl:ts.length<=100) (Q:VK) (q:∀D H',Bag p R H0 ts.length D H'->Q (.ref D) H'):tLst (tAll ts) σ H0 Q:=
 xg0 qA0 (Same.refl _) y _ λvs H1 s1 l1 r1=>⟨by rw[l1];exact ZT (qb5 (by lia)),λD hD=>q D _ ⟨vs,H1,s1,hD,qb3 hD,qa1,l1,r1⟩⟩
theorem xg6 {R:PyData->Prop}{ts:List TE}{i k:Nat}{D:Addr}{H2:Hp}(b:Bag p R H0 k D H2) (e:σ[i]?=some (some (.ref D))) (y:Yls H2 σ (Hs p R) ts) (hl:k+ts.length<=100) (Q:VK) (q:∀D H',Bag p R H0 (k+ts.length) D H'->Q (.ref D) H') :
  tOp rCat (tVar i) (tLst (tAll ts)) σ H2 Q:=by
 refine⟨_,e,xg0 qA0 (Same.refl _) y _ λvs H3 s3 l3 r3=>⟨by rw[l3];exact ZT (qb5 (by lia)),λE hE=>?_⟩⟩;obtain⟨xs,hx,lx,nx⟩:=xp0 b s3 l3 r3 hE;exact⟨D,E,xs,vs,rfl,rfl,hx,qa1,by rw[lx,l3];exact ZT (qb5 (by lia)),λG hG=>q G _ (nx G hG)⟩
theorem qv7 {te:TE}{i:Nat}{rest:TS}{k:Ends}{H:Hp}(h:te σ H λv H'=>rest k (σ.set i (some v)) H'):tSeq (tAsg te (qg8 i)) rest k σ H:=h
theorem qC9 {f:St->Hp->Prop}{σ':St}{H:Hp}(e:σ=σ') (h:f σ' H):f σ H:=by rw[e];exact h
theorem xF2 (hp:LsAt p H0){R:PyData->Prop}{k:Nat}{D:Addr}{H2:Hp}(b:Bag p R H0 k D H2):LsAt (λa=>p a\/a=D) H2:=by
 obtain⟨xs,H1,s1,hn,s2,hD,lx,hx⟩:=b;intro a z;rcases z with z|rfl
 ·obtain⟨l,e⟩:=hp a z;exact⟨l,(s1.trans s2) _ _ e⟩
 ·exact⟨_,hD⟩
theorem xz0 {R:PyData->Prop}{k:Nat}{D:Addr}{H2 H3:Hp}{v:V}{d:PyData}(b:Bag p R H0 k D H2) (s3:Same H2 H3) (d3:DatX (era (λa=>p a\/a=D) H3) v d) (r:R d):∃xs,H3 D=some (.lst xs)/\xs.length=k/\Bag p R H0 (k+1) D (upd H3 D (.lst (xs++[v]))):=by
 obtain⟨xs,H1,s1,hn,s2,hD,lx,hx⟩:=b;have s13:Same H1 (era (λa=>a=D) H3):=λa o e=>era_at.mpr ⟨(λz=>by rw[z,hn] at e;cases e),(s2.trans s3) _ _ e⟩;refine⟨xs,s3 _ _ hD,lx,⟨xs++[v],era (λa=>a=D) H3,s1.trans s13,?_,λa o e=>?_,qa1,by rw[Zu,lx];rfl,λx hx'=>?_⟩⟩
 ·cases e:era (λa=>a=D) H3 D with
  |none=>rfl
  |some o=>exact absurd rfl (era_at.mp e).1
 ·rw[qa7 (era_at.mp e).1];exact (era_at.mp e).2
 ·rcases Z1.mp hx' with h|h
  ·exact qA0 _ _ _ s13 (hx x h)
  ·have:x=v:=by simpa using h
   subst this;exact⟨d,d3.same λa o e=>era_at.mpr ⟨λz=>(era_at.mp e).1 (.inl z),era_at.mpr ⟨λz=>(era_at.mp e).1 (.inr z),(era_at.mp e).2⟩⟩,r⟩
theorem qY8 {R:PyData->Prop}{k i:Nat}{pp D:Addr}{H H':Hp}{o:HO}(b:Bag (λa=>a=pp) R H0 k D H) (hpp:H0 pp=some o) (but:∀b o,H b=some o->b≠pp->H' b=some o) (hi:i<k):∃xs x d,H' D=some (.lst xs)/\xs[i]?=some x/\DatX (era (λa=>a=pp) H') x d/\R d:=by
 obtain⟨xs,H1,s1,hn,s2,hD,lx,hx⟩:=b;have ne:D≠pp:=λz=>by rw[z,s1 _ _ hpp] at hn;cases hn
 have hi':i<xs.length:=by lia
 obtain⟨d,h1,h2⟩:=hx xs[i] (YO hi');exact⟨xs,xs[i],d,but _ _ hD ne,by simp[hi'],h1.same ((qr1 s2).trans (qH5 (λ_ z=>z) but)),h2⟩
end
end L2
namespace Pr
open PySem L2 Qf
def isAd (n:Nat):PyData->Bool
 |.str x=>decide (x.length<=n)&&x.cps.toList.all four
 |_=>false
theorem qH6 {n:Nat}{ds:List Nat}(h:∀d∈ds,d<4) (hl:ds.length<=n):isAd n (.str (txt ds))=true:=by
 show (decide ((txt ds).length<=n)&&(txt ds).cps.toList.all four)=true;rw[qd2,Zj hl,Bool.true_and,Ym];intro c hc;have:c∈ds.map (48+·):=by simpa [txt] using hc
 obtain⟨d,hd,rfl⟩:=Yo.mp this;exact xn9 (h d hd)
def IsSh (d:PyData):Prop:=∃n tp rows,d=qe6 n tp rows/\Canon n tp rows
theorem q46 (d:PyData){K:PySem.W.Frag}:∃b,PySem.W.kitOne K (tyD d) (.type "str")=some b/\(b=true<->∃x,d=.str x):=by
 cases d with
 |str x=>exact⟨true,rfl,λ_=>⟨x,rfl⟩,λ_=>rfl⟩
 |_=>exact⟨false,rfl,(λz=>by cases z),(λ⟨x,e⟩=>by cases e)⟩
section
variable {P:Program}{w:World}{K:PySem.W.Frag}{mg:Str->Option Value}{base:Heap}
theorem scAddr:FnScope ["n", "thing"] ["n", "thing"] (qa3 xb4):=qd0
def qT7:Sp:=λvs H Q _=>∃(n:Nat) (v:V) (d:PyData),vs=[.int (n:Nat),v]/\n<=12/\DatX H v d/\(∀x,d=.str x->x.length<=100)/\∀H',Same H H'->Q (.bl (isAd n d)) H'
theorem xp1 {f:Addr}{fd:FuncData}(F:Fun K "is_address" "is_address" xb4 f fd) (B:Blt mg) (kP:mg "str" = none):FnOk P w K mg base CX0 2 f fd ["n", "thing"] qT7:=by
 refine F.ok scAddr (λvs H Q E h=>?_) (λcdv A outer s H vs Q E hr h=>?_)
 ·obtain⟨n,v,d,rfl,_⟩:=h
  rfl
 ·obtain⟨n,v,d,rfl,hn,hd,hx,q⟩:=h;refine⟨_,qa8 (qa9 (qi4 (qa6 qd6 (by rfl) B.isi ZA (qa0 (pv 1) (qa0 (qh0 (v:=.ty "str") (by rfl) kP PyProof.Rows.boot_str rfl) qa2)))
   (qi4 (qf7 qr9 (qa6 qe1 (by rfl) B.len ZM (qa0 (pv 1) qa2)) (pv 0) (qb4 _))
   (qj3 (qa6 (ql3 rfl) (by rfl) B.all Xf (qa0 (qg6 ["n", "thing"] (qa3 xb4) rfl rfl rfl scAddr.nd (xb0 (pv 1)) (λcl C fp s₀ H₀=>qf7 qw7 (pv 0) qc2 (by first|exact qb4 _|rfl|decide))) qa2)))))),?_⟩
  obtain⟨b,kb,hb⟩:=q46 d (K:=K);refine⟨_,rfl,_,_,_,_,b,rfl,rfl,.inl hd.ty,kb,_,rfl,?_⟩;cases b with
  |false=>
   refine iteF ?_;have:isAd n d=false:=by
    cases d with
    |str x=>exact absurd (hb.mpr ⟨x,rfl⟩) (by decide)
    |_=>rfl
   rw[this] at q;exact q H (Same.refl _)
  |true=>
   obtain⟨x,rfl⟩:=hb.mp rfl;have hx:=hx x rfl;cases hd;refine iteT ?_;refine⟨_,rfl,x,rfl,ZT (qb5 (by lia)),_,rfl,_,_,rfl,rfl,_,rfl,?_⟩;by_cases hl:x.length<=n
   rotate_left
   ·rw[Zp (by lia)];refine iteF ?_;have:isAd n (.str x)=false:=by show (decide (x.length<=n)&&_)=false;rw[Zp hl];rfl
    rw[this] at q;exact q H (Same.refl _)
   rw[Zj (by lia)];refine iteT ?_;have hsz:x.cps.size=x.length:=rfl;refine⟨_,rfl,x,rfl,λD hD=>⟨λi m xs H2=>i<=x.length/\m=x.length-i/\xs=((x.cps.toList.take i).map four).map V.bl/\H2=upd H D (.lst xs),⟨_,ZB _,rfl,rfl,rfl⟩,?_⟩⟩;rintro i m xs H2 ⟨hi,rfl,rfl,rfl⟩;refine⟨qa1,qb5 (by simp;lia),?_⟩;by_cases he:i=x.length
   ·refine .inl ⟨by show x.cps.size<=i;lia,D,(x.cps.toList.take i).map four,rfl,qa1,?_⟩;have e1:((x.cps.toList.take i).map four).all id=isAd n (.str x):=by
     show _=(decide (x.length<=n)&&x.cps.toList.all four);rw[Zj hl,Bool.true_and,Wy (by simp;lia),Vt]
     rfl
    rw[e1];exact q _ λb o e=>by rw[qa7 (qa4 e hD)];exact e
   ·refine .inr ⟨show i<x.cps.size by lia,?_⟩;rintro y H3 ⟨rfl,c,hcc,rfl⟩;refine⟨_,rfl,_,_,rfl,rfl,qa1,x.length-(i+1),by lia,by lia,rfl,?_,qw3⟩;have hc2:x.cps.toList[i]?=some c:=by simpa using hcc
    rw[XY,hc2,Option.toList_some,ZR,ZR]
    rfl
theorem xz1:FnScope ["n", "address"] ["n", "address"] (qa3 qM2):=qd0
def qv8 (C:Addr):Sp:=λvs H Q E=>∃(n:Nat) (v:V) (d:PyData),vs=[.int (n:Nat),v]/\n<=12/\DatX H v d/\(∀x,d=.str x->x.length<=100)/\(isAd n d=true->∀H',Same H H'->Q .non H')/\(isAd n d=false->∀H',Same H H'->E (.ref C) none H')
theorem xg7 {f fA C:Addr}{fd fdA:FuncData}(F:Fun K "want_address" "want_address" qM2 f fd) (hC:mg "NoAddress" = some (.ref C)) (hx:PySem.W.excIn K C bmV "ValueError.__new__" = true)
  (hA:mg "is_address" = some (.ref fA)) (FA:Fun K "is_address" "is_address" xb4 fA fdA) (bA:Binds K fdA ["n", "thing"] []) (GA:FnOk P w K mg base CX0 2 fA fdA ["n", "thing"] qT7) :
  FnOk P w K mg base (CX1 P w) 3 f fd ["n", "address"] (qv8 C):=by
 refine F.ok1 xz1 (λvs H Q E h=>?_) (λcdv A outer s H vs Q E hr h=>?_)
 ·obtain⟨n,v,d,rfl,_⟩:=h
  rfl
 ·obtain⟨n,v,d,rfl,hn,hd,hl,q1,q2⟩:=h;refine⟨_,qa8 (qc9 (qh2 (qe3 (pcN GA hr hA FA.kp bA (qa0 (pv 0) (qa0 (pv 1) qa2))))) (qa8 (qE8 (by rfl) hC hx rfl qR4 (qa0 qc2 qa2))) qb1),?_⟩;refine⟨_,rfl,_,rfl,n,v,d,rfl,hn,hd,hl,λH' s'=>⟨_,rfl,?_⟩⟩;cases e:isAd n d with
  |true=>exact iteF (q1 e H' s')
  |false=>exact iteT ⟨by decide,q2 e H' s'⟩
def qv9 (C:Addr):Sp:=λvs H Q E=>∃(v:V) (d:PyData),vs=[v]/\DatX H v d/\Bnd d/\(IsSh d->∀H',Same H H'->Q .non H')/\(¬IsSh d->∀H',Same H H'->E (.ref C) none H')
theorem xg8 {f fS C:Addr}{fd fdS:FuncData}(F:Fun K "want_shape" "want_shape" qM4 f fd) (hC:mg "NoShape" = some (.ref C)) (hx:PySem.W.excIn K C bmV "ValueError.__new__" = true)
  (hS:mg "is_shape" = some (.ref fS)) (FS:Fun K "is_shape" "is_shape" qB5 fS fdS) (bS:Binds K fdS ["thing"] []) (GS:FnOk P w K mg base CX0 15 fS fdS ["thing"] qH4) :
  FnOk P w K mg base (CX1 P w) 16 f fd ["shape"] (qv9 C):=by
 refine F.ok1 xx7 (λvs H Q E h=>?_) (λcdv A outer s H vs Q E hr h=>?_)
 ·obtain⟨x,d,rfl,_⟩:=h
  rfl
 ·obtain⟨x,d,rfl,hx',bn,q1,q2⟩:=h;refine⟨_,qa8 (qc9 (qh2 (qe3 (pcN GS hr hS FS.kp bS (qa0 (pv 0) qa2)))) (qa8 (qE8 (by rfl) hC hx rfl qR4 (qa0 qc2 qa2))) qb1),?_⟩;refine⟨_,rfl,x,d,rfl,hx',bn,λb H' hb s'=>⟨_,rfl,?_⟩⟩;cases b with
  |true=>exact iteF (q1 (hb.mp rfl) H' s')
  |false=>exact iteT ⟨by decide,q2 (λz=>Bool.noConfusion (hb.mpr z)) H' s'⟩
end
end Pr
namespace Sp
open PySem PySem.StrLaws Builtin Builtin.Str
def ofL (l:List Nat):Str:=⟨l.toArray⟩
theorem xg9 (l:List Nat):(ofL l).cps.toList=l:=by simp[ofL]
end Sp
namespace L2
open PySem PySem.Spec PyProof.Rows PySem.W
section
variable {X:Cx}
theorem qD0:SlR X (λx lo hi H Q=>∃(z:Str) (j:Int),x=.str z/\lo=some j/\hi=none/\z.length<=sizeLine/\Q (.str (Txt.slice z (some j) none)) H):=by
 intro j4 s σ H x v vl vu lo hi sl Q I rx hs pl pu h;obtain⟨z,j,rfl,rfl,rfl,hz,q⟩:=h;obtain⟨t,rfl⟩:=rx;cases pu;cases pl with
 |int i uj=>
  refine⟨"str",_,F.slot_str_getitem.lookup,typeIs_str _ _ _,wpAny_getItem_str_slice (l:=some (j,uj)) (u:=none) (st:=none) hs rfl (post_val_or_str ⟨ZE (Txt.slice_le z _ _) hz,λt' k=>?_⟩)⟩;exact⟨.str _,H,I.tok _,⟨_,rfl⟩,q⟩
end
end L2
namespace Pr
open PySem L2 Qf Sp
theorem qY9 (ds:List Nat):txt ds=ofL (ds.map (48+·)):=rfl
theorem qZ0 (l:List Nat):(ofL l).length=l.length:=by simp[ofL,Str.length]
theorem qZ1 (ds:List Nat){j:Nat}(h:j<=ds.length):Txt.slice (txt ds) (some (j:Int)) none=txt (ds.drop j):=by
 have hl:(ofL (ds.map (48+·))).length=ds.length:=by rw[qZ0,Zi]
 have k:=PyProof.Rows.slice_closes_fromL (x:=ofL (ds.map (48+·))) (i:=(j:Int)) (b:=ds.length) (by lia) (by rw[hl];lia) (by rw[hl]);rw[qY9,qY9,eq_of_beq k,xg9,List.map_drop];unfold ofL;congr 2;rw[Z5,Wy (by rw[Vk,Zi];lia)]
theorem qZ2 (ds:List Nat){j:Nat}(h:j<=ds.length):Txt.slice (txt ds) none (some (j:Int))=txt (ds.take j):=by
 have hl:(ofL (ds.map (48+·))).length=ds.length:=by rw[qZ0,Zi]
 have k:=PyProof.Rows.slice_closes_toL (x:=ofL (ds.map (48+·))) (j:=(j:Int)) (by lia) (by rw[hl];lia);rw[qY9,qY9,eq_of_beq k,xg9,List.map_take];unfold ofL;congr 2
end Pr
namespace Pr
open PySem L2 Qf
theorem xF3 {ds:List Nat}{p:Nat}(h:p∉ds):putK (qk0++fK ds) (fKey p) (.int (2+ds.length:Nat))=qk0++fK (ds++[p]):=by
 unfold putK fK;rw[qi5,qz0,qX8,qq6 qX7,Zm h,Zm (by decide),qN3,YF]
theorem xF4 {E:List Nat}{i q:Nat}(h:InE (E.take i) q):nm (E.take i) q=nm E q:=by
 by_cases z:q<2
 ·rw[qi7 z,qi7 z]
 ·rw[qg4 z,qg4 z];have hm:=h.resolve_left z
  conv=>rhs;rw[<- XN i E]
  rw[Vg,Zt hm]
section
variable {P:Program}{w:World}{K:PySem.W.Frag}{mg:Str->Option Value}{base:Heap}
theorem scRenum:FnScope ["row", "numbers"] ["row", "numbers"] (qa3 qt9):=qd0
def xh0:Sp:=λvs H Q _=>∃(b g:Addr) (r:Row) (kvs:List (Key×V)) (f:Nat->Nat),vs=[.ref b,.ref g]/\H b=some (.tup (vN r))/\r.length=4/\H g=some (.dK kvs)/\(∀q∈r,valV kvs (Sum.inl (q:Int))=some (.int (f q:Nat))) /\
 ∀(H':Hp) (t:Addr),Same H H'->H' t=some (.tup (vN (r.map f)))->Q (.ref t) H'
theorem xp2 {f:Addr}{fd:FuncData}(F:Fun K "renumbered" "renumbered" qt9 f fd) (B:Blt mg):FnOk P w K mg base CX0 1 f fd ["row", "numbers"] xh0:=by
 refine F.ok scRenum (λvs H Q E h=>?_) (λcdv A outer s H vs Q E hr h=>?_)
 ·obtain⟨b,g,r,kvs,f,rfl,_⟩:=h
  rfl
 ·obtain⟨b,g,r,kvs,ff,rfl,hb,h4,hg,hv,q⟩:=h;have hu:A.units+3+1<cLine:=by
   have h2:A.units+3+16*0+200<cLine:=hr.un;lia
  refine qe5 ⟨_,⟨qa9 (qc1 (tupO K rfl) (by rfl) B.tuple ZH (qa0 (qg6 ["row", "numbers"] (qa3 qt9) rfl rfl rfl scRenum.nd (qw4 (pv 0)) (λcl C fp s₀ H₀=>qs2 hu (pv 2) (pv 0) (λ_ _=>rfl))) qa2))⟩,?_⟩;refine⟨_,rfl,b,rfl,⟨_,SqT.of hb⟩,λD hD=>qi0 hD (λi z _=>∃m:Nat,r[i]?=some m/\z=.int (ff m:Nat)) (qm4 (K:=K) hb) (by rw[qf3,h4];decide) (λ_ _ _ _ _ _ h=>h) ?_ ?_⟩
  ·intro i x H2 hi hx s2 Q' hq;obtain⟨m,hm,rfl⟩:=qB7 hx;have dg:DGet H2 g (.int (m:Int)) (some (.int (ff m:Nat))):=by
    have:=DGet.k (k:=Sum.inl (m:Int)) (s2 _ _ hg);rw[hv m (Zs hm)] at this;exact this
   exact⟨_,rfl,_,rfl,g,_,rfl,dg,hq _ _ (Same.refl _) ⟨m,hm,rfl⟩⟩
  ·intro ys H2 s2 jW kZ vG;have ey:ys=vN (r.map ff):=by
    refine qi8 (by rw[kZ,qf3,qf3,Zi]) λi x hx=>?_;obtain⟨m,hm,rfl⟩:=vG i x hx;exact xm3 (by rw[Zg,hm];rfl)
   subst ey;exact⟨D,_,rfl,.inl ⟨SqL.of jW,λl hl=>q _ l (s2.trans (qb3 hl)) qa1⟩⟩
abbrev nSO:List Str:=["n", "top", "rows", "numbers", "told", "place"]
theorem scSO:FnScope nSO ["n", "top", "rows"] (qa3 qq0):=qd0
def spSO:Sp:=λvs H Q _=>∃(rp:Addr) (n tp:Nat) (rows:List Row),vs=[.int (n:Nat),.int (tp:Nat),.ref rp]/\RowsS H rp rows/\qb7 rows/\rows.length<=1190900/\tp<rows.length+2/\n<=12/\dp rows tp<=n /\
 ∀(H':Hp) (t:Addr),Same H H'->TellAt H' t n (nm (dfs rows n [] tp) tp) (told rows (dfs rows n [] tp))->Q (.ref t) H'
theorem xK8 {f fP fE fR:Addr}{fd fdP fdE fdR:FuncData}(F:Fun K "shape_of" "shape_of" qq0 f fd) (B:Blt mg) (T:Cst mg) (hem0:∃t,mg "EMPTY" = some (.int 0 t))
  (hP:mg "places_as_ended" = some (.ref fP)) (FP:Fun K "places_as_ended" "places_as_ended" qy4 fP fdP) (bP:Binds K fdP ["rows", "top"] [])
  (hE:mg "end_rows" = some (.ref fE)) (FE:Fun K "end_rows" "end_rows" sEnd fE fdE) (bE:Binds K fdE ["rows", "number", "ended"] [])
  (hR:mg "renumbered" = some (.ref fR)) (FR:Fun K "renumbered" "renumbered" qt9 fR fdR) (bR:Binds K fdR ["row", "numbers"] []):FnOk P w K mg base CX0 15 f fd ["n", "top", "rows"] spSO:=by
 have GP:∀d,FnOk P w K mg base CX0 (d+2) fP fdP ["rows", "top"] (qv2 d):=λd=>qM9 FP B T hE FE bE d;have GR:FnOk P w K mg base CX0 1 fR fdR ["row", "numbers"] xh0:=xp2 FR B;obtain⟨te,hem⟩:=hem0;obtain⟨tu,hfu⟩:=T.full;obtain⟨tf,hfi⟩:=T.first;refine F.ok scSO (λvs H Q E h=>?_) (λcdv A outer s H vs Q E hr h=>?_)
 ·obtain⟨rp,n,tp,rows,rfl,_⟩:=h
  rfl
 ·obtain⟨rp,n,tp,rows,rfl,hRw,ok,hl,kN,hn,hd,q⟩:=h;have hu:A.units+3+1<cLine:=by
   have h2:A.units+3+16*14+200<cLine:=hr.un;lia
  have hrP:Room (n+2) _:=hr.mono (by lia);have jD:Room 1 _:=hr.mono (by decide);refine seqE ⟨_,qy9 (i:=3) scSO.nd rfl (by first|left;rfl|right;rfl) (xn7 (.cons ⟨qc6 (v:=.int 0) (by rfl) hem ⟨_,rfl⟩⟩ ⟨qc6 (v:=.int 0) (by rfl) hem ⟨_,rfl⟩⟩ (.cons ⟨qc6 (v:=.int 1) (by rfl) hfu ⟨_,rfl⟩⟩ ⟨qc6 (v:=.int 1) (by rfl) hfu ⟨_,rfl⟩⟩ .nil)) rfl rfl (λz=>nomatch z) (by decide)) rfl rfl,?_⟩;refine seqE ⟨_,⟨psN 4 scSO.nd (qg1 qa2)⟩,?_⟩;refine seqE ⟨_,⟨qo6 YS rfl (qD6 (pcN (GP n) hrP hP FP.kp bP (qa0 (pv 2) (qa0 (pv 1) qa2)))) (pgN 5 scSO.nd)
   (StB.go (.cons ⟨qf0 (PEb.go (qu4 ZY Z7 Z8 qe4 ⟨pv 4⟩ (.cons ⟨pcN GR jD hR FR.kp bR (qa0 (pxN (ixS K rfl) (pv 2) (pv 5)) (qa0 (pv 3) qa2))⟩ .nil rfl)))⟩
    (.one ⟨qs3 hu (pv 3) (qb0 qc4 (pv 5) (qc6 (v:=.int 2) (by rfl) hfi ⟨_,rfl⟩)) (qb0 qc4 (qb0 qe0 (qa6 qb9 (by rfl) B.len ZM (qa0 (pv 4) qa2)) qa5) (qc6 (v:=.int 2) (by rfl) hfi ⟨_,rfl⟩)) (by rfl)⟩)))⟩,?_⟩
  refine qe5 ⟨_,⟨qa9 (qg0 (Ars2.go (.cons ⟨pv 0⟩ (.cons ⟨qs2 hu (pv 3) (pv 1) (λ_ _=>rfl)⟩ (.cons ⟨qc1 (tupO K rfl) (by rfl) B.tuple ZH (qa0 (pv 4) qa2)⟩ .nil rfl) rfl) rfl)))⟩,?_⟩;refine λg hg=>⟨qa1,qk0,rfl,(by show 2<=15;decide),?_⟩;have eg:qB1 [] qk0=qk0:=by rfl
  rw[eg];have S1:Same H (upd (upd H g (.dK [])) g (.dK qk0)):=λb u z=>by rw[qa7 (qa4 z hg)];exact qc0 z hg
  have hg1:upd (upd H g (.dK [])) g (.dK qk0) g=some (.dK qk0):=qa1;generalize upd (upd H g (.dK [])) g (.dK qk0)=H1 at S1 hg1 ⊢;refine⟨(by show 0<=sizeLine;decide),λD hD=>?_⟩;have hDH:H D=none:=by
   cases z:H D with
   |none=>rfl
   |some o=>rw[S1 _ _ z] at hD;cases hD
  have ngD:g≠D:=qa4 hg1 hD;have S2:Same H (upd H1 D (.lst [])):=S1.trans (qb3 hD);refine⟨_,rfl,_,rfl,rp,tp,rows,rfl,hRw.same S2,ok,hl,kN,hd,λH3 LE s3 yA=>?_⟩;have hg3:=s3 _ _ (qc0 (u:=.lst []) hg1 hD);have hD3:=s3 _ _ (qa1 (H:=H1) (a:=D) (o:=.lst []));have S3:=S2.trans s3;have nLg:LE≠g:=λz=>by rw[z,hg3] at yA;cases yA
  obtain⟨pe,hxE⟩:=qf8 ok n [] tp (qi6 rows) kN hd;generalize dfs rows n [] tp=es at yA pe hxE q;have vE:=qG1 pe;obtain⟨bs,wF,kK,jB⟩:=id hRw;refine⟨LE,rfl,⟨_,SqL.of yA⟩,qU6 (K:=K) (a:=LE) (xs:=vN es) (λi σ H2=>Same H H2/\H2 LE=some (.lst (vN es))/\H2 g=some (.dK (qk0++fK (es.take i)))/\RowsL H2 D ((told rows es).take i) /\
    ∃v5,σ=[some (.int (n:Nat)),some (.int (tp:Nat)),some (.ref rp),some (.ref g),some (.ref D),v5])
   ⟨S3,yA,hg3,⟨[],hD3,rfl,λi b r e=>by simp at e⟩,none,rfl⟩ (λi σ H2 _ h=>SqL.of h.2.1) ?_ ?_⟩
  ·rintro i y σ H2 hy ⟨s2,hL2,k9,⟨cs,kM,hcl,hcr⟩,v5,rfl⟩;obtain⟨m,hm,rfl⟩:=qB7 hy;have hie:=(gS_ hm).1;have nLD:LE≠D:=λz=>by
    rw[z,hD3] at yA;have:vN es=[]:=by
     injection yA with h1
     injection h1 with h2
     exact h2.symm
    have h3:(vN es).length=0:=by rw[this];rfl
    rw[qf3] at h3;lia
   have hml:=pe.lt m (Zs hm);have hgm:=qf2 hml;have hti:=qo1 (rows:=rows) hm;have h4:=(ok m _ hgm).1;have jL:∀x∈rows.getD m [],InE (es.take i) x:=λx hx=>by
    rcases pe.ch i m hm x hx with z|⟨j,hj,ej⟩
    ·exact .inl z
    ·exact .inr (Zs (i:=j) (by rw[List.getElem?_take,Zt hj];exact ej))
   have hni:m∉es.take i:=λz=>by
    obtain⟨j,hj,ej⟩:=ZJ.mp z;rw[ZS] at hj;have e1:es[j]?=some m:=by
     rw[List.getElem_take] at ej;rw[Zb (by lia),ej]
    exact nd_iff.mp pe.nd j i (by lia) hie (by rw[e1,hm])
   have htl:(es.take i).length=i:=by rw[ZS];lia
   generalize rows.getD m []=r at hgm hti h4 jL;have hbm:bs[m]?=some (bs[m]'(by lia)):=Zb (by lia);have kU:=s2 _ _ (jB m _ r hbm hgm);have ixx:∀Q':VK,Q' (.ref (bs[m]'(by lia))) H2->rIxS K (.ref rp) (.int (m:Int)) H2 Q':=λQ' hQ=>by
    rcases wF with h|h
    ·exact .inr ⟨rp,_,(m:Int),.ref (bs[m]'(by lia)),rfl,rfl,SqT.of (s2 _ _ h),qd8 (by rw[Zg,hbm];rfl),hQ⟩
    ·exact .inl ⟨rp,_,(m:Int),.ref (bs[m]'(by lia)),rfl,rfl,SqL.of (s2 _ _ h),qd8 (by rw[Zg,hbm];rfl),hQ⟩
   refine⟨_,rfl,.inl ⟨rfl,_,SqL.of kM⟩,_,rfl,_,rfl,ixx _ ⟨_,rfl,bs[m]'(by lia),g,r,_,nm es,rfl,kU,h4,k9,λx hx=>by rw[xs6 (jL x hx),xF4 (jL x hx)],λH4 t s4 ht=>?_⟩⟩;have wN:=s4 _ _ kM;have ntD:t≠D:=λz=>by rw[z,wN] at ht;cases ht
   have hci:cs.length=i:=by rw[hcl,ZS,qf9];lia
   refine⟨D,_,.ref t,rfl,rfl,wN,by rw[Zi,hci];exact qB9 (by lia),?_⟩;have j6:((cs.map V.ref++[V.ref t]).length:Int)=(i:Int)+1:=by rw[Zu,Zi,hci];rfl
   have hg5:upd H4 D (.lst (cs.map V.ref++[.ref t])) g=some (.dK (qk0++fK (es.take i))):=by rw[qa7 ngD];exact s4 _ _ k9
   have dq:=DPut.k (k:=Sum.inl ((m:Int)+2)) (v:=.int (((cs.map V.ref++[V.ref t]).length:Int)-1+2)) hg5 (by
    have:(qk0++fK (es.take i)).length=2+i:=by rw[Zu];unfold fK;rw[qj0,htl];rfl
    rw[this];exact qB9 (by lia))
   refine⟨_,rfl,D,_,rfl,.inl (SqL.of qa1),_,_,rfl,rfl,_,_,rfl,rfl,_,rfl,_,rfl,_,_,rfl,rfl,g,_,rfl,dq,?_⟩
   ·have eput:putK (qk0++fK (es.take i)) (Sum.inl ((m:Int)+2)) (.int (((cs.map V.ref++[V.ref t]).length:Int)-1+2))=qk0++fK (es.take (i+1)):=by
     have h1:=xF3 hni;have h2:es.take (i+1)=es.take i++[m]:=by
      rw[XY,hm];rfl
     rw[h2,<- h1,htl];congr 1;rw[j6];congr 1;lia
    have eput':∀v:V,v=.int (((cs.map V.ref++[V.ref t]).length:Int)-1+2)->putK (qk0++fK (es.take i)) (Sum.inl ((m:Int)+2)) v=qk0++fK (es.take (i+1)):=λv hv=>by rw[hv];exact eput
    refine⟨?_,?_,?_,⟨cs++[t],?_,?_,?_⟩,_,rfl⟩
    ·intro b o z;rw[qa7 (qa4 z hg),qa7 (qa4 z hDH)];exact s4 _ _ (s2 _ _ z)
    ·rw[qa7 nLg,qa7 nLD];exact s4 _ _ hL2
    ·rw[qa1,eput' _ rfl]
    ·rw[qa7 (Z0 ngD),qa1,qG3]
    ·rw[Zu,hci,ZS,qf9];show i+1=_;lia
    ·intro j b r0 e1 e2;have ntg:∀{c:Addr}{u:List V},H4 c=some (.tup u)->c≠g/\c≠D:=λ{c u} e=>⟨(λz=>by rw[z,s4 _ _ k9] at e;cases e),(λz=>by rw[z,wN] at e;cases e)⟩;have htk:(told rows es).take (i+1)=(told rows es).take i++[r.map (nm es)]:=by rw[XY,hti];rfl
     rw[htk] at e2;by_cases hj:j<i
     ·rw[Zo (by lia)] at e1;rw[Zo (by rw[ZS,qf9];lia)] at e2;have hb:=s4 _ _ (hcr j b r0 e1 e2);rw[qa7 (ntg hb).1,qa7 (ntg hb).2];exact hb
     ·rw[Zv (by lia)] at e1;rw[Zv (by rw[ZS,qf9];lia)] at e2;have w6:j-cs.length=0:=by
       have:=(gS_ e1).1;simp at this;lia
      have hj1:j-((told rows es).take i).length=0:=by
       rw[ZS,qf9];lia
      rw[w6] at e1;rw[hj1] at e2;have eb:b=t:=by simpa using e1.symm
      have er:r0=r.map (nm es):=by simpa using e2.symm
      rw[eb,er,qa7 (ntg ht).1,qa7 ntD];exact ht
  ·rintro σ H2 ⟨s2,hL2,k9,y9,v5,rfl⟩;rw[qf3,YT] at k9;have htk:(told rows es).take (vN es).length=told rows es:=by rw[qf3];exact Wy (by rw[qf9];exact Zd _)
   rw[htk] at y9;obtain⟨cs,kM,hcl,hcr⟩:=y9;have dg:DGet H2 g (.int (tp:Int)) (some (.int (nm es tp:Nat))):=by
    have:=DGet.k (k:=Sum.inl (tp:Int)) k9;rw[xs6 hxE] at this;exact this
   refine⟨_,rfl,_,rfl,_,rfl,g,_,rfl,dg,_,rfl,D,_,rfl,.inl ⟨SqL.of kM,λl hl=>⟨(by show 3<=sizeLine;decide),λt ht=>?_⟩⟩⟩;exact q _ t ((s2.trans (qb3 hl)).trans (qb3 ht)) ⟨l,qa1,cs,qc0 qa1 ht,hcl,λi b r e1 e2=>qc0 (qc0 (hcr i b r e1 e2) hl) ht⟩
end
end Pr
namespace Qf
open Tr
def mkT (a b c d:Tr):Tr:=if a=z/\b=z/\c=z/\d=z then z else if a=o/\b=o/\c=o/\d=o then o else .nd a b c d
def ins (t:Tr) (L:List Tr):List Tr:=if t=z\/t=o\/t∈L then L else L++[t]
theorem qA1 (t:Tr) (L:List Tr):∃s,ins t L=L++s/\s.length<=1:=by
 unfold ins;split
 ·exact⟨[],by simp,by decide⟩
 ·exact⟨[t],rfl,Zd 1⟩
theorem xt5 (t:Tr) (L:List Tr):In (ins t L) t:=by
 unfold ins;split
 ·assumption
 ·exact .inr (.inr (by simp))
theorem xh1 {L:List Tr}(h:Ord L){a b c d:Tr}(ha:In L a) (hb:In L b) (hc:In L c) (hd:In L d):Ord (ins (mkT a b c d) L):=by
 unfold ins;split
 ·exact h
 ·rename_i hn;have e:mkT a b c d=.nd a b c d:=by
   unfold mkT at hn ⊢;split
   ·rename_i h1;rw[Zt h1] at hn;exact absurd (.inl rfl) hn
   ·rename_i h1;rw[Zm h1] at hn;split
    ·rename_i h2;rw[Zt h2] at hn;exact absurd (.inr (.inl rfl)) hn
    ·rfl
  rw[e] at hn ⊢;have nm:Tr.nd a b c d∉L:=λz=>hn (.inr (.inr z));refine⟨?_,?_⟩
  ·rw[Wt];exact⟨h.nd,by simp,λx hx y hy e=>nm (by
    have:y=.nd a b c d:=by simpa using hy
    rw[<- this,<- e];exact hx)⟩
  ·intro i t ht;by_cases hi:i<L.length
   ·rw[Zo hi] at ht;obtain⟨h1,h2⟩:=h.ch i t ht;refine⟨h1,λs hs=>(h2 s hs).imp id λh=>h.imp id λ⟨j,hj,e⟩=>⟨j,hj,?_⟩⟩;rw[Zo (by lia)];exact e
   ·have j6:=(gS_ ht).1;rw[Zu] at j6;have vW:i=L.length:=by simp at j6;lia
    subst vW;have et:t=.nd a b c d:=by simpa using ht.symm
    subst et;refine⟨⟨a,b,c,d,rfl⟩,λs hs=>?_⟩;have jL:In L s:=by
     have:s=a\/s=b\/s=c\/s=d:=by simpa [kids] using hs
     rcases this with rfl|rfl|rfl|rfl<;>assumption
    refine jL.imp id λh=>h.imp id λhm=>?_;obtain⟨j,hj,e⟩:=ZJ.mp hm;exact⟨j,hj,by rw[Zo hj,Zb hj,e]⟩
theorem xt6 {a b c d:Tr}(h1:¬(a=z/\b=z/\c=z/\d=z)) (h2:¬(a=o/\b=o/\c=o/\d=o)):mkT a b c d=.nd a b c d:=by
 unfold mkT;rw[Zm h1,Zm h2]
theorem plain_names {L:List Tr}{a b c d:Tr}:qh3 [name L a,name L b,name L c,name L d]<->(a=z/\b=z/\c=z/\d=z)\/(a=o/\b=o/\c=o/\d=o):=by
 constructor
 ·rintro (e|e)
  ·simp only[Y1,Vo] at e;exact .inl ⟨qd7 e.1,qd7 e.2.1,qd7 e.2.2.1,qd7 e.2.2.2⟩
  ·simp only[Y1,Vo] at e;exact .inr ⟨qe9 e.1,qe9 e.2.1,qe9 e.2.2.1,qe9 e.2.2.2⟩
 ·rintro (⟨rfl,rfl,rfl,rfl⟩|⟨rfl,rfl,rfl,rfl⟩)
  ·exact .inl rfl
  ·exact .inr rfl
end Qf
namespace Pr
open PySem L2 Qf
theorem kn:¬(("kept" : Str) = "numbers"):=by decide +kernel
def qH7 (k d:Addr):List (Str×V):=putF "numbers" (.ref d) (putF "kept" (.ref k) [])
theorem qn0 (k d:Addr):(qH7 k d).lookup ("kept" : Str)=some (.ref k):=by
 unfold qH7;rw[qf1,Zm kn,qf1,Zt rfl]
theorem qr3 (k d:Addr):(qH7 k d).lookup ("numbers" : Str)=some (.ref d):=by
 unfold qH7;rw[qf1,Zt rfl]
theorem qw0 (k d:Addr){m:Str}(h1:¬m = "numbers") (h2:¬m = "kept"):(qH7 k d).lookup m=none:=by
 unfold qH7;rw[qf1,Zm h1,qf1,Zm h2]
 all_goals rfl
structure BookAt (C:Addr) (H:Hp) (p k d:Addr) (L:List Tr):Prop where
 ob:∃dx,H p=some (.ins C dx (qH7 k d))
 kp:RowsL H k (Tr.rowsOf L)
 dc:H d=some (.dT (tK (Tr.rowsOf L)))
 od:Tr.Ord L
structure BookIn (K:PySem.W.Frag) (mg:Str->Option Value) (C:Addr):Prop where
 cl:Cls K C
 nK:NoAttr K C "kept"
 nN:NoAttr K C "numbers"
 mgC:mg "Book" = some (.ref C)
def But2 (k d:Addr) (H H':Hp):Prop:=∀b o,H b=some o->b≠k->b≠d->H' b=some o
theorem But2.refl (k d:Addr) (H:Hp):But2 k d H H:=λ_ _ h _ _=>h
theorem But2.trans {k d:Addr}{H H1 H2:Hp}(a:But2 k d H H1) (b:But2 k d H1 H2):But2 k d H H2:=λc o h n1 n2=>b c o (a c o h n1 n2) n1 n2
theorem But2.of {k d:Addr}{H H':Hp}(s:Same H H'):But2 k d H H':=λb o h _ _=>s b o h
section
variable {P:Program}{w:World}{K:PySem.W.Frag}{mg:Str->Option Value}{base:Heap}
theorem xK9:FnScope ["self"] ["self"] (qa3 qF3):=qd0
def xF5 (C:Addr):Sp:=λvs H Q _=>∃(p dx:Addr),vs=[.ref p]/\H p=some (.ins C dx [])/\∀(k d:Addr) (H':Hp),H k=none->H d=none->BookAt C H' p k d []->But p H H'->Q .non H'
theorem xF6 {f C:Addr}{fd:FuncData}(F:Fun K "__init__" "Book.__init__" qF3 f fd) (T:BookIn K mg C):FnOk P w K mg base CX0 1 f fd ["self"] (xF5 C):=by
 refine F.ok xK9 (λvs H Q E h=>?_) (λcdv A outer s H vs Q E hr h=>?_)
 ·obtain⟨p,dx,rfl,_⟩:=h
  rfl
 ·obtain⟨p,dx,rfl,hp,q⟩:=h;refine seqE ⟨_,⟨xq8 (pv 0) (qg1 qa2) rfl⟩,?_⟩;refine qe5 ⟨_,⟨xq8 (pv 0) qE2 rfl⟩,?_⟩;refine⟨(by show 0<=sizeLine;decide),λk hk=>?_⟩;have npk:p≠k:=qa4 hp hk;refine⟨_,rfl,p,C,dx,[],rfl,(by rw[qa7 npk];exact hp),T.cl,T.nK,(by show 0<1000;decide),λd hd=>?_⟩;have vQ:upd (upd H k (.lst [])) p (.ins C dx (putF "kept" (.ref k) [])) k=some (.lst []):=by rw[qa7 (Z0 npk),qa1]
  have nkd:k≠d:=qa4 vQ hd;have npd:p≠d:=qa4 qa1 hd;have hdH:H d=none:=by
   rw[qa7 (Z0 npd),qa7 (Z0 nkd)] at hd;exact hd
  refine⟨_,rfl,p,C,dx,_,rfl,(by rw[qa7 npd];exact qa1),T.cl,T.nN,(by show 1<1000;decide),?_⟩;refine q k d _ hk hdH ⟨⟨dx,qa1⟩,⟨[],?_,rfl,λi b r e=>by simp at e⟩,?_,Tr.ord_nil⟩ λb o e nb=>?_
  ·rw[qa7 (Z0 npk),qa7 nkd];exact vQ
  ·rw[qa7 (Z0 npd),qa1];rfl
  ·rw[qa7 nb,qa7 (qa4 e hdH),qa7 nb,qa7 (qa4 e hk)];exact e
theorem xL0:FnScope ["self", "row"] ["self", "row"] (qa3 qM1):=qd0
def xz2 (C:Addr):Sp:=λvs H Q _=>∃(p k d b:Addr) (L:List Tr) (t0 t1 t2 t3:Tr),vs=[.ref p,.ref b]/\BookAt C H p k d L/\H b=some (.tup (vN [Tr.name L t0,Tr.name L t1,Tr.name L t2,Tr.name L t3]))/\Tr.In L t0/\Tr.In L t1/\Tr.In L t2/\Tr.In L t3/\L.length<=1190990 /\
 ∀H',But2 k d H H'->BookAt C H' p k d (ins (mkT t0 t1 t2 t3) L)->Q (.int (Tr.name (ins (mkT t0 t1 t2 t3) L) (mkT t0 t1 t2 t3):Nat)) H'
theorem xt7 {f fP C:Addr}{fd fdP:FuncData}(F:Fun K "number_for" "Book.number_for" qM1 f fd) (B:Blt mg) (Tc:Cst mg) (T:BookIn K mg C)
  (hP:mg "is_plain" = some (.ref fP)) (FP:Fun K "is_plain" "is_plain" qy3 fP fdP) (bP:Binds K fdP ["row"] []):FnOk P w K mg base CX0 3 f fd ["self", "row"] (xz2 C):=by
 have GP:FnOk P w K mg base CX0 2 fP fdP ["row"] qS4:=qX2 FP Tc;obtain⟨tf,hfi⟩:=Tc.first;refine F.ok xL0 (λvs H Q E h=>?_) (λcdv A outer s H vs Q E hr h=>?_)
 ·obtain⟨p,k,d,b,L,t0,t1,t2,t3,rfl,_⟩:=h
  rfl
 ·obtain⟨p,k,d,b,L,t0,t1,t2,t3,rfl,hB,hb,i0,i1,i2,i3,hL,q⟩:=h;have hu:A.units+3+1<cLine:=by
   have h2:A.units+3+16*2+200<cLine:=hr.un;lia
  refine seqE ⟨_,⟨qc9 (qe3 (pcN GP hr hP FP.kp bP (qa0 (pv 1) qa2))) (qa8 (qa9 (pxN ix_tup (pv 1) qa5))) qb1⟩,?_⟩;refine seqE ⟨_,⟨qc9 (qA7 (qp1 hu (pv 1) (qx0 (pv 0) rfl)))
   (StB.go (.cons ⟨qs3 hu (qx0 (pv 0) rfl) (pv 1) (qb0 qc4 (qa6 qb9 (by rfl) B.len ZM (qa0 (qx0 (pv 0) rfl) qa2)) (qc6 (v:=.int 2) (by rfl) hfi ⟨_,rfl⟩)) (by rfl)⟩
    (.one ⟨qf0 (q72 ZY Z7 Z8 qe4 (qx0 (pv 0) rfl) (qa0 (pv 1) qa2))⟩))) qb1⟩,?_⟩
  refine qe5 ⟨_,⟨qa9 (qs2 hu (qx0 (pv 0) rfl) (pv 1) (λ_ _=>rfl))⟩,?_⟩;refine⟨_,rfl,b,_,rfl,hb,rfl,λH1 s1=>⟨_,rfl,?_⟩⟩;obtain⟨⟨dx,hp⟩,⟨bs,hk,kK,jB⟩,hd,hO⟩:=id hB;have B1:BookAt C H1 p k d L:=⟨⟨dx,s1 _ _ hp⟩,⟨bs,s1 _ _ hk,kK,λi c r e1 e2=>s1 _ _ (jB i c r e1 e2)⟩,s1 _ _ hd,hO⟩;have kF:=s1 _ _ hb;refine ite2 (λhc=>?_) (λhc=>?_)
  ·rcases plain_names.mp (Zq hc) with ⟨rfl,rfl,rfl,rfl⟩|⟨rfl,rfl,rfl,rfl⟩
   ·exact⟨_,rfl,b,_,0,.int (0:Nat),rfl,rfl,SqT.of kF,rfl,q H1 (But2.of s1) B1⟩
   ·exact⟨_,rfl,b,_,0,.int (1:Nat),rfl,rfl,SqT.of kF,rfl,q H1 (But2.of s1) B1⟩
  ·have hn:=λz=>hc (Zj (plain_names (L:=L).mpr z));have em:mkT t0 t1 t2 t3=.nd t0 t1 t2 t3:=xt6 (λz=>hn (.inl z)) (λz=>hn (.inr z));rw[em] at q;have hkin:∀s∈Tr.kids (.nd t0 t1 t2 t3),Tr.In L s:=λs hs=>by
    have:s=t0\/s=t1\/s=t2\/s=t3:=by simpa [Tr.kids] using hs
    rcases this with rfl|rfl|rfl|rfl<;>assumption
   have jJ:=qS7 hO hkin;have jQ:(Tr.kids (.nd t0 t1 t2 t3)).map (Tr.name L)=[Tr.name L t0,Tr.name L t1,Tr.name L t2,Tr.name L t3]:=rfl;rw[jQ] at jJ;have hbk:H1 b=some (.tup ((keyN [Tr.name L t0,Tr.name L t1,Tr.name L t2,Tr.name L t3]).map kV)):=by rw[qn7];exact kF
   obtain⟨⟨dx1,jG⟩,⟨bs1,w5,hbl1,hrow1⟩,wL,_⟩:=id B1;refine⟨_,rfl,_,rfl,p,C,dx1,_,_,rfl,jG,T.cl,T.nN,qr3 _ _,d,_,rfl,DGet.t wL hbk,_,rfl,?_⟩;rw[qX9];by_cases hm:[Tr.name L t0,Tr.name L t1,Tr.name L t2,Tr.name L t3]∈Tr.rowsOf L
   ·rw[Zt hm];refine iteF ?_;have hT:=jJ.mp hm;have ei:ins (.nd t0 t1 t2 t3) L=L:=by unfold ins;rw[Zt (.inr (.inr hT))]
    rw[ei] at q;exact⟨_,rfl,p,C,dx1,_,_,rfl,jG,T.cl,T.nN,qr3 _ _,_,rfl,d,_,rfl,qC5 hO hT wL kF,q H1 (But2.of s1) B1⟩
   ·rw[Zm hm];refine iteT ?_;have hT:Tr.nd t0 t1 t2 t3∉L:=λz=>hm (jJ.mpr z);have ei:ins (.nd t0 t1 t2 t3) L=L++[.nd t0 t1 t2 t3]:=by
     unfold ins;rw[Zm];rintro (z|z|z)
     ·cases z
     ·cases z
     ·exact hT z
    have O5:=xh1 hO i0 i1 i2 i3;rw[em,ei] at O5;rw[ei] at q;have er:=qm7 hO hkin;rw[jQ] at er;have j7:(tK (Tr.rowsOf L)).length=L.length:=by unfold tK;rw[qj0,Tr.rowsOf_len]
    have hbsl:(bs1.map V.ref).length=L.length:=by rw[Zi,hbl1,Tr.rowsOf_len]
    have npd:p≠d:=λz=>by rw[z,wL] at jG;cases jG
    have nkd:k≠d:=λz=>by rw[z,wL] at w5;cases w5
    have npk:p≠k:=λz=>by rw[z,w5] at jG;cases jG
    have nbd:b≠d:=λz=>by rw[z,wL] at kF;cases kF
    have nbk:b≠k:=λz=>by rw[z,w5] at kF;cases kF
    have dq:=DPut.t (v:=.int (((bs1.map V.ref).length:Int)+2)) wL hbk (by rw[j7];exact qB9 (by lia));refine⟨_,rfl,p,C,dx1,_,_,rfl,jG,T.cl,T.nK,qn0 _ _,k,_,rfl,.inl (SqL.of w5),_,_,rfl,rfl,_,rfl,p,C,dx1,_,_,rfl,jG,T.cl,T.nN,qr3 _ _,_,rfl,d,_,rfl,dq,?_⟩;have eput:putK (tK (Tr.rowsOf L)) (keyN [Tr.name L t0,Tr.name L t1,Tr.name L t2,Tr.name L t3]) (.int (((bs1.map V.ref).length:Int)+2))=tK (Tr.rowsOf (L++[.nd t0 t1 t2 t3])):=by
     have h1:=qX6 (key:=keyN) (k:=2) (λa b=>qv3) hm;rw[er,hbsl];unfold tK;rw[<- h1,Tr.rowsOf_len];congr 2;lia
    rw[eput];have jR:upd H1 d (.dT (tK (Tr.rowsOf (L++[.nd t0 t1 t2 t3])))) p=some (.ins C dx1 (qH7 k d)):=by rw[qa7 npd];exact jG
    have hk2:upd H1 d (.dT (tK (Tr.rowsOf (L++[.nd t0 t1 t2 t3])))) k=some (.lst (bs1.map V.ref)):=by rw[qa7 nkd];exact w5
    refine⟨_,rfl,p,C,dx1,_,_,rfl,jR,T.cl,T.nK,qn0 _ _,.inl ⟨rfl,_,SqL.of hk2⟩,_,rfl,k,_,.ref b,rfl,rfl,hk2,by rw[hbsl];exact qB9 (by lia),?_⟩;have tup3:∀{c:Addr}{u:List V},H1 c=some (.tup u)->upd (upd H1 d (.dT (tK (Tr.rowsOf (L++[.nd t0 t1 t2 t3]))))) k (.lst (bs1.map V.ref++[.ref b])) c=some (.tup u):=λ{c u} e=>by
     have n1:c≠k:=λz=>by rw[z,w5] at e;cases e
     have n2:c≠d:=λz=>by rw[z,wL] at e;cases e
     rw[qa7 n1,qa7 n2];exact e
    have B3:BookAt C (upd (upd H1 d (.dT (tK (Tr.rowsOf (L++[.nd t0 t1 t2 t3]))))) k (.lst (bs1.map V.ref++[.ref b]))) p k d (L++[.nd t0 t1 t2 t3]):=by
     refine⟨⟨dx1,by rw[qa7 npk];exact jR⟩,⟨bs1++[b],by rw[qa1,qG3],?_,?_⟩,by rw[qa7 (Z0 nkd),qa1],O5⟩
     ·rw[Zu,hbl1,Tr.rowsOf_len,Tr.rowsOf_len,Zu];rfl
     ·intro j c r e1 e2;rw[er] at e2;have hbl2:bs1.length=L.length:=by rw[hbl1,Tr.rowsOf_len]
      by_cases hj:j<L.length
      ·rw[Zo (by lia)] at e1;rw[Zo (by rw[Tr.rowsOf_len];exact hj)] at e2;exact tup3 (hrow1 j c r e1 e2)
      ·rw[Zv (by lia)] at e1;rw[Zv (by rw[Tr.rowsOf_len];lia)] at e2;have w6:j-bs1.length=0:=by
        have:=(gS_ e1).1;simp at this;lia
       have hj1:j-(Tr.rowsOf L).length=0:=by rw[Tr.rowsOf_len];lia
       rw[w6] at e1;rw[hj1] at e2;have ec:c=b:=by simpa using e1.symm
       have erow:r=[Tr.name L t0,Tr.name L t1,Tr.name L t2,Tr.name L t3]:=by simpa using e2.symm
       rw[ec,erow];exact tup3 kF
    have hbt3:=tup3 kF;have X3:But2 k d H1 (upd (upd H1 d (.dT (tK (Tr.rowsOf (L++[.nd t0 t1 t2 t3]))))) k (.lst (bs1.map V.ref++[.ref b]))):=λc o e n1 n2=>by rw[qa7 n1,qa7 n2];exact e
    generalize upd (upd H1 d (.dT (tK (Tr.rowsOf (L++[.nd t0 t1 t2 t3]))))) k (.lst (bs1.map V.ref++[.ref b]))=H3 at B3 hbt3 X3 ⊢;obtain⟨⟨dx3,kC⟩,_,jV,_⟩:=id B3;have enm:∀s,Tr.In L s->Tr.name (L++[.nd t0 t1 t2 t3]) s=Tr.name L s:=λs hs=>Tr.name_app hs hO;exact⟨_,rfl,p,C,dx3,_,_,rfl,kC,T.cl,T.nN,qr3 _ _,_,rfl,d,_,rfl,qC5 (a:=t0) (b:=t1) (c:=t2) (d:=t3) O5 (by simp) jV (by rw[hbt3,enm t0 i0,enm t1 i1,enm t2 i2,enm t3 i3]),q H3 ((But2.of s1).trans X3) B3⟩
end
end Pr
namespace L2
open PySem
end L2
namespace Qf
open Tr
theorem xh2 (a b c d:Tr):(a=z/\b=z/\c=z/\d=z)/\mkT a b c d=z\/(a=o/\b=o/\c=o/\d=o)/\mkT a b c d=o\/(¬(a=z/\b=z/\c=z/\d=z)/\¬(a=o/\b=o/\c=o/\d=o))/\mkT a b c d=.nd a b c d:=by
 unfold mkT;split
 ·exact .inl ⟨by assumption,rfl⟩
 ·split
  ·exact .inr (.inl ⟨by assumption,rfl⟩)
  ·exact .inr (.inr ⟨⟨by assumption,by assumption⟩,rfl⟩)
theorem xz3 {a b c d:Tr}(ha:Red a) (hb:Red b) (hc:Red c) (hd:Red d):Red (mkT a b c d):=by
 rcases xh2 a b c d with ⟨_,e⟩|⟨_,e⟩|⟨⟨h1,h2⟩,e⟩
 ·rw[e];trivial
 ·rw[e];trivial
 ·rw[e];exact⟨h1,h2,ha,hb,hc,hd⟩
theorem xh3 {L:List Tr}{t:Tr}(h:ql9 L) (ht:Red t):ql9 (ins t L):=by
 unfold ins;split
 ·exact h
 ·intro u hu;rcases Z1.mp hu with z|z
  ·exact h u z
  ·have:u=t:=by simpa using z
   rw[this];exact ht
def qk2:Nat->Tr->Nat->Nat->Bool
 |0,t,_,_=>decide (t=.o)
 |k+1,t,r,c=>qk2 k (qr (2*(r/2^k%2)+c/2^k%2) t) r c
theorem xh4:∀k r c,qk2 k .o r c=true
 |0,_,_=>rfl
 |k+1,r,c=>xh4 k r c
theorem xh5:∀k r c,qk2 k .z r c=false
 |0,_,_=>rfl
 |k+1,r,c=>xh5 k r c
theorem xF7:∀{s t:Tr},Red s->Red t->(∀i,i<4->qr i s=qr i t)->s=t
 |.z,.z,_,_,_=>rfl
 |.o,.o,_,_,_=>rfl
 |.z,.o,_,_,h=>h 0 (by decide)
 |.o,.z,_,_,h=>h 0 (by decide)
 |.nd a b c d,.nd a' b' c' d',_,_,h=>by
  have h0:a=a':=h 0 (by decide);have h1:b=b':=h 1 (by decide);have h2:c=c':=h 2 (by decide);have h3:d=d':=h 3 (by decide);rw[h0,h1,h2,h3]
 |.z,.nd a b c d,_,rt,h=>absurd ⟨(h 0 (by decide)).symm,(h 1 (by decide)).symm,(h 2 (by decide)).symm,(h 3 (by decide)).symm⟩ rt.1
 |.o,.nd a b c d,_,rt,h=>absurd ⟨(h 0 (by decide)).symm,(h 1 (by decide)).symm,(h 2 (by decide)).symm,(h 3 (by decide)).symm⟩ rt.2.1
 |.nd a b c d,.z,rs,_,h=>absurd ⟨h 0 (by decide),h 1 (by decide),h 2 (by decide),h 3 (by decide)⟩ rs.1
 |.nd a b c d,.o,rs,_,h=>absurd ⟨h 0 (by decide),h 1 (by decide),h 2 (by decide),h 3 (by decide)⟩ rs.2.1
def rd:Tr->Tr
 |.z=>.z
 |.o=>.o
 |.nd a b c d=>mkT (rd a) (rd b) (rd c) (rd d)
def TR (rows:List Row) (x:Nat):Tr:=rd (T rows x)
theorem xh6 (rows:List Row):TR rows 0=.z:=by unfold TR;rw[qi1];rfl
theorem xt8 (rows:List Row):TR rows 1=.o:=by unfold TR;rw[qo2];rfl
theorem xt9 {rows:List Row}(ok:qb7 rows){p a b c e:Nat}(hp:rows[p]?=some [a,b,c,e]):TR rows (p+2)=mkT (TR rows a) (TR rows b) (TR rows c) (TR rows e):=by
 unfold TR;rw[qq3 ok hp];rfl
theorem qO9:∀t:Tr,Red (rd t)
 |.z=>trivial
 |.o=>trivial
 |.nd a b c d=>xz3 (qO9 a) (qO9 b) (qO9 c) (qO9 d)
theorem qP0:∀{t:Tr},Red t->rd t=t
 |.z,_=>rfl
 |.o,_=>rfl
 |.nd a b c d,h=>by
  show mkT (rd a) (rd b) (rd c) (rd d)=_;rw[qP0 h.2.2.1,qP0 h.2.2.2.1,qP0 h.2.2.2.2.1,qP0 h.2.2.2.2.2];exact xt6 h.1 h.2.1
def cTop (t:Tr):Nat:=name (post t []) t
def q47 (t:Tr):List Row:=rowsOf (post t [])
theorem xz4 {n:Nat}(hn:n<=12){t:Tr}(hr:Red t) (hd:dep t<=n):Canon n (cTop t) (q47 t):=qC0 hn hr hd
theorem c_T (t:Tr):T (q47 t) (cTop t)=t:=by
 obtain⟨h1,h2⟩:=post_ord t [] ord_nil;exact qq4 h1 t h2
theorem xz5 {n top:Nat}{rows:List Row}(c:Canon n top rows):top=cTop (TR rows top)/\rows=q47 (TR rows top):=by
 have e:TR rows top=T rows top:=qP0 (qe7 c);rw[e];obtain⟨h1,h2⟩:=qm6 c;exact⟨h2,h1⟩
end Qf
namespace Pr
open PySem L2 Qf
section
variable {P:Program}{w:World}{K:PySem.W.Frag}{mg:Str->Option Value}{base:Heap}
def xu0:Sp:=λvs H Q _=>∃(b g:Addr) (r:Row) (ns:List Nat) (f:Nat->Nat),vs=[.ref b,.ref g]/\H b=some (.tup (vN r))/\r.length=4/\H g=some (.lst (vN ns))/\(∀q∈r,ns[q]?=some (f q)) /\
 ∀(H':Hp) (t:Addr),Same H H'->H' t=some (.tup (vN (r.map f)))->Q (.ref t) H'
theorem xz6 {f:Addr}{fd:FuncData}(F:Fun K "renumbered" "renumbered" qt9 f fd) (B:Blt mg):FnOk P w K mg base CX0 1 f fd ["row", "numbers"] xu0:=by
 refine F.ok scRenum (λvs H Q E h=>?_) (λcdv A outer s H vs Q E hr h=>?_)
 ·obtain⟨b,g,r,ns,f,rfl,_⟩:=h
  rfl
 ·obtain⟨b,g,r,ns,ff,rfl,hb,h4,hg,hv,q⟩:=h;refine qe5 ⟨_,⟨qa9 (qc1 (tupO K rfl) (by rfl) B.tuple ZH (qa0 (qg6 ["row", "numbers"] (qa3 qt9) rfl rfl rfl scRenum.nd (qw4 (pv 0)) (λcl C fp s₀ H₀=>pxN (ixL K rfl) (pv 2) (pv 0))) qa2))⟩,?_⟩;refine⟨_,rfl,b,rfl,⟨_,SqT.of hb⟩,λD hD=>qi0 hD (λi z _=>∃m:Nat,r[i]?=some m/\z=.int (ff m:Nat)) (qm4 (K:=K) hb) (by rw[qf3,h4];decide) (λ_ _ _ _ _ _ h=>h) ?_ ?_⟩
  ·intro i x H2 hi hx s2 Q' hq;obtain⟨m,hm,rfl⟩:=qB7 hx;exact⟨_,rfl,_,rfl,g,_,(m:Int),.int (ff m:Nat),rfl,rfl,SqL.of (s2 _ _ hg),qd8 (xm3 (hv m (Zs hm))),hq _ _ (Same.refl _) ⟨m,hm,rfl⟩⟩
  ·intro ys H2 s2 jW kZ vG;have ey:ys=vN (r.map ff):=by
    refine qi8 (by rw[kZ,qf3,qf3,Zi]) λi x hx=>?_;obtain⟨m,hm,rfl⟩:=vG i x hx;exact xm3 (by rw[Zg,hm];rfl)
   subst ey;exact⟨D,_,rfl,.inl ⟨SqL.of jW,λl hl=>q _ l (s2.trans (qb3 hl)) qa1⟩⟩
end
theorem BookAt.same {C:Addr}{H H':Hp}{p k d:Addr}{L:List Tr}(h:BookAt C H p k d L) (s:Same H H'):BookAt C H' p k d L:=by
 obtain⟨⟨dx,hp⟩,hk,hd,hO⟩:=h;exact⟨⟨dx,s _ _ hp⟩,hk.same s,s _ _ hd,hO⟩
theorem BookAt.tup {C:Addr}{H H':Hp}{p k d:Addr}{L:List Tr}(h:BookAt C H p k d L) (B:But2 k d H H'){x:Addr}{u:List V}(e:H x=some (.tup u)):H' x=some (.tup u):=by
 obtain⟨_,⟨bs,hk,_⟩,hd,_⟩:=h;exact B _ _ e (λz=>by rw[z,hk] at e;cases e) (λz=>by rw[z,hd] at e;cases e)
theorem BookAt.put {C:Addr}{H:Hp}{p k d D:Addr}{L:List Tr}{xs ys:List V}(h:BookAt C H p k d L) (hD:H D=some (.lst xs)) (nk:D≠k):BookAt C (upd H D (.lst ys)) p k d L:=by
 obtain⟨⟨dx,hp⟩,⟨bs,hk,hl,hr⟩,hd,hO⟩:=h;refine⟨⟨dx,?_⟩,⟨bs,?_,hl,λi c r e1 e2=>?_⟩,?_,hO⟩
 ·rw[qa7 (λz=>by rw[z,hD] at hp;cases hp)];exact hp
 ·rw[qa7 (Z0 nk)];exact hk
 ·have:=hr i c r e1 e2;rw[qa7 (λz=>by rw[z,hD] at this;cases this)];exact this
 ·rw[qa7 (λz=>by rw[z,hD] at hd;cases hd)];exact hd
theorem xL1 (k d:Addr):(qH7 k d).lookup ("number_for" : Str)=none:=qw0 k d (by decide +kernel) (by decide +kernel)
section
variable {P:Program}{w:World}{K:PySem.W.Frag}{mg:Str->Option Value}{base:Heap}
theorem scBkNs:FnScope ["self", "rows", "numbers", "row"] ["self", "rows"] (qa3 qF4):=qd0
end
end Pr
namespace Qf
open Tr
def insG (rows:List Row) (L:List Tr):Nat->List Tr
 |0=>L
 |i+1=>ins (TR rows (i+2)) (insG rows L i)
theorem qw1 (rows:List Row) (L:List Tr):∀i,∃s,insG rows L i=L++s/\s.length<=i
 |0=>⟨[],by simp[insG],Zd _⟩
 |i+1=>by
  obtain⟨s,e,hl⟩:=qw1 rows L i;obtain⟨s',e',hl'⟩:=qA1 (TR rows (i+2)) (insG rows L i);exact⟨s++s',by show ins _ _=_;rw[e',e,YF],by rw[Zu];lia⟩
theorem qP1 {rows:List Row}{L:List Tr}(i:Nat):∃s,insG rows L (i+1)=insG rows L i++s:=by
 obtain⟨s,e,_⟩:=qA1 (TR rows (i+2)) (insG rows L i);exact⟨s,e⟩
theorem qk3 {rows:List Row}{L:List Tr}:∀i x,x<i+2->In (insG rows L i) (TR rows x)
 |0,x,hx=>by
  match x,hx with
  |0,_=>exact .inl (xh6 _)
  |1,_=>exact .inr (.inl (xt8 _))
 |i+1,x,hx=>by
  by_cases e:x=i+2
  ·rw[e];exact xt5 _ _
  ·obtain⟨s,e'⟩:=qP1 (rows:=rows) (L:=L) i;rw[e'];exact (qk3 i x (by lia)).app
theorem qZ3 {rows:List Row}(ok:qb7 rows){L:List Tr}(h:Ord L):∀i,i<=rows.length->Ord (insG rows L i)
 |0,_=>h
 |i+1,hi=>by
  have ih:=qZ3 ok h i (by lia);obtain⟨a,b,c,d,e⟩:=ql8 (ok i _ (Zb (show i<rows.length by lia))).1;have hp:rows[i]?=some [a,b,c,d]:=by rw[Zb (by lia),e]
  have j7:=(ok i _ hp).2;show Ord (ins (TR rows (i+2)) (insG rows L i));rw[xt9 ok hp];exact xh1 ih (qk3 i a (j7 a (by simp))) (qk3 i b (j7 b (by simp))) (qk3 i c (j7 c (by simp))) (qk3 i d (j7 d (by simp)))
def nmsG (rows:List Row) (L:List Tr) (i:Nat):List Nat:=(List.range (i+2)).map λx=>name (insG rows L i) (TR rows x)
theorem xh7 {rows:List Row}(ok:qb7 rows){L:List Tr}(h:Ord L){i:Nat}(hi:i<rows.length):nmsG rows L (i+1)=nmsG rows L i++[name (insG rows L (i+1)) (TR rows (i+2))]:=by
 unfold nmsG;rw[Xi,ZR];congr 1;refine YB λx hx=>?_;obtain⟨s,e⟩:=qP1 (rows:=rows) (L:=L) i;rw[e];exact name_app (qk3 i x (ZW.mp hx)) (qZ3 ok h i (by lia))
theorem qH8 {rows:List Row}{L:List Tr}(h:ql9 L):∀i,ql9 (insG rows L i)
 |0=>h
 |i+1=>xh3 (qH8 h i) (qO9 _)
end Qf
namespace Pr
open PySem L2 Qf
section
variable {P:Program}{w:World}{K:PySem.W.Frag}{mg:Str->Option Value}{base:Heap}
def xz7 (C:Addr):Sp:=λvs H Q _=>∃(p kk dd rp:Addr) (L:List Tr) (rows:List Row),vs=[.ref p,.ref rp]/\BookAt C H p kk dd L/\RowsAt H rp rows/\qb7 rows/\L.length+rows.length<=1190980 /\
 ∀(H':Hp) (g:Addr),H g=none->But2 kk dd H H'->BookAt C H' p kk dd (insG rows L rows.length)->H' g=some (.lst (vN (nmsG rows L rows.length)))->Q (.ref g) H'
theorem xF8 {f fN fR fP C:Addr}{fd fdN fdR fdP:FuncData}(F:Fun K "numbers_for" "Book.numbers_for" qF4 f fd) (B:Blt mg) (Tc:Cst mg) (hem0:∃t,mg "EMPTY" = some (.int 0 t)) (T:BookIn K mg C)
  (MN:Meth K C "number_for" fN) (FN:Fun K "number_for" "Book.number_for" qM1 fN fdN) (bN:Binds K fdN ["self", "row"] [])
  (hR:mg "renumbered" = some (.ref fR)) (FR:Fun K "renumbered" "renumbered" qt9 fR fdR) (bR:Binds K fdR ["row", "numbers"] [])
  (hP:mg "is_plain" = some (.ref fP)) (FP:Fun K "is_plain" "is_plain" qy3 fP fdP) (bP:Binds K fdP ["row"] []):FnOk P w K mg base CX0 4 f fd ["self", "rows"] (xz7 C):=by
 have GN:FnOk P w K mg base CX0 3 fN fdN ["self", "row"] (xz2 C):=xt7 FN B Tc T hP FP bP;have GR:FnOk P w K mg base CX0 1 fR fdR ["row", "numbers"] xu0:=xz6 FR B;obtain⟨tu,hfu⟩:=Tc.full;obtain⟨te,hem⟩:=hem0;refine F.ok scBkNs (λvs H Q E h=>?_) (λcdv A outer s H vs Q E hr h=>?_)
 ·obtain⟨p,kk,dd,rp,L,rows,rfl,_⟩:=h
  rfl
 ·obtain⟨p,kk,dd,rp,L,rows,rfl,hB,hRS,ok,hl,q⟩:=h;have jD:Room 1 _:=hr.mono (by decide);refine seqE ⟨_,⟨psN 2 scBkNs.nd (qg1 (qa0 (qc6 (v:=.int 0) (by rfl) hem ⟨_,rfl⟩) (qa0 (qc6 (v:=.int 1) (by rfl) hfu ⟨_,rfl⟩) qa2)))⟩,?_⟩;refine seqE ⟨_,⟨qo6 YS rfl (qw4 (pv 1)) (pgN 3 scBkNs.nd)
   (qa8 (qf0 (PEb.go (qu4 ZY Z7 Z8 qe4 ⟨pv 2⟩ (.cons ⟨qD8 (pv 0) T.cl MN GN hr bN .nil qE1 (Ars2.go (.cons ⟨pcN GR jD hR FR.kp bR (qa0 (pv 3) (qa0 (pv 2) qa2))⟩ .nil rfl))⟩ .nil rfl)))))⟩,?_⟩
  refine qe5 ⟨_,⟨qa9 (pv 2)⟩,?_⟩;refine⟨(by show 2<=sizeLine;decide),λg hg=>?_⟩;have S1:=qb3 (o:=.lst [.int 0,.int 1]) hg;have hB1:=hB.same S1;have hg1:upd H g (.lst [.int 0,.int 1]) g=some (.lst (vN (nmsG rows L 0))):=by
   have e0:nmsG rows L 0=[0,1]:=by
    show[Tr.name L (Qf.TR rows 0),Tr.name L (Qf.TR rows 1)]=_;rw[xh6,xt8];rfl
   rw[e0,qa1];rfl
  have hRS1:RowsAt (upd H g (.lst [.int 0,.int 1])) rp rows:=hRS.mono S1.tups;have ngk:g≠kk:=by
   obtain⟨_,⟨ks,hk,_⟩,_,_⟩:=id hB;exact (qa4 hk hg).symm
  generalize upd H g (.lst [.int 0,.int 1])=H1 at S1 hB1 hg1 hRS1 ⊢;obtain⟨bs,wF,kK,jB⟩:=id hRS;have ngd:g≠dd:=(qa4 hB.dc hg).symm;refine⟨_,rfl,rp,rfl,⟨_,SqT.of (S1 _ _ wF)⟩,qQ5 (K:=K) (a:=rp) (xs:=bs.map V.ref) (λi σ H2=>BookAt C H2 p kk dd (insG rows L i)/\H2 g=some (.lst (vN (nmsG rows L i)))/\But2 kk dd H H2/\∃v,σ=[some (.ref p),some (.ref rp),some (.ref g),v]) ?_ ?_ ?_ ?_⟩
  ·exact⟨hB1,hg1,But2.of S1,none,rfl⟩
  ·rintro i σ H2 _ ⟨_,_,B2,_⟩;exact SqT.of (hB.tup B2 wF)
  ·rintro i x σ H2 hx ⟨yB,k9,B2,v,rfl⟩;rw[Zg] at hx;obtain⟨b,hb,rfl⟩:=Zr.mp hx;have hi:i<rows.length:=by rw[<- kK];exact (gS_ hb).1
   obtain⟨a0,a1,a2,a3,er⟩:=ql8 (ok i _ (Zb hi)).1;have hri:rows[i]?=some [a0,a1,a2,a3]:=by rw[Zb hi,er]
   have kU:=hB.tup B2 (jB i b _ hb hri);have j7:=(ok i _ hri).2;obtain⟨⟨dx,hob⟩,_,_,hO⟩:=id yB;have jL:=λx (hx:x∈[a0,a1,a2,a3])=>qk3 (rows:=rows) (L:=L) i x (j7 x hx);obtain⟨e2,kE,hle2⟩:=qw1 rows L i;have hL2:(insG rows L i).length<=L.length+i:=by rw[kE,Zu];lia
   have hTT:=(xt9 ok hri).symm;have hsucc:=xh7 ok hB.od hi;have hnl:(nmsG rows L i).length=i+2:=by unfold nmsG;rw[Zi,XV]
   have hv:∀q∈[a0,a1,a2,a3],(nmsG rows L i)[q]?=some (Tr.name (insG rows L i) (Qf.TR rows q)):=λq hq=>by
    unfold nmsG;rw[Zg,Y4 (j7 q hq)]
    rfl
   have hins:ins (mkT (Qf.TR rows a0) (Qf.TR rows a1) (Qf.TR rows a2) (Qf.TR rows a3)) (insG rows L i)=insG rows L (i+1):=by rw[hTT];rfl
   have hnam:Tr.name (insG rows L (i+1)) (mkT (Qf.TR rows a0) (Qf.TR rows a1) (Qf.TR rows a2) (Qf.TR rows a3))=Tr.name (insG rows L (i+1)) (Qf.TR rows (i+2)):=by rw[hTT]
   rw[hsucc];refine⟨_,rfl,.inl ⟨rfl,_,SqL.of k9⟩,_,rfl,p,dx,_,rfl,hob,xL1 _ _,_,rfl,_,rfl,b,g,[a0,a1,a2,a3],_,λx=>Tr.name (insG rows L i) (Qf.TR rows x),rfl,kU,rfl,k9,hv,λH3 t s3 ht=>?_⟩;refine⟨p,kk,dd,t,_,_,_,_,_,rfl,yB.same s3,ht,jL a0 (by simp),jL a1 (by simp),jL a2 (by simp),jL a3 (by simp),by lia,λH4 B4 vU=>?_⟩;rw[hins] at vU ⊢;rw[hnam];have hg4:=B4 _ _ (s3 _ _ k9) ngk ngd;refine⟨g,_,_,rfl,rfl,hg4,by rw[qf3,hnl];exact qB9 (by lia),?_⟩;refine⟨vU.put hg4 ngk,?_,λc o e n1 n2=>?_,_,rfl⟩
   ·rw[qa1];unfold vN;rw[ZR]
    rfl
   ·rw[qa7 (qa4 e hg)];exact B4 _ _ (s3 _ _ (B2 _ _ e n1 n2)) n1 n2
  ·rintro σ H2 ⟨yB,k9,B2,v,rfl⟩;rw[Zi,kK] at yB k9;exact⟨_,rfl,q H2 g hg B2 yB k9⟩
abbrev nSa:List Str:=["shape", "address", "n", "top", "rows"]
theorem scSa:FnScope nSa ["shape", "address"] (qa3 xm2):=qd0
def ShT (H:Hp) (t:Addr) (n:Nat) (s:Tr):Prop:=∃tp rows,xc8 H t n tp rows/\T rows tp=s
def spSa (CS CA:Addr):Sp:=λvs H Q E=>∃(v v2:V) (d d2:PyData),vs=[v,v2]/\DatX H v d/\Bnd d/\DatX H v2 d2/\(∀x,d2=.str x->x.length<=100) /\
 ((¬IsSh d/\∀H',Same H H'->E (.ref CS) none H')\/∃n tp rows,d=qe6 n tp rows/\Canon n tp rows /\
  ((isAd n d2=false/\∀H',Same H H'->E (.ref CA) none H') \/
   ∃ds,d2=.str (txt ds)/\(∀x∈ds,x<4)/\ds.length<=n/\∀H' t',Same H H'->ShT H' t' (n-ds.length) (subT (T rows tp) ds)->Q (.ref t') H'))
theorem xL2 {f fW fA fN fS CS CA:Addr}{fd fdW fdA fdN fdS:FuncData}(F:Fun K "square_at" "square_at" xm2 f fd) (B:Blt mg)
  (hW:mg "want_shape" = some (.ref fW)) (FW:Fun K "want_shape" "want_shape" qM4 fW fdW) (bW:Binds K fdW ["shape"] []) (GW:FnOk P w K mg base (CX1 P w) 16 fW fdW ["shape"] (qv9 CS))
  (hA:mg "want_address" = some (.ref fA)) (FA:Fun K "want_address" "want_address" qM2 fA fdA) (bA:Binds K fdA ["n", "address"] []) (GA:FnOk P w K mg base (CX1 P w) 3 fA fdA ["n", "address"] (qv8 CA))
  (hN:mg "number_at" = some (.ref fN)) (FN:Fun K "number_at" "number_at" qW5 fN fdN) (bN:Binds K fdN ["rows", "top", "address"] []) (GN:FnOk P w K mg base CX0 2 fN fdN ["rows", "top", "address"] spNa)
  (hS:mg "shape_of" = some (.ref fS)) (FS:Fun K "shape_of" "shape_of" qq0 fS fdS) (bS:Binds K fdS ["n", "top", "rows"] []) (GS:FnOk P w K mg base CX0 15 fS fdS ["n", "top", "rows"] spSO) :
  FnOk P w K mg base (CX1 P w) 17 f fd ["shape", "address"] (spSa CS CA):=by
 refine F.ok1 scSa (λvs H Q E h=>?_) (λcdv A outer s H vs Q E hr h=>?_)
 ·obtain⟨v,v2,d,d2,rfl,_⟩:=h
  rfl
 ·obtain⟨v,v2,d,d2,rfl,hd,bn,jW,kW,cs⟩:=h;have jZ:Room 2 _:=hr.mono (by decide);have wG:Room 3 _:=hr.mono (by decide);have hr15:Room 15 _:=hr.mono (by decide);refine seqE ⟨_,⟨qf0 (qh8 GW hr (by rfl) hW FW.kp bW .nil qx9 (qa0 (pv 0) qa2))⟩,?_⟩;rcases cs with ⟨no,e⟩|⟨n,tp,rows,rfl,cn,cs⟩
  ·exact⟨_,qc3,_,rfl,v,d,rfl,hd,bn,λz=>(no z).elim,λ_=>e⟩
  obtain⟨t,rfl,hT⟩:=qv5 hd;refine seqE ⟨_,⟨qk5 (pv 0) (qo5 rfl (qb8 (pgN 2 scSa.nd) (qb8 (pgN 3 scSa.nd) (qb8 (pgN 4 scSa.nd) qj7))))⟩,?_⟩;refine seqE ⟨_,⟨qf0 (qh8 GA wG (by rfl) hA FA.kp bA .nil qx9 (qa0 (pv 2) (qa0 (pv 1) qa2)))⟩,?_⟩;have hn:=cn.size;have hl9:=qv6 bn;rcases cs with ⟨na,e⟩|⟨ds,rfl,j9,hl,q⟩
  ·refine⟨_,qc3,_,rfl,.ref t,_,rfl,hd,bn,(λ_ H1 s1=>?_),λz=>absurd ⟨n,tp,rows,rfl,cn⟩ z⟩;obtain⟨rp,ht,hR⟩:=hT.mono s1.tups;refine⟨_,rfl,t,_,rfl,SqT.of ht,rfl,_,_,rfl,_,_,rfl,_,_,rfl,rfl,?_⟩;exact⟨_,rfl,_,rfl,n,v2,d2,rfl,hn,jW.same s1,kW,λz=>Bool.noConfusion (na.symm.trans z),λ_ H2 s2=>e H2 (s1.trans s2)⟩
  ·refine qe5 ⟨_,⟨qa9 (pcN GS hr15 hS FS.kp bS (Ars2.go (.cons ⟨qb0 qe0 (pv 2) (qa6 qe1 (by rfl) B.len ZM (qa0 (pv 1) qa2))⟩ (.cons ⟨pcN GN jZ hN FN.kp bN (qa0 (pv 4) (qa0 (pv 3) (qa0 (pv 1) qa2)))⟩ (.cons ⟨pv 4⟩ .nil rfl) rfl) rfl)))⟩,?_⟩;refine⟨_,rfl,.ref t,_,rfl,hd,bn,(λ_ H1 s1=>?_),λz=>absurd ⟨n,tp,rows,rfl,cn⟩ z⟩;obtain⟨rp,ht,hR⟩:=hT.mono s1.tups;refine⟨_,rfl,t,_,rfl,SqT.of ht,rfl,_,_,rfl,_,_,rfl,_,_,rfl,rfl,?_⟩;cases jW;refine⟨_,rfl,_,rfl,n,_,_,rfl,hn,.str _,kW,(λ_ H2 s2=>?_),λz=>Bool.noConfusion ((qH6 j9 hl).symm.trans z)⟩;have ok:=cn.rok;have y9:=hR.mono s2.tups;obtain⟨k1,k2,k3⟩:=qG7 ok ds tp cn.inn j9;have wA:dp rows (qt0 rows tp ds)<=n-ds.length:=by have:=cn.deep;lia
   refine⟨_,rfl,_,rfl,txt ds,rfl,ZT (qb5 (by rw[qd2];lia)),_,_,rfl,rfl,?_⟩;refine⟨_,rfl,_,rfl,_,rfl,rp,tp,ds,rows,rfl,y9.s,ok,cn.inn,j9,by lia,λH3 s3=>?_⟩;refine⟨_,rfl,rp,n-ds.length,qt0 rows tp ds,rows,?_,(y9.mono s3.tups).s,ok,by lia,k1,by lia,wA,λH4 t4 s4 tell=>?_⟩
   ·rw[qd2];show[V.int (((n:Nat):Int)-((ds.length:Nat):Int)),_,_]=_;rw[show ((n:Nat):Int)-((ds.length:Nat):Int)=((n-ds.length:Nat):Int) by lia]
   ·obtain⟨c4,e4⟩:=qC4 (n:=n-ds.length) (by lia) ok k1 wA cn.unplain cn.unlike;have vE:=qG1 (qf8 ok (n-ds.length) [] _ (qi6 _) k1 wA).1;exact q H4 t4 (s1.trans (s2.trans (s3.trans s4))) ⟨_,_,⟨tell,c4,by rw[qf9];lia⟩,by rw[e4,k2]⟩
end
end Pr
namespace Qf
open Tr
theorem xh8 {L:List Tr}(od:Ord L){t:Tr}(h:In L t):qrow (rowsOf L) (name L t)=[name L (qr 0 t),name L (qr 1 t),name L (qr 2 t),name L (qr 3 t)]/\∀i,i<4->In L (qr i t):=by
 rcases name_in od h with ⟨rfl,e⟩|⟨rfl,e⟩|⟨i,hi,e⟩
 ·exact⟨rfl,λi _=>.inl rfl⟩
 ·exact⟨rfl,λi _=>.inr (.inl rfl)⟩
 ·obtain⟨⟨a,b,c,d,rfl⟩,hk⟩:=od.ch i t hi;have key:∀s∈kids (.nd a b c d),In L s:=λs hs=>by
   rcases hk s hs with z|z|⟨j,_,hj⟩
   ·exact .inl z
   ·exact .inr (.inl z)
   ·exact .inr (.inr (Zs hj))
  refine⟨?_,λj hj=>key _ ?_⟩
  ·rw[e];unfold qrow;rw[Zm (by lia),show i+2-2=i by lia,ZG,rowsOf_at hi]
   rfl
  ·match j,hj with
   |0,_=>exact Zh
   |1,_=>simp[kids,qr]
   |2,_=>simp[kids,qr]
   |3,_=>simp[kids,qr]
theorem xp3 {a0 a1 a2 a3 y d:Nat}(h:d<4):[a0,a1,a2,a3].set d y=[if d=0 then y else a0,if d=1 then y else a1,if d=2 then y else a2,if d=3 then y else a3]:=by
 match d,h with
 |0,_|1,_|2,_|3,_=>rfl
end Qf
namespace Pr
open PySem L2 Qf
theorem xL3 {n j:Nat}(h:j<n):ixN n ((j:Nat):Int)=some j:=by
 unfold ixN;rw[Zt (by lia),Zt (by lia),Z5]
theorem xF9 (r:List Nat) (d y:Nat):(vN r).set d (.int (y:Nat))=vN (r.set d y):=by
 unfold vN;rw[List.map_set]
section
variable {P:Program}{w:World}{K:PySem.W.Frag}{mg:Str->Option Value}{base:Heap}
abbrev nPi:List Str:=["book", "number", "address", "new", "quarters", "at"]
abbrev nPi4:List Str:=["book", "number", "address", "new"]
theorem scPi:FnScope nPi nPi4 (qa3 qW6):=qd0
def spPi (C:Addr) (k:Nat):Sp:=λvs H Q _=>∃(p kk dd:Addr) (L:List Tr) (t u:Tr) (ds:List Nat),vs=[.ref p,.int (Tr.name L t:Nat),.str (txt ds),.int (Tr.name L u:Nat)]/\ds.length=k/\k<=12/\(∀d∈ds,d<4)/\BookAt C H p kk dd L/\Tr.In L t/\Tr.In L u/\L.length+k<=1190980 /\
 ∀H' L',But2 kk dd H H'->BookAt C H' p kk dd L'->(∃e,L'=L++e)->Tr.In L' (putT t ds u)->L'.length<=L.length+k->(ql9 L->Tr.Red t->Tr.Red u->ql9 L')->Q (.int (Tr.name L' (putT t ds u):Nat)) H'
theorem xG0 {f fQ fN fP C:Addr}{fd fdQ fdN fdP:FuncData}(F:Fun K "put_in" "put_in" qW6 f fd) (B:Blt mg) (Tc:Cst mg) (T:BookIn K mg C) (hG:mg "put_in" = some (.ref f)) (bG:Binds K fd nPi4 [])
  (hQ:mg "quarters_of" = some (.ref fQ)) (FQ:Fun K "quarters_of" "quarters_of" qM0 fQ fdQ) (bQ:Binds K fdQ ["rows", "number"] [])
  (MN:Meth K C "number_for" fN) (FN:Fun K "number_for" "Book.number_for" qM1 fN fdN) (bN:Binds K fdN ["self", "row"] [])
  (hP:mg "is_plain" = some (.ref fP)) (FP:Fun K "is_plain" "is_plain" qy3 fP fdP) (bP:Binds K fdP ["row"] []):∀k,FnOk P w K mg base CX0 (k+4) f fd nPi4 (spPi C k)
 |0=>by
  refine F.ok scPi (λvs H Q E h=>?_) (λcdv A outer s H vs Q E hr h=>?_)
  ·obtain⟨p,kk,dd,L,t,u,ds,rfl,_⟩:=h
   rfl
  ·obtain⟨p,kk,dd,L,t,u,ds,rfl,hl,_,_,hB,it,iu,_,q⟩:=h;have e:=XA.mp hl;subst e;refine seqE ⟨_,⟨qc9 (qb2 qw5 (pv 2) qc2 (qb4 _)) (qa8 (qa9 (pv 3))) qb1⟩,?_⟩;refine⟨_,qc3,_,rfl,rfl,_,rfl,?_⟩;rw[Zj (show V.str (txt [])=V.str "" by decide +kernel)];exact iteT ⟨_,rfl,q H L (But2.refl _ _ _) hB ⟨[],by simp⟩ iu (Zd _) (λa _ _=>a)⟩
 |k+1=>by
  have GI:=xG0 F B Tc T hG bG hQ FQ bQ MN FN bN hP FP bP k;have GQ:FnOk P w K mg base CX0 1 fQ fdQ ["rows", "number"] xy2:=xt1 FQ Tc;have GN:FnOk P w K mg base CX0 3 fN fdN ["self", "row"] (xz2 C):=xt7 FN B Tc T hP FP bP;refine F.ok scPi (λvs H Q E h=>?_) (λcdv A outer s H vs Q E hr h=>?_)
  ·obtain⟨p,kk,dd,L,t,u,ds,rfl,_⟩:=h
   rfl
  ·obtain⟨p,kk,dd,L,t,u,ds,rfl,hl,hk,j9,hB,it,iu,hLl,q⟩:=h;have jD:Room 1 _:=hr.mono (by lia);have wG:Room 3 _:=hr.mono (by lia)
   match ds,hl with
   |d::ds,hl=>
   have hl:ds.length=k:=by simpa using hl
   have jN:=j9 d Zh;have hds':∀x∈ds,x<4:=λx hx=>j9 x (Ze _ hx);refine seqE ⟨_,⟨qc9 (qb2 qw5 (pv 2) qc2 (qb4 _)) qc3 qb1⟩,?_⟩;refine seqE ⟨_,⟨psN 4 scPi.nd (qc1 qJ5 (by rfl) B.list Wv (qa0 (pcN GQ jD hQ FQ.kp bQ (qa0 (qx0 (pv 0) rfl) (qa0 (pv 1) qa2))) qa2))⟩,?_⟩;refine seqE ⟨_,⟨psN 5 scPi.nd (qc1 qL3 (by rfl) B.int Xd (qa0 (pxN qt5 (pv 2) qa5) qa2))⟩,?_⟩;refine seqE ⟨_,⟨qk5 (pcN GI hr hG F.kp bG (Ars2.go (.cons ⟨pv 0⟩ (.cons ⟨pxN ix_list (pv 4) (pv 5)⟩ (.cons ⟨qv0 qD0 (pv 2) (qE0 qa5) qD9⟩ (.cons ⟨pv 3⟩ .nil rfl) rfl) rfl) rfl))) (qI9 (pv 4) (pv 5) qo8)⟩,?_⟩;refine qe5 ⟨_,⟨qa9 (qD8 (pv 0) T.cl MN GN wG bN .nil qE1 (qa0 (qc1 qo9 (by rfl) B.tuple ZH (qa0 (pv 4) qa2)) qa2))⟩,?_⟩;refine⟨_,rfl,rfl,_,rfl,?_⟩;rw[Zp (show ¬V.str (txt (d::ds))=V.str "" from λz=>by
    have:=Yi Str.length (V.str.inj z);rw[qd2,show ("" : Str).length=0 by decide +kernel] at this;exact absurd this (by simp))]
   refine iteF ?_;obtain⟨⟨dx,hp⟩,hkp,hdc,od⟩:=id hB;obtain⟨bs,wJ,kK,jB⟩:=id hkp;obtain⟨qe,qi⟩:=xh8 od it;have hxl:Tr.name L t<(Tr.rowsOf L).length+2:=by
    rw[Tr.rowsOf_len];rcases Tr.name_in od it with ⟨_,e⟩|⟨_,e⟩|⟨i,hi,e⟩
    ·lia
    ·lia
    ·have:=(gS_ hi).1;lia
   have hq4:qrow (Tr.rowsOf L) (Tr.name L t)=[Tr.name L (qr 0 t),Tr.name L (qr 1 t),Tr.name L (qr 2 t),Tr.name L (qr 3 t)]:=qe;refine⟨_,rfl,p,C,dx,_,_,rfl,hp,T.cl,T.nK,qn0 _ _,_,rfl,kk,_,Tr.rowsOf L,rfl,⟨bs,.inr wJ,kK,jB⟩,hxl,λH1 b s1 hb=>?_⟩;rw[hq4] at hb;refine⟨b,_,rfl,.inr (SqT.of hb),λl wU=>?_⟩;have s2:Same H (upd H1 l (.lst (vN [Tr.name L (qr 0 t),Tr.name L (qr 1 t),Tr.name L (qr 2 t),Tr.name L (qr 3 t)]))):=s1.trans (qb3 wU);have jP:upd H1 l (.lst (vN [Tr.name L (qr 0 t),Tr.name L (qr 1 t),Tr.name L (qr 2 t),Tr.name L (qr 3 t)])) l=some (.lst (vN [Tr.name L (qr 0 t),Tr.name L (qr 1 t),Tr.name L (qr 2 t),Tr.name L (qr 3 t)])):=qa1;have hlH:H l=none:=by
    cases e:H l with
    |none=>rfl
    |some o=>rw[s1 _ _ e] at wU;cases wU
   generalize upd H1 l (.lst (vN [Tr.name L (qr 0 t),Tr.name L (qr 1 t),Tr.name L (qr 2 t),Tr.name L (qr 3 t)]))=H2 at s2 jP ⊢;have v0:(txt (d::ds)).length<=sizeLine:=ZT (qb5 (by rw[qd2];simp;lia));refine⟨_,rfl,txt (d::ds),0,48+d,rfl,rfl,v0,by simp[txt,atI,ixN],?_⟩;refine⟨_,(d:Int),rfl,xe1 jN,(by show 1<=640;decide),?_⟩;have yB:=hB.same s2;have y8:[Tr.name L (qr 0 t),Tr.name L (qr 1 t),Tr.name L (qr 2 t),Tr.name L (qr 3 t)][d]?=some (Tr.name L (qr d t)):=by
    match d,jN with
    |0,_|1,_|2,_|3,_=>rfl
   have esl:Txt.slice (txt (d::ds)) (some 1) none=txt ds:=qZ1 (d::ds) (j:=1) (by simp);refine⟨_,rfl,_,rfl,_,rfl,l,_,(d:Int),.int (Tr.name L (qr d t):Nat),rfl,rfl,SqL.of jP,qu0 y8,_,rfl,_,rfl,txt (d::ds),1,rfl,rfl,rfl,v0,_,rfl,p,kk,dd,L,qr d t,u,ds,?_,hl,by lia,hds',yB,qi d jN,iu,by lia,λH3 L3 B3 hB3 ⟨e3,vF⟩ i3 l3 r3=>?_⟩
   ·rw[esl]
    rfl
   have nlk:l≠kk:=λz=>by rw[z,wJ] at hlH;cases hlH
   have nld:l≠dd:=λz=>by rw[z,hdc] at hlH;cases hlH
   have wV:=B3 _ _ jP nlk nld;refine⟨_,rfl,_,rfl,l,_,(d:Int),d,rfl,rfl,wV,xL3 (by rw[qf3];exact jN),?_⟩;rw[xF9,xp3 jN];have nm:∀i,i<4->(if d=i then Tr.name L3 (putT (qr d t) ds u) else Tr.name L (qr i t))=Tr.name L3 (if d=i then putT (qr d t) ds u else qr i t):=λi hi=>by
    split
    ·rfl
    ·rw[vF,Tr.name_app (qi i hi) od]
   have inn:∀i,i<4->Tr.In L3 (if d=i then putT (qr d t) ds u else qr i t):=λi hi=>by
    split
    ·exact i3
    ·rw[vF];exact (qi i hi).app
   rw[nm 0 (by decide),nm 1 (by decide),nm 2 (by decide),nm 3 (by decide)];have vU:=hB3.put (ys:=vN [Tr.name L3 (if d=0 then putT (qr d t) ds u else qr 0 t),Tr.name L3 (if d=1 then putT (qr d t) ds u else qr 1 t),Tr.name L3 (if d=2 then putT (qr d t) ds u else qr 2 t),Tr.name L3 (if d=3 then putT (qr d t) ds u else qr 3 t)]) wV nlk;have B4:But2 kk dd H (upd H3 l (.lst (vN [Tr.name L3 (if d=0 then putT (qr d t) ds u else qr 0 t),Tr.name L3 (if d=1 then putT (qr d t) ds u else qr 1 t),Tr.name L3 (if d=2 then putT (qr d t) ds u else qr 2 t),Tr.name L3 (if d=3 then putT (qr d t) ds u else qr 3 t)]))):=λx o e n1 n2=>by
    rw[qa7 (qa4 e hlH)];exact B3 _ _ (s2 _ _ e) n1 n2
   have vJ:upd H3 l (.lst (vN [Tr.name L3 (if d=0 then putT (qr d t) ds u else qr 0 t),Tr.name L3 (if d=1 then putT (qr d t) ds u else qr 1 t),Tr.name L3 (if d=2 then putT (qr d t) ds u else qr 2 t),Tr.name L3 (if d=3 then putT (qr d t) ds u else qr 3 t)])) l=some (.lst (vN [Tr.name L3 (if d=0 then putT (qr d t) ds u else qr 0 t),Tr.name L3 (if d=1 then putT (qr d t) ds u else qr 1 t),Tr.name L3 (if d=2 then putT (qr d t) ds u else qr 2 t),Tr.name L3 (if d=3 then putT (qr d t) ds u else qr 3 t)])):=qa1;generalize upd H3 l (.lst (vN [Tr.name L3 (if d=0 then putT (qr d t) ds u else qr 0 t),Tr.name L3 (if d=1 then putT (qr d t) ds u else qr 1 t),Tr.name L3 (if d=2 then putT (qr d t) ds u else qr 2 t),Tr.name L3 (if d=3 then putT (qr d t) ds u else qr 3 t)]))=H4 at vU B4 vJ ⊢;obtain⟨⟨dx4,kG⟩,_⟩:=id vU;refine⟨_,rfl,p,dx4,_,rfl,kG,qw0 _ _ (by decide +kernel) (by decide +kernel),_,rfl,l,_,rfl,.inl ⟨SqL.of vJ,λbt kU=>?_⟩⟩;refine⟨p,kk,dd,bt,L3,_,_,_,_,rfl,vU.same (qb3 kU),qa1,inn 0 (by decide),inn 1 (by decide),inn 2 (by decide),inn 3 (by decide),by lia,λH6 B6 hB6=>?_⟩;obtain⟨e6,jO,hl6⟩:=qA1 (putT t (d::ds) u) L3;refine q H6 _ (B4.trans ((But2.of (qb3 kU)).trans B6)) hB6 ⟨e3++e6,?_⟩ (xt5 (putT t (d::ds) u) L3) ?_ λa1 a2 a3=>xh3 (r3 a1 (qT0 a2) a3) (qG5 (d::ds) a2 a3)
   ·show ins (putT t (d::ds) u) L3=_;rw[jO,vF,YF]
   ·show (ins (putT t (d::ds) u) L3).length<=_;rw[jO,Zu];lia
end
theorem xh9 {n tp:Nat}{rows:List Row}(c:Canon n tp rows):rows.length<=nds (T rows tp):=by
 have h:=(xz5 c).2;have e:rows.length=(q47 (TR rows tp)).length:=Yi List.length h;rw[e];unfold q47 TR;rw[Tr.rowsOf_len,qP0 (qe7 c)];have:=qj2 (T rows tp) [];simpa using this
section
variable {P:Program}{w:World}{K:PySem.W.Frag}{mg:Str->Option Value}{base:Heap}
abbrev nWs:List Str:=["shape", "address", "other", "n", "top", "rows", "size", "other_top", "other_rows", "book", "numbers", "other_numbers"]
theorem scWs:FnScope nWs ["shape", "address", "other"] (qa3 qF5):=qd0
def spWs (CS CA CO:Addr):Sp:=λvs H Q E=>∃(v v2 v3:V) (d d2 d3:PyData),vs=[v,v2,v3]/\DatX H v d/\Bnd d/\DatX H v2 d2/\(∀x,d2=.str x->x.length<=100)/\DatX H v3 d3/\Bnd d3 /\
 ((¬IsSh d/\∀H',Same H H'->E (.ref CS) none H')\/(IsSh d/\¬IsSh d3/\∀H',Same H H'->E (.ref CS) none H')\/∃n tp rows m tq rows3,d=qe6 n tp rows/\Canon n tp rows/\d3=qe6 m tq rows3/\Canon m tq rows3 /\
  ((isAd n d2=false/\∀H',Same H H'->E (.ref CA) none H')\/∃ds,d2=.str (txt ds)/\(∀x∈ds,x<4)/\ds.length<=n /\
   ((m≠n-ds.length/\∀H',Same H H'->E (.ref CO) none H') \/
    (m=n-ds.length/\nds (putT (T rows tp) ds (T rows3 tq))<=990/\∀H' t',Same H H'->ShT H' t' n (putT (T rows tp) ds (T rows3 tq))->Q (.ref t') H'))))
theorem xL4 {f fW fA fP fS fB fG CS CA CO C:Addr}{fd fdW fdA fdP fdS fdB fdG:FuncData}(F:Fun K "with_square" "with_square" qF5 f fd) (B:Blt mg) (TB:BookIn K mg C) (hO:mg "OtherFloor" = some (.ref CO)) (hx:PySem.W.excIn K CO bmV "ValueError.__new__" = true)
  (hW:mg "want_shape" = some (.ref fW)) (FW:Fun K "want_shape" "want_shape" qM4 fW fdW) (bW:Binds K fdW ["shape"] []) (GW:FnOk P w K mg base (CX1 P w) 16 fW fdW ["shape"] (qv9 CS))
  (hA:mg "want_address" = some (.ref fA)) (FA:Fun K "want_address" "want_address" qM2 fA fdA) (bA:Binds K fdA ["n", "address"] []) (GA:FnOk P w K mg base (CX1 P w) 3 fA fdA ["n", "address"] (qv8 CA))
  (MB:Mk K C fB) (FB:Fun K "__init__" "Book.__init__" qF3 fB fdB) (bB:Binds K fdB ["self"] [])
  (MG:Meth K C "numbers_for" fG) (FG:Fun K "numbers_for" "Book.numbers_for" qF4 fG fdG) (bG:Binds K fdG ["self", "rows"] []) (GG:FnOk P w K mg base CX0 4 fG fdG ["self", "rows"] (xz7 C))
  (hP:mg "put_in" = some (.ref fP)) (FP:Fun K "put_in" "put_in" qW6 fP fdP) (bP:Binds K fdP nPi4 []) (GP:∀k,FnOk P w K mg base CX0 (k+4) fP fdP nPi4 (spPi C k))
  (hS:mg "shape_of" = some (.ref fS)) (FS:Fun K "shape_of" "shape_of" qq0 fS fdS) (bS:Binds K fdS ["n", "top", "rows"] []) (GS:FnOk P w K mg base CX0 15 fS fdS ["n", "top", "rows"] spSO) :
  FnOk P w K mg base (CX1 P w) 17 f fd ["shape", "address", "other"] (spWs CS CA CO):=by
 have GB:FnOk P w K mg base CX0 1 fB fdB ["self"] (xF5 C):=xF6 FB TB;refine F.ok1 scWs (λvs H Q E h=>?_) (λcdv A outer s H vs Q E hr h=>?_)
 ·obtain⟨v,v2,v3,d,d2,d3,rfl,_⟩:=h
  rfl
 ·obtain⟨v,v2,v3,d,d2,d3,rfl,hd,bn,jW,kW,jV,bn3,cs⟩:=h;have jZ:Room 2 _:=hr.mono (by decide);have wG:Room 3 _:=hr.mono (by decide);have hr4:Room 4 _:=hr.mono (by decide);have hr15:Room 15 _:=hr.mono (by decide);refine seqE ⟨_,⟨qf0 (qh8 GW hr (by rfl) hW FW.kp bW .nil qx9 (qa0 (pv 0) qa2))⟩,?_⟩;rcases cs with ⟨no,e⟩|cs
  ·exact⟨_,qc3,_,rfl,v,d,rfl,hd,bn,λz=>(no z).elim,λ_=>e⟩
  refine seqE ⟨_,⟨qf0 (qh8 GW hr (by rfl) hW FW.kp bW .nil qx9 (qa0 (pv 2) qa2))⟩,?_⟩;rcases cs with ⟨sh,no,e⟩|⟨n,tp,rows,m,tq,rows3,rfl,cn,rfl,cm,cs⟩
  ·exact⟨_,qc3,_,rfl,v,d,rfl,hd,bn,(λ_ H1 s1=>⟨_,rfl,v3,d3,rfl,jV.same s1,bn3,λz=>(no z).elim,λ_ H2 s2=>e H2 (s1.trans s2)⟩),λz=>absurd sh z⟩
  obtain⟨t,rfl,hT⟩:=qv5 hd;obtain⟨t3,rfl,hT3⟩:=qv5 jV;have hn:=cn.size;have sh:IsSh (qe6 n tp rows):=⟨n,tp,rows,rfl,cn⟩;have sh3:IsSh (qe6 m tq rows3):=⟨m,tq,rows3,rfl,cm⟩;refine seqE ⟨_,⟨qk5 (pv 0) (qo5 rfl (qb8 (pgN 3 scWs.nd) (qb8 (pgN 4 scWs.nd) (qb8 (pgN 5 scWs.nd) qj7))))⟩,?_⟩;refine seqE ⟨_,⟨qf0 (qh8 GA wG (by rfl) hA FA.kp bA .nil qx9 (qa0 (pv 3) (qa0 (pv 1) qa2)))⟩,?_⟩;rcases cs with ⟨na,e⟩|⟨ds,rfl,j9,hl,cs⟩
  ·refine⟨_,qc3,_,rfl,.ref t,_,rfl,hd,bn,(λ_ H1 s1=>?_),λz=>absurd sh z⟩;refine⟨_,rfl,.ref t3,_,rfl,jV.same s1,bn3,(λ_ H2 s2=>?_),λz=>absurd sh3 z⟩;obtain⟨rp,ht,hR⟩:=hT.mono (s1.trans s2).tups;refine⟨_,rfl,t,_,rfl,SqT.of ht,rfl,_,_,rfl,_,_,rfl,_,_,rfl,rfl,?_⟩;exact⟨_,rfl,_,rfl,n,v2,d2,rfl,hn,jW.same (s1.trans s2),kW,λz=>Bool.noConfusion (na.symm.trans z),λ_ H3 s3=>e H3 ((s1.trans s2).trans s3)⟩
  cases jW;have v0:(txt ds).length<=sizeLine:=ZT (qb5 (by rw[qd2];lia));refine seqE ⟨_,⟨qk5 (pv 2) (qo5 rfl (qb8 (pgN 6 scWs.nd) (qb8 (pgN 7 scWs.nd) (qb8 (pgN 8 scWs.nd) qj7))))⟩,?_⟩;refine seqE ⟨_,⟨qc9 (qb2 qw6 (pv 6) (PEb.go ⟨qb0 qe0 (pv 3) (qa6 qe1 (by rfl) B.len ZM (qa0 (pv 1) qa2))⟩) (qb4 _)) (qa8 (qE8 (by rfl) hO hx rfl qR4 (qa0 qc2 qa2))) qb1⟩,?_⟩;rcases cs with ⟨ne,e⟩|⟨em,few,q⟩
  ·refine⟨_,qc3,_,rfl,.ref t,_,rfl,hd,bn,(λ_ H1 s1=>?_),λz=>absurd sh z⟩;refine⟨_,rfl,.ref t3,_,rfl,jV.same s1,bn3,(λ_ H2 s2=>?_),λz=>absurd sh3 z⟩;obtain⟨rp,ht,hR⟩:=hT.mono (s1.trans s2).tups;refine⟨_,rfl,t,_,rfl,SqT.of ht,rfl,_,_,rfl,_,_,rfl,_,_,rfl,rfl,?_⟩;refine⟨_,rfl,_,rfl,n,_,_,rfl,hn,.str _,kW,(λ_ H3 s3=>?_),λz=>Bool.noConfusion ((qH6 j9 hl).symm.trans z)⟩;obtain⟨rp3,ht3,vZ⟩:=hT3.mono ((s1.trans s2).trans s3).tups;refine⟨_,rfl,t3,_,rfl,SqT.of ht3,rfl,_,_,rfl,_,_,rfl,_,_,rfl,rfl,?_⟩;refine⟨_,rfl,_,rfl,_,rfl,txt ds,rfl,v0,_,_,rfl,rfl,rfl,_,rfl,?_⟩;rw[qd2];have:V.int (m:Nat)≠V.int ((n:Int)-((ds.length:Nat):Int)):=λz=>by
    have:=V.int.inj z;lia
   show (if (!decide (V.int (m:Nat)=V.int ((n:Int)-((ds.length:Nat):Int))))=true then _ else _);rw[Zp this];exact iteT ⟨by decide,e H3 ((s1.trans s2).trans s3)⟩
  ·have hrk:Room (ds.length+4) _:=hr.mono (by lia);refine seqE ⟨_,⟨psN 9 scWs.nd (xk9 MB GB jZ (by rfl) TB.mgC bB .nil qE1)⟩,?_⟩;refine seqE ⟨_,⟨psN 10 scWs.nd (qD8 (pv 9) TB.cl MG GG hr4 bG .nil qE1 (qa0 (pv 5) qa2))⟩,?_⟩;refine seqE ⟨_,⟨psN 11 scWs.nd (qD8 (pv 9) TB.cl MG GG hr4 bG .nil qE1 (qa0 (pv 8) qa2))⟩,?_⟩;refine qe5 ⟨_,⟨qa9 (pcN GS hr15 hS FS.kp bS (Ars2.go (.cons ⟨pv 3⟩ (.cons ⟨qh8 (GP ds.length) hrk (by rfl) hP FP.kp bP .nil qE1 (Ars2.go (.cons ⟨pv 9⟩ (.cons ⟨pxN ix_list (pv 10) (pv 4)⟩ (.cons ⟨pv 1⟩ (.cons ⟨pxN ix_list (pv 11) (pv 7)⟩ .nil rfl) rfl) rfl) rfl))⟩ (.cons ⟨qx0 (pv 9) rfl⟩ .nil rfl) rfl) rfl)))⟩,?_⟩;refine⟨_,rfl,.ref t,_,rfl,hd,bn,(λ_ H1 s1=>?_),λz=>absurd sh z⟩;refine⟨_,rfl,.ref t3,_,rfl,jV.same s1,bn3,(λ_ H2 s2=>?_),λz=>absurd sh3 z⟩;obtain⟨rp,ht,hR⟩:=hT.mono (s1.trans s2).tups;refine⟨_,rfl,t,_,rfl,SqT.of ht,rfl,_,_,rfl,_,_,rfl,_,_,rfl,rfl,?_⟩;refine⟨_,rfl,_,rfl,n,_,_,rfl,hn,.str _,kW,(λ_ H3 s3=>?_),λz=>Bool.noConfusion ((qH6 j9 hl).symm.trans z)⟩;obtain⟨rp3,ht3,vZ⟩:=hT3.mono ((s1.trans s2).trans s3).tups;refine⟨_,rfl,t3,_,rfl,SqT.of ht3,rfl,_,_,rfl,_,_,rfl,_,_,rfl,rfl,?_⟩;refine⟨_,rfl,_,rfl,_,rfl,txt ds,rfl,v0,_,_,rfl,rfl,rfl,_,rfl,?_⟩;rw[qd2];show (if (!decide (V.int (m:Nat)=V.int ((n:Int)-((ds.length:Nat):Int))))=true then _ else _);rw[Zj (show V.int (m:Nat)=V.int ((n:Int)-((ds.length:Nat):Int)) by congr 1;lia)];refine iteF ?_;refine qC9 (σ':=[some (.ref t),some (.str (txt ds)),some (.ref t3),some (.int (n:Nat)),some (.int (tp:Nat)),some (.ref rp),some (.int (m:Nat)),some (.int (tq:Nat)),some (.ref rp3),none,none,none]) rfl ?_;have S3:=(s1.trans s2).trans s3;have hR:=hR.mono s3.tups;intro b dx hb wZ jE;refine⟨b,dx,rfl,qa1,λkk dd H4 vH wB vU b4=>⟨rfl,?_⟩⟩;have N3:∀x,upd (upd H3 dx (.own b)) b (.ins C dx []) x=none->H3 x=none:=λx e=>by
    have n1:x≠b:=λz=>by rw[z,qa1] at e;cases e
    rw[qa7 n1] at e;have n2:x≠dx:=λz=>by rw[z,qa1] at e;cases e
    rw[qa7 n2] at e;exact e
   have S4:Same H3 H4:=λx o e=>b4 _ _ (by rw[qa7 (qa4 e hb),qa7 (qa4 e wZ)];exact e) (qa4 e hb);have nk:=N3 _ vH;have nd:=N3 _ wB;have sb:∀{Ha Hb:Hp},Same H3 Ha->But2 kk dd Ha Hb->Same H3 Hb:=λsa bb x o e=>bb _ _ (sa _ _ e) (qa4 e nk) (qa4 e nd);obtain⟨⟨dx4,hob4⟩,_⟩:=id vU;have ok:=cn.rok;have ok3:=cm.rok;have hl9:rows.length<=990:=qv6 bn;have hl93:rows3.length<=990:=qv6 bn3;refine⟨_,rfl,b,dx4,_,rfl,hob4,qw0 _ _ (by decide +kernel) (by decide +kernel),_,rfl,b,kk,dd,rp,[],rows,rfl,vU,hR.mono S4.tups,ok,by simp;lia,λH5 g hg B5 hB5 hg5=>?_⟩;have S5:=sb S4 B5;obtain⟨e5,kR,hle5⟩:=qw1 rows [] rows.length;have hL5:(insG rows [] rows.length).length<=rows.length:=by rw[kR];simpa using hle5
   have red5:ql9 (insG rows [] rows.length):=qH8 (λt ht=>by cases ht) rows.length;have in5:Tr.In (insG rows [] rows.length) (TR rows tp):=qk3 rows.length tp cn.inn;have eT:TR rows tp=T rows tp:=qP0 (qe7 cn);have at5:(nmsG rows [] rows.length)[tp]?=some (Tr.name (insG rows [] rows.length) (TR rows tp)):=by
    unfold nmsG;rw[Zg,Y4 cn.inn]
    rfl
   rw[eT] at in5 at5;generalize insG rows [] rows.length=L at hB5 hL5 red5 in5 at5;obtain⟨⟨dx5,hob5⟩,_,_,od5⟩:=id hB5;refine⟨_,rfl,b,dx5,_,rfl,hob5,qw0 _ _ (by decide +kernel) (by decide +kernel),_,rfl,b,kk,dd,rp3,L,rows3,rfl,hB5,vZ.mono S5.tups,ok3,by lia,λH6 g3 hg3 B6 hB6 hg6=>?_⟩;have S6:=sb S5 B6;obtain⟨e6,jO,hle6⟩:=qw1 rows3 L rows3.length;have hL6:(insG rows3 L rows3.length).length<=L.length+rows3.length:=by rw[jO,Zu];lia
   have red6:ql9 (insG rows3 L rows3.length):=qH8 red5 rows3.length;have in6:Tr.In (insG rows3 L rows3.length) (TR rows3 tq):=qk3 rows3.length tq cm.inn;have eT3:TR rows3 tq=T rows3 tq:=qP0 (qe7 cm);have at6:(nmsG rows3 L rows3.length)[tq]?=some (Tr.name (insG rows3 L rows3.length) (TR rows3 tq)):=by
    unfold nmsG;rw[Zg,Y4 cm.inn]
    rfl
   rw[eT3] at in6 at6;have nm5:Tr.name (insG rows3 L rows3.length) (T rows tp)=Tr.name L (T rows tp):=by rw[jO];exact Tr.name_app in5 od5
   have in56:Tr.In (insG rows3 L rows3.length) (T rows tp):=by rw[jO];exact in5.app
   rw[<- nm5] at at5;have ngk:g≠kk:=λz=>by
    obtain⟨_,⟨bs5,hk5,_⟩,_⟩:=id vU;rw[z,hk5] at hg;cases hg
   have ngd:g≠dd:=λz=>by
    obtain⟨_,_,vX,_⟩:=id vU;rw[z,vX] at hg;cases hg
   have hg56:=B6 _ _ hg5 ngk ngd;generalize insG rows3 L rows3.length=L6 at hB6 hL6 red6 in6 at6 nm5 in56 at5;obtain⟨⟨dx6,hob6⟩,_,_,od6⟩:=id hB6;refine⟨_,rfl,_,rfl,_,rfl,_,rfl,g,_,(tp:Int),.int (Tr.name L6 (T rows tp):Nat),rfl,rfl,SqL.of hg56,qu0 at5,_,rfl,_,rfl,_,rfl,g3,_,(tq:Int),.int (Tr.name L6 (T rows3 tq):Nat),rfl,rfl,SqL.of hg6,qu0 at6,?_⟩;refine⟨b,kk,dd,L6,T rows tp,T rows3 tq,ds,rfl,rfl,by lia,j9,hB6,in56,in6,by lia,λH7 L7 B7 hB7 wY in7 l7 red7=>?_⟩;have S7:=sb S6 B7;obtain⟨⟨dx7,hob7⟩,⟨bs7,hk7,hbl7,hrow7⟩,_,od7⟩:=id hB7;have kY:=qG5 ds (qe7 cn) (qe7 cm);have hdep:Tr.dep (putT (T rows tp) ds (T rows3 tq))<=n:=by
    have h1:=qq8 cn;have h2:=qq8 cm;have:=qT1 ds (t:=T rows tp) (u:=T rows3 tq) (k:=m) j9 (by lia) h2;lia
   have hxL:Tr.name L7 (putT (T rows tp) ds (T rows3 tq))<(Tr.rowsOf L7).length+2:=by
    rw[Tr.rowsOf_len];rcases Tr.name_in od7 in7 with ⟨_,e⟩|⟨_,e⟩|⟨i,hi,e⟩
    ·lia
    ·lia
    ·have:=(gS_ hi).1;lia
   have hdpL:dp (Tr.rowsOf L7) (Tr.name L7 (putT (T rows tp) ds (T rows3 tq)))<=n:=by rw[qo3 od7 _ in7];exact hdep
   have okL:=Tr.rowsOf_ok od7;obtain⟨c8,e8⟩:=qC4 (n:=n) hn okL hxL hdpL (qn6 od7 (red7 red6 (qe7 cn) (qe7 cm))) (Tr.rowsOf_nodup od7);refine⟨_,rfl,b,C,dx7,_,_,rfl,hob7,TB.cl,TB.nK,qn0 _ _,kk,n,_,Tr.rowsOf L7,rfl,⟨bs7,.inr hk7,hbl7,hrow7⟩,okL,by rw[Tr.rowsOf_len];lia,hxL,hn,hdpL,λH8 t8 s8 tell=>?_⟩;rw[qq4 od7 _ in7] at e8;have fw:=xh9 c8;rw[e8] at fw;exact q H8 t8 (S3.trans (S7.trans s8)) ⟨_,_,⟨tell,c8,ZE fw few⟩,e8⟩
end
theorem qZ4 {d:Nat}(h:d<4):atI ("0123" : Str).cps.toList (d:Int)=some (48+d):=by
 refine qd8 ?_
 match d,h with
 |0,_|1,_|2,_|3,_=>decide +kernel
theorem qw2:("0123" : Str).length<=sizeLine:=by decide +kernel
theorem qZ5 (l:List Nat):((l.map (λd=>(⟨#[48+d]⟩:Str))).map (·.length)).sum=l.length:=by
 induction l with
 |nil=>rfl
 |cons a l ih=>
  rw[Zz,Zz,We,ih,Zy];show 1+l.length=l.length+1;lia
def inT (t:Str) (d:Nat):Bool:=!(Builtin.Str.occurrences t ⟨#[48+d]⟩ 0 t.length 1).isEmpty
theorem xG1 {d:Nat}(h:d<4):inT "23" d=decide (d/2=1):=by
 match d,h with
 |0,_|1,_|2,_|3,_=>decide +kernel
theorem xG2 {d:Nat}(h:d<4):inT "13" d=decide (d%2=1):=by
 match d,h with
 |0,_|1,_|2,_|3,_=>decide +kernel
section
variable {P:Program}{w:World}{K:PySem.W.Frag}{mg:Str->Option Value}{base:Heap}
theorem scLa:FnScope ["_law_pot_here", "_law_n"] ["_law_pot_here", "_law_n"] (qa3 qq1):=qd0
def spLa:Sp:=λvs H Q _=>∃(p:Addr) (n:Nat),vs=[.ref p,.int (n:Nat)]/\PurseAt H p/\n<=12/\∀(ds:List Nat) (H':Hp),(∀d∈ds,d<4)->ds.length<=n->PurseAt H' p->But p H H'->Q (.str (txt ds)) H'
theorem xL5 {f fD:Addr}{fd fdD:FuncData}(F:Fun K "_law_address" "_law_address" qq1 f fd) (B:Blt mg) (hD:mg "_law_digit" = some (.ref fD)) (FD:Fun K "_law_digit" "_law_digit" qk6 fD fdD) (bD:Binds K fdD ["_law_pot_here", "_law_many"] []):FnOk P w K mg base CX0 2 f fd ["_law_pot_here", "_law_n"] spLa:=by
 have GD:FnOk P w K mg base CX0 1 fD fdD ["_law_pot_here", "_law_many"] qi2:=qh4 FD;refine F.ok scLa (λvs H Q E h=>?_) (λcdv A outer s H vs Q E hr h=>?_)
 ·obtain⟨p,n,rfl,_⟩:=h
  rfl
 ·obtain⟨p,n,rfl,hp,hn,q⟩:=h;refine⟨_,qa8 (qa9 (q72 Wz PySem.F.slot_str_join PySem.F.type_str_join xa6 qc2 (qa0 (qg6 ["_law_pot_here", "_law_n"] (qa3 qq1) rfl rfl rfl scLa.nd
    (qh7 (by rfl) B.range (qa0 (pcN GD hr hD FD.kp bD (qa0 (pv 0) (qa0 (qb0 qc4 (pv 1) qa5) qa2))) qa2))
    (λcl C fp s₀ H₀=>pxN qt5 qc2 (pcN GD hr hD FD.kp bD (qa0 (pv 1) (qa0 qa5 qa2))))) qa2))),?_⟩
  refine⟨rfl,?_⟩;refine⟨_,rfl,_,rfl,_,_,rfl,rfl,p,n+1,rfl,hp,by lia,by lia,λd H1 hd b1 jG=>?_⟩;refine⟨(d:Int),rfl,by lia,by lia,λD jX=>?_⟩;obtain⟨pa,pb,k6,_⟩:=id jG;have nDp:D≠p:=λz=>by rw[z,k6] at jX;cases jX
  refine⟨λi cnt xs H2=>i<=d/\cnt=d-i/\∃ds:List Nat,ds.length=i/\(∀e∈ds,e<4)/\xs=ds.map (λe=>V.str ⟨#[48+e]⟩)/\H2 D=some (.lst xs)/\PurseAt H2 p/\∀b o,H1 b=some o->b≠p->H2 b=some o,
   ⟨_,ZB _,rfl,[],rfl,λ_ z=>(nomatch z),rfl,qa1,jG.same (qb3 jX),λb o e _=>qc0 e jX⟩,?_⟩
  rintro i cnt xs H2 ⟨hi,rfl,ds,hl,j9,rfl,hH,hpot,hbut⟩;have wT:(ds.map (λe=>V.str ⟨#[48+e]⟩)).length=i:=by simp[hl]
  refine⟨hH,qb5 (by rw[wT];lia),?_⟩;by_cases he:i=d
  ·refine .inl ⟨show ((d:Nat):Int).toNat<=i by lia, "",D,ds.map (λe=>(⟨#[48+e]⟩:Str)),rfl,rfl,?_,?_,?_⟩
   ·rw[hH,Y5]
    rfl
   ·have e3:("" : Str).length=0:=by decide +kernel
    rw[qZ5,e3,hl];lia
   ·rw[qY3];exact q ds H2 j9 (by lia) hpot (λb o e n=>hbut b o (b1 b o e n) n)
  ·refine .inr ⟨show i<((d:Nat):Int).toNat by lia,?_⟩;rintro yv H3 ⟨rfl,rfl⟩;refine⟨_,rfl,p,4,rfl,hpot,by decide,by decide,λe H4 kT b4 kG=>?_⟩;refine⟨_,_,_,rfl,rfl,qw2,qZ4 kT,?_⟩;have hH4:=b4 _ _ hH nDp;obtain⟨pa4,pb4,hpe4,r4⟩:=id kG;refine⟨hH4,d-(i+1),by lia,by lia,rfl,ds++[e],by simp[hl],?_,by simp,qa1,⟨pa4,pb4,by rw[qa7 (Z0 nDp)];exact hpe4,r4⟩,λb o z n=>?_⟩
   ·intro x hx;rcases Z1.mp hx with hx|hx
    ·exact j9 x hx
    ·have:x=e:=by simpa using hx
     lia
   ·rw[qa7 (qa4 z jX)];exact b4 b o (hbut b o z n) n
abbrev nSq:List Str:=["_law_n", "_law_address_here", "_law_first", "_law_side", "_law_figure"]
theorem scSq:FnScope nSq ["_law_n", "_law_address_here"] (qa3 qF6):=qd0
def spSq:Sp:=λvs H Q _=>∃(n:Nat) (ds:List Nat),vs=[.int (n:Nat),.str (txt ds)]/\n<=12/\(∀d∈ds,d<4)/\ds.length<=n /\
 ∀H' p,Same H H'->H' p=some (.tup (vN [cof (· / 2) n ds,cof (·%2) n ds,2^(n-ds.length)]))->Q (.ref p) H'
theorem xL6 {f:Addr}{fd:FuncData}(F:Fun K "_law_square" "_law_square" qF6 f fd):FnOk P w K mg base CX0 1 f fd ["_law_n", "_law_address_here"] spSq:=by
 refine F.ok scSq (λvs H Q E h=>?_) (λcdv A outer s H vs Q E hr h=>?_)
 ·obtain⟨m,ds,rfl,_⟩:=h
  rfl
 ·obtain⟨n,ds,rfl,hn,j9,hl,q⟩:=h;refine⟨_,qb6 (psN 2 scSq.nd (qg1 (qa0 qa5 (qa0 qa5 qa2))))
   (qb6 (psN 3 scSq.nd (qb0 qn5 qa5 (pv 0)))
   (qb6 (qo6 YS rfl (xb0 (pv 1)) (pgN 4 scSq.nd)
    (qb6 (psN 3 scSq.nd (qb0 qr8 (pv 3) qa5))
    (qb6 (qc9 (qb2 qw7 (pv 4) qc2 (by first|exact qb4 _|rfl|decide)) (qa8 (qk5 (qb0 qc4 (pxN ix_list (pv 2) qa5) (pv 3)) (qI9 (pv 2) qa5 qo8))) qb1)
    (qa8 (qc9 (qb2 qw7 (pv 4) qc2 (by first|exact qb4 _|rfl|decide)) (qa8 (qk5 (qb0 qc4 (pxN ix_list (pv 2) qa5) (pv 3)) (qI9 (pv 2) qa5 qo8))) qb1)))))
   (qa8 (qa9 (qg0 (qa0 (pxN ix_list (pv 2) qa5) (qa0 (pxN ix_list (pv 2) qa5) (qa0 (pv 3) qa2)))))))),?_⟩
  refine⟨by show 2<=sizeLine;decide,λl wU=>?_⟩;refine⟨_,rfl,_,_,rfl,rfl,⟨by lia,by lia,by decide⟩,?_⟩;have e0:(1:Int)*2^((n:Nat):Int).toNat=((2^(n-0):Nat):Int):=qs9 n;have c00:∀f:Nat->Nat,cof f n []=0:=λf=>by cases n<;>rfl
  refine⟨_,rfl,txt ds,rfl,xe0 (λi σ H2=>i<=ds.length/\∃v,H2=upd H l (.lst [.int (cof (· / 2) n (ds.take i):Nat),.int (cof (·%2) n (ds.take i):Nat)])/\σ=[some (.int (n:Nat)),some (.str (txt ds)),some (.ref l),some (.int ((2^(n-i):Nat):Int)),v])
   ⟨ZB _,none,by rw[List.take_zero,c00,c00];rfl,by rw[<- e0];rfl⟩ ?_ ?_⟩
  ·rintro i c σ H2 hc ⟨hi,v,rfl,rfl⟩;obtain⟨d,hd,rfl⟩:=xt0 hc;have jN:d<4:=j9 d (Zs hd);have j7:=(gS_ hd).1;have er:=qY4 (f:=(· / 2)) (n:=n) hd hl;have ec:=qY4 (f:=(·%2)) (n:=n) hd hl;generalize cof (· / 2) n (ds.take i)=x0 at er;generalize cof (·%2) n (ds.take i)=y0 at ec;have hh:=xo0 (n:=n) (i:=i) (by lia);have fin:∀(H3:Hp) (x y:Int),x=((cof (· / 2) n (ds.take (i+1)):Nat):Int)->y=((cof (·%2) n (ds.take (i+1)):Nat):Int)->H3=upd H l (.lst [.int x,.int y]) ->
     i+1<=ds.length/\∃v,H3=upd H l (.lst [.int (cof (· / 2) n (ds.take (i+1)):Nat),.int (cof (·%2) n (ds.take (i+1)):Nat)])/\[some (V.int (n:Nat)),some (.str (txt ds)),some (.ref l),some (.int (((2^(n-i):Nat):Int)/2)),some (.str ⟨#[48+d]⟩)]=[some (V.int (n:Nat)),some (.str (txt ds)),some (.ref l),some (.int ((2^(n-(i+1)):Nat):Int)),v]:=by
    rintro H3 x y rfl rfl rfl;refine⟨by lia,some (.str ⟨#[48+d]⟩),rfl,?_⟩;rw[hh,show n-i-1=n-(i+1) by lia]
   refine⟨_,rfl,_,_,rfl,rfl,⟨by decide,by decide⟩,?_⟩;refine⟨_,rfl,_,_,rfl,rfl,_,rfl,?_⟩;have r1:inT "23" d=true->((x0:Nat):Int)+((2^(n-i):Nat):Int)/2=((cof (· / 2) n (ds.take (i+1)):Nat):Int):=λa1=>by
    rw[xG1 jN] at a1;rw[er,hh,Zq a1];lia
   have r0:¬inT "23" d=true->((x0:Nat):Int)=((cof (· / 2) n (ds.take (i+1)):Nat):Int):=λa1=>by
    rw[xG1 jN,decide_eq_true_iff] at a1;have:d/2=0:=by lia
    rw[er,this];lia
   have c1:inT "13" d=true->((y0:Nat):Int)+((2^(n-i):Nat):Int)/2=((cof (·%2) n (ds.take (i+1)):Nat):Int):=λa1=>by
    rw[xG2 jN] at a1;rw[ec,hh,Zq a1];lia
   have c0:¬inT "13" d=true->((y0:Nat):Int)=((cof (·%2) n (ds.take (i+1)):Nat):Int):=λa1=>by
    rw[xG2 jN,decide_eq_true_iff] at a1;have:d%2=0:=by lia
    rw[ec,this];lia
   refine ite2 (λa1=>?_) (λa1=>?_)
   ·refine⟨_,rfl,l,_,0,_,rfl,rfl,SqL.of qa1,rfl,_,rfl,_,_,rfl,rfl,_,rfl,l,_,0,0,rfl,rfl,qa1,rfl,?_⟩;refine⟨_,rfl,_,_,rfl,rfl,_,rfl,?_⟩;refine ite2 (λa2=>?_) (λa2=>?_)
    ·refine⟨_,rfl,l,_,1,_,rfl,rfl,SqL.of qa1,rfl,_,rfl,_,_,rfl,rfl,_,rfl,l,_,1,1,rfl,rfl,qa1,rfl,?_⟩;exact fin _ _ _ (r1 a1) (c1 a2) (by rw[qw3,qw3];rfl)
    ·exact fin _ _ _ (r1 a1) (c0 a2) (by rw[qw3];rfl)
   ·refine⟨_,rfl,_,_,rfl,rfl,_,rfl,?_⟩;refine ite2 (λa2=>?_) (λa2=>?_)
    ·refine⟨_,rfl,l,_,1,_,rfl,rfl,SqL.of qa1,rfl,_,rfl,_,_,rfl,rfl,_,rfl,l,_,1,1,rfl,rfl,qa1,rfl,?_⟩;exact fin _ _ _ (r0 a1) (c1 a2) (by rw[qw3];rfl)
    ·exact fin _ _ _ (r0 a1) (c0 a2) rfl
  ·rintro σ H2 ⟨hi,v,rfl,rfl⟩;refine⟨_,rfl,l,_,0,_,rfl,rfl,SqL.of qa1,rfl,_,rfl,l,_,1,_,rfl,rfl,SqL.of qa1,rfl,_,rfl,(by show 3<=sizeLine;decide),λp hpn=>?_⟩;rw[qY2,YT] at *;exact q _ p ((qb3 wU).trans (qb3 hpn)) qa1
end
end Pr
namespace Qf
open Tr
theorem bitl {k i:Nat}(c y:Nat) (h:i<k):(2^k*c+y)/2^i%2=y/2^i%2:=by
 have e:2^k=2^i*(2*2^(k-i-1)):=by
  rw[<- Nat.pow_succ',<- XX];congr 1;lia
 rw[e,Yc,Wj (YY (by decide)),Yc];lia
theorem qH9:∀(k:Nat) (t:Tr) (a b i j:Nat),qk2 k t (2^k*a+i) (2^k*b+j)=qk2 k t i j
 |0,_,_,_,_,_=>rfl
 |k+1,t,a,b,i,j=>by
  show qk2 k (qr _ t) _ _=qk2 k (qr _ t) _ _;rw[bitl a i (Z2 k),bitl b j (Z2 k)];have e:∀x y:Nat,2^(k+1)*x+y=2^k*(2*x)+y:=λx y=>by rw[Yh,Yc]
  rw[e,e,qH9 k]
theorem qZ6:∀(k:Nat){s t:Tr},Red s->Red t->dep s<=k->dep t<=k->(∀i j,i<2^k->j<2^k->qk2 k s i j=qk2 k t i j)->s=t
 |0,s,t,_,_,hs,ht,h=>by
  have:=h 0 0 (by decide) (by decide);rcases dep0 hs with rfl|rfl<;>rcases dep0 ht with rfl|rfl
  ·rfl
  ·exact absurd this (by decide)
  ·exact absurd this (by decide)
  ·rfl
 |k+1,s,t,rs,rt,hs,ht,h=>by
  refine xF7 rs rt λq hq=>qZ6 k (qT0 rs) (qT0 rt) (qN7 hq s hs) (qN7 hq t ht) λi j hi hj=>?_;have hp:0<2^k:=YY (by decide);have e2:2^(k+1)=2^k*2:=Yh ..;have hh:=h (2^k*(q/2)+i) (2^k*(q%2)+j) (by
   have:2^k*(q/2)<=2^k*1:=WW _ (by lia);lia) (by
   have:2^k*(q%2)<=2^k*1:=WW _ (by lia);lia)
  have eq:∀u:Tr,qk2 (k+1) u (2^k*(q/2)+i) (2^k*(q%2)+j)=qk2 k (qr q u) i j:=λu=>by
   show qk2 k (qr (2*((2^k*(q/2)+i)/2^k%2)+(2^k*(q%2)+j)/2^k%2) u) _ _=_;rw[Wj hp,Wj hp,Yx hi,Yx hj,qH9];congr 2;lia
  rw[eq,eq] at hh;exact hh
theorem h2:∀d,d<4->d/2<=1:=λd h=>by lia
theorem m2:∀d,d<4->d%2<=1:=λd h=>by lia
abbrev cov (i j:Nat) (b:Row):Bool:=hasB i j 1 b
theorem xi0 {i j u v s:Nat}{b:Row}(hs:0<s) (hi:i/s=u) (hj:j/s=v) (h:cov i j b=true):qf4 (u*s) (v*s) s b=true:=by
 have h:=Zq h;have a1:u*s<=i:=by rw[<- hi];exact Wa i s
 have a2:v*s<=j:=by rw[<- hj];exact Wa j s
 have a3:i<u*s+s:=by rw[<- hi];have:=XJ i s;have:=Y8 i hs;rw[Yn s] at *;lia
 have a4:j<v*s+s:=by rw[<- hj];have:=XJ j s;have:=Y8 j hs;rw[Yn s] at *;lia
 exact Zj (by lia)
theorem xi1 {boxes:List Row}{i j u v s:Nat}(hs:0<s) (hi:i/s=u) (hj:j/s=v):(met boxes (u*s) (v*s) s).any (cov i j)=boxes.any (cov i j):=by
 unfold met;rw[List.any_filter,YI,Yb,Yb];constructor
 ·rintro⟨b,hb,h⟩;exact⟨b,hb,(Ye.mp h).2⟩
 ·rintro⟨b,hb,h⟩;exact⟨b,hb,Ye.mpr ⟨xi0 hs hi hj h,h⟩⟩
theorem xz8 {i j u v s:Nat}{b:Row}(hs:0<s) (hi:i/s=u) (hj:j/s=v) (h:hasB (u*s) (v*s) s b=true):cov i j b=true:=by
 have h:=Zq h;have a1:u*s<=i:=by rw[<- hi];exact Wa i s
 have a2:v*s<=j:=by rw[<- hj];exact Wa j s
 have a3:i<u*s+s:=by rw[<- hi];have:=XJ i s;have:=Y8 i hs;rw[Yn s] at *;lia
 have a4:j<v*s+s:=by rw[<- hj];have:=XJ j s;have:=Y8 j hs;rw[Yn s] at *;lia
 exact Zj (by lia)
theorem xi2:∀(k:Nat) (boxes:List Row) (u v i j:Nat),i/2^k=u->j/2^k=v->qk2 k (bt k boxes (u*2^k) (v*2^k)) i j=boxes.any (cov i j):=by
 intro k
 induction k with
 |zero=>
  intro boxes u v i j hi hj;rw[<- xi1 (s:=2^0) (by decide) hi hj];have eu:u*2^0=i:=by rw[<- hi];simp
  have ev:v*2^0=j:=by rw[<- hj];simp
  rw[eu,ev];show decide (bt 0 boxes i j=.o)=_;unfold bt;show decide ((if met boxes i j 1=[] then Tr.z else if (met boxes i j 1).any (hasB i j 1) then Tr.o else Tr.z)=Tr.o)=(met boxes i j 1).any (cov i j);split
  ·rename_i h;rw[h];rfl
  ·split
   ·rename_i h;rw[h];rfl
   ·rename_i h;rw[show (met boxes i j 1).any (cov i j)=false by simpa using h];rfl
 |succ k ih=>
  intro boxes u v i j hi hj;have hs:0<2^(k+1):=YY (by decide);have hk:0<2^k:=YY (by decide);rw[<- xi1 hs hi hj];unfold bt;split
  ·rename_i h;rw[h,xh5];rfl
  ·split
   ·rename_i h;rw[xh4];obtain⟨b,hb,kB⟩:=Yb.mp h;exact (Yb.mpr ⟨b,hb,xz8 hs hi hj kB⟩).symm
   ·have e2:2^(k+1)=2*2^k:=by rw[Yh,Yn]
    have di:i/2^k=2*u+i/2^k%2:=by
     have:i/2^k/2=u:=by rw[Wr,Yn,<- e2];exact hi
     lia
    have dj:j/2^k=2*v+j/2^k%2:=by
     have:j/2^k/2=v:=by rw[Wr,Yn,<- e2];exact hj
     lia
    generalize met boxes (u*2^(k+1)) (v*2^(k+1)) (2^(k+1))=B;show qk2 k (qr (2*(i/2^k%2)+j/2^k%2) (mk _ _ _ _)) i j=_;rw[xe3 (by lia)];have eu:∀x:Nat,x*2^(k+1)=2*x*2^k:=λx=>by rw[e2,Ve,<- Yc]
    have eu1:∀x:Nat,2*x*2^k+2^k=(2*x+1)*2^k:=λx=>(Yy (2*x) (2^k)).symm;rw[eu,eu,eu1,eu1];have vW:i/2^k%2=0\/i/2^k%2=1:=by lia
    have vV:j/2^k%2=0\/j/2^k%2=1:=by lia
    rcases vW with a|a<;>rcases vV with b|b<;>rw[a,b]<;>rw[a] at di<;>rw[b] at dj
    ·exact ih B (2*u) (2*v) i j (by lia) (by lia)
    ·exact ih B (2*u) (2*v+1) i j (by lia) (by lia)
    ·exact ih B (2*u+1) (2*v) i j (by lia) (by lia)
    ·exact ih B (2*u+1) (2*v+1) i j (by lia) (by lia)
theorem qP2 {f:Nat->Nat}(hf:∀d,d<4->f d<=1):∀(ds:List Nat) (n:Nat),(∀d∈ds,d<4)->ds.length<=n->cof f n ds+2^(n-ds.length)<=2^n
 |[],n,_,_=>by
  have:cof f n []=0:=by cases n<;>rfl
  rw[this];simp
 |d::ds,0,_,h=>absurd h (by simp)
 |d::ds,n+1,hd,h=>by
  have ih:=qP2 hf ds n (λx hx=>hd x (Ze _ hx)) (by simpa using h);show 2^n*f d+cof f n ds+2^(n+1-(ds.length+1))<=2^(n+1);have:2^n*f d<=2^n*1:=WW _ (hf d (hd d Zh));rw[WB,Yh];lia
theorem qZ7:∀(ds:List Nat) (k:Nat) (t:Tr) (i j:Nat),(∀d∈ds,d<4)->i<2^k->j<2^k->qk2 k (subT t ds) i j=qk2 (k+ds.length) t (cof (· / 2) (k+ds.length) ds+i) (cof (·%2) (k+ds.length) ds+j)
 |[],k,t,i,j,_,_,_=>by
  have:∀f:Nat->Nat,cof f (k+([]:List Nat).length) []=0:=λf=>by cases (k+([]:List Nat).length)<;>rfl
  rw[this,this,X8,X8]
  rfl
 |d::ds,k,t,i,j,hd,hi,hj=>by
  have hd':∀x∈ds,x<4:=λx hx=>hd x (Ze _ hx);have jN:=hd d Zh;have ih:=qZ7 ds k (qr d t) i j hd' hi hj;show qk2 k (subT (qr d t) ds) i j=qk2 (k+ds.length+1) t (2^(k+ds.length)*(d/2)+cof (· / 2) (k+ds.length) ds+i) (2^(k+ds.length)*(d%2)+cof (·%2) (k+ds.length) ds+j);rw[ih];have l1:=qP2 h2 ds (k+ds.length) hd' (by lia);have l2:=qP2 m2 ds (k+ds.length) hd' (by lia);rw[show k+ds.length-ds.length=k by lia] at l1 l2;have hp:0<2^(k+ds.length):=YY (by decide);rw[Nat.add_assoc (2^(k+ds.length)*(d/2)),Nat.add_assoc (2^(k+ds.length)*(d%2))];show _=qk2 (k+ds.length) (qr (2*((2^(k+ds.length)*(d/2)+(cof (· / 2) (k+ds.length) ds+i))/2^(k+ds.length)%2)+(2^(k+ds.length)*(d%2)+(cof (·%2) (k+ds.length) ds+j))/2^(k+ds.length)%2) t) _ _;have b1:cof (· / 2) (k+ds.length) ds+i<2^(k+ds.length):=by lia
  have b2:cof (·%2) (k+ds.length) ds+j<2^(k+ds.length):=by lia
  rw[Wj hp,Wj hp,Yx b1,Yx b2,qH9];congr 2;lia
end Qf
namespace Pr
open PySem L2 Qf
structure Grow (p D:Addr) (H:Hp) (ok:Row->Prop) (i:Nat) (xs:List V) (H2:Hp):Prop where
 but:But p H H2
 pot:PurseAt H2 p
 at_:H2 D=some (.lst xs)
 len:xs.length<=i
 its:∃(cs:List Addr) (bs:List Row),xs=cs.map V.ref/\cs.length=bs.length/\(∀b∈bs,ok b)/\∀(j:Nat) c b,cs[j]?=some c->bs[j]?=some b->H2 c=some (.tup (vN b))
theorem Grow.start {p D:Addr}{H:Hp}{ok:Row->Prop}(hp:PurseAt H p) (hD:H D=none):Grow p D H ok 0 [] (upd H D (.lst [])):=
 ⟨But.of (qb3 hD),hp.same (qb3 hD),qa1,Zd _,[],[],rfl,rfl,λb hb=>(nomatch hb),λj c b e=>by simp at e⟩
theorem Grow.kept {p D:Addr}{H H2 H3:Hp}{ok:Row->Prop}{i:Nat}{xs:List V}(g:Grow p D H ok i xs H2) (npD:p≠D) (b:But p H2 H3) (hp:PurseAt H3 p):Grow p D H ok (i+1) xs H3:=by
 obtain⟨b2,p2,a2,l2,cs,bs,e,hl,hok,hr⟩:=g;refine⟨b2.trans b,hp,b _ _ a2 (Z0 npD),by lia,cs,bs,e,hl,hok,λj c r e1 e2=>?_⟩;have:=hr j c r e1 e2;refine b _ _ this λz=>?_;obtain⟨x,y,e3,_⟩:=p2;rw[z,e3] at this;cases this
theorem Grow.more {p D t:Addr}{H H2 H3:Hp}{ok:Row->Prop}{i:Nat}{xs:List V}{r:Row}(g:Grow p D H ok i xs H2) (jX:H D=none) (npD:p≠D) (b:But p H2 H3) (hp:PurseAt H3 p) (ht:H3 t=some (.tup (vN r))) (hr:ok r) :
  H3 D=some (.lst xs)/\Grow p D H ok (i+1) (xs++[.ref t]) (upd H3 D (.lst (xs++[.ref t]))):=by
 have k:=g.kept npD b hp;obtain⟨b2,p2,a2,l2,cs,bs,rfl,hl,hok,hrr⟩:=k;have l1:=g.len;refine⟨a2,λc o e n=>?_,?_,qa1,by rw[Zu];show (cs.map V.ref).length+1<=_;lia,cs++[t],bs++[r],qG3 cs t,by rw[Zu,Zu,hl];rfl,?_,?_⟩
 ·rw[qa7 (qa4 e jX)];exact b2 c o e n
 ·obtain⟨x,y,e,rr⟩:=hp;exact⟨x,y,by rw[qa7 npD];exact e,rr⟩
 ·intro z hz;rcases Z1.mp hz with hz|hz
  ·exact hok z hz
  ·have:z=r:=by simpa using hz
   rw[this];exact hr
 ·intro j c q e1 e2;have nD:∀{c:Addr}{u:List V},H3 c=some (.tup u)->c≠D:=λ{c u} e z=>by rw[z,a2] at e;cases e
  by_cases hj:j<cs.length
  ·rw[Zo hj] at e1;rw[Zo (by lia)] at e2;have:=hrr j c q e1 e2;rw[qa7 (nD this)];exact this
  ·rw[Zv (by lia)] at e1;rw[Zv (by lia)] at e2;have w6:j-cs.length=0:=by
    have:=(gS_ e1).1;simp at this;lia
   rw[w6] at e1;rw[<- hl,w6] at e2;have ec:c=t:=by simpa using e1.symm
   have eq:q=r:=by simpa using e2.symm
   rw[ec,eq,qa7 (nD ht)];exact ht
theorem Grow.rows {p D:Addr}{H H2:Hp}{ok:Row->Prop}{i:Nat}{xs:List V}(g:Grow p D H ok i xs H2):∃bs:List Row,RowsL H2 D bs/\(∀b∈bs,ok b)/\bs.length<=i:=by
 obtain⟨_,_,a2,l2,cs,bs,rfl,hl,hok,hr⟩:=g;exact⟨bs,⟨cs,a2,hl,hr⟩,hok,by rw[Zi] at l2;lia⟩
section
variable {P:Program}{w:World}{K:PySem.W.Frag}{mg:Str->Option Value}{base:Heap}
abbrev xu1:List Str:=["_law_pot_here", "_law_n", "_law_side"]
theorem scCells:FnScope xu1 ["_law_pot_here", "_law_n"] (qa3 qM5):=qd0
def xi3:Sp:=λvs H Q _=>∃(p:Addr) (n:Nat),vs=[.ref p,.int (n:Nat)]/\PurseAt H p/\n<4 /\
 ∀(H':Hp) (l:Addr) (bs:List Row),But p H H'->PurseAt H' p->H l=none->RowsL H' l bs->(∀b∈bs,q36 n b)->bs.length<=64->Q (.ref l) H'
theorem xp4 {f fD:Addr}{fd fdD:FuncData}(F:Fun K "_law_cells" "_law_cells" qM5 f fd) (B:Blt mg) (hD:mg "_law_digit" = some (.ref fD)) (FD:Fun K "_law_digit" "_law_digit" qk6 fD fdD) (bD:Binds K fdD ["_law_pot_here", "_law_many"] []) :
  FnOk P w K mg base CX0 2 f fd ["_law_pot_here", "_law_n"] xi3:=by
 have GD:FnOk P w K mg base CX0 1 fD fdD ["_law_pot_here", "_law_many"] qi2:=qh4 FD;refine F.ok scCells (λvs H Q E h=>?_) (λcdv A outer s H vs Q E hr h=>?_)
 ·obtain⟨p,n,rfl,_⟩:=h
  rfl
 ·obtain⟨p,n,rfl,hp,hn,q⟩:=h;refine seqE ⟨_,⟨psN 2 scCells.nd (qb0 qn5 qa5 (pv 1))⟩,?_⟩;refine qe5 ⟨_,⟨qa9 (qL0 xu1 (qa3 qM5) rfl rfl rfl scCells.nd (qh7 (by rfl) B.range (qa0 (qb0 qJ1 (pv 2) (pv 2)) qa2))
   (λcl C fp s₀ H₀=>qb2 qw5 (pcN GD hr hD FD.kp bD (qa0 (pv 1) (qa0 qa5 qa2))) qa5 (qb4 _))
   (λcl C fp s₀ H₀=>PEb.go ⟨qg0 (Ars2.go (.cons ⟨qb0 qr8 (pv 0) (pv 3)⟩ (.cons ⟨qb0 qt3 (pv 0) (pv 3)⟩ (.cons ⟨qa5⟩ (.cons ⟨qa5⟩ .nil rfl) rfl) rfl) rfl))⟩))⟩,?_⟩
  obtain⟨p1,p2⟩:=qm8 (show n<=12 by lia);have p8:2^n<=8:=by
   have:=WK (n:=2) (by decide) (show n<=3 by lia);simpa using this
  have es:=qs9 n;refine⟨_,rfl,_,_,rfl,rfl,⟨by lia,by lia,by decide⟩,?_⟩;have hsz:(2^n*2^n:Nat)<=64:=by
   have:=Nat.mul_le_mul p8 p8;lia
  have esq:((1:Int)*2^((n:Int)).toNat)*(1*2^((n:Int)).toNat)=((2^n*2^n:Nat):Int):=by rw[es];push_cast;rfl
  have etn:(((1:Int)*2^((n:Int)).toNat)*(1*2^((n:Int)).toNat)).toNat=2^n*2^n:=by rw[esq,Z5]
  refine⟨_,rfl,_,rfl,_,_,rfl,rfl,.inl ⟨by lia,by lia⟩,_,rfl,by lia,by lia,λD jX=>?_⟩;have npD:p≠D:=by obtain⟨a,b,e,_⟩:=hp;exact qa4 e jX
  refine xd6 (Grow p D H (q36 n)) (by rw[etn];exact qb5 (by lia)) (Grow.start hp jX) (λi xs H2 g=>⟨g.at_,g.len⟩) ?_ ?_
  ·intro i xs H2 hi g os ho Q1 Q2 q1 q2;rw[etn] at hi
   match os,ho with
   |[o1],_=>
    refine⟨_,rfl,p,2,rfl,g.pot,by decide,by decide,λd H3 hd b3 kC=>⟨rfl,_,rfl,?_⟩⟩;refine ite2 (λ_=>?_) (λ_=>q1 H3 (g.kept npD b3 kC));refine⟨_,rfl,_,rfl,_,_,rfl,rfl,⟨by lia,by lia⟩,_,rfl,_,rfl,_,_,rfl,rfl,(by show (0:Int)<1*2^((n:Int)).toNat;lia),(by show 4<=sizeLine;decide),λt ht=>?_⟩;have wC:q36 n [i/2^n,i%2^n,1,1]:=by
     refine⟨_,_,_,_,rfl,Zd _,Zd _,?_,?_⟩
     ·exact (Nat.div_lt_iff_lt_mul p2).mpr hi
     ·exact Y8 _ p2
    have e4:HO.tup [V.int ((0+(i:Int))/(1*2^((n:Int)).toNat)),V.int ((0+(i:Int))%(1*2^((n:Int)).toNat)),V.int 1,V.int 1]=HO.tup (vN [i/2^n,i%2^n,1,1]):=by
     rw[es,WZ];show HO.tup [V.int ((i:Int)/((2^n:Nat):Int)),V.int ((i:Int)%((2^n:Nat):Int)),V.int 1,V.int 1]=HO.tup [V.int ((i/2^n:Nat):Int),V.int ((i%2^n:Nat):Int),V.int 1,V.int 1];rw[Int.natCast_ediv,Int.natCast_emod]
    show Q2 (.ref t) (upd H3 t (HO.tup [V.int ((0+(i:Int))/(1*2^((n:Int)).toNat)),V.int ((0+(i:Int))%(1*2^((n:Int)).toNat)),V.int 1,V.int 1]));rw[e4];have m:=g.more (t:=t) (r:=[i/2^n,i%2^n,1,1]) jX npD (b3.trans (But.of (qb3 ht))) (kC.same (qb3 ht)) qa1 wC;exact q2 _ _ m.1 m.2
  ·intro xs H2 g;obtain⟨bs,h1,h2,h3⟩:=g.rows;exact q H2 D bs g.but g.pot jX h1 h2 (by rw[etn] at h3;lia)
abbrev xu2:List Str:=["_law_pot_here", "_law_n"]
theorem scBoxes:FnScope xu2 ["_law_pot_here", "_law_n"] (qa3 qM6):=qd0
def qT8:Sp:=λvs H Q _=>∃(p:Addr) (n:Nat),vs=[.ref p,.int (n:Nat)]/\PurseAt H p/\n<=12 /\
 ∀(H':Hp) (l:Addr) (bs:List Row),But p H H'->PurseAt H' p->H l=none->RowsL H' l bs->qS8 n bs->Q (.ref l) H'
theorem xp5 {f fD fC fB:Addr}{fd fdD fdC fdB:FuncData}(F:Fun K "_law_boxes" "_law_boxes" qM6 f fd) (B:Blt mg) (hD:mg "_law_digit" = some (.ref fD)) (FD:Fun K "_law_digit" "_law_digit" qk6 fD fdD) (bD:Binds K fdD ["_law_pot_here", "_law_many"] [])
  (hC:mg "_law_cells" = some (.ref fC)) (FC:Fun K "_law_cells" "_law_cells" qM5 fC fdC) (bC:Binds K fdC ["_law_pot_here", "_law_n"] [])
  (hB:mg "_law_box" = some (.ref fB)) (FB:Fun K "_law_box" "_law_box" lBox fB fdB) (bB:Binds K fdB ["_law_pot_here", "_law_n", "_law_most"] []) :
  FnOk P w K mg base CX0 3 f fd ["_law_pot_here", "_law_n"] qT8:=by
 have GD:FnOk P w K mg base CX0 1 fD fdD ["_law_pot_here", "_law_many"] qi2:=qh4 FD;have GC:FnOk P w K mg base CX0 2 fC fdC ["_law_pot_here", "_law_n"] xi3:=xp4 FC B hD FD bD;have GB:FnOk P w K mg base CX0 2 fB fdB ["_law_pot_here", "_law_n", "_law_most"] xy0:=xE5 FB B hD FD bD;refine F.ok scBoxes (λvs H Q E h=>?_) (λcdv A outer s H vs Q E hr h=>?_)
 ·obtain⟨p,n,rfl,_⟩:=h
  rfl
 ·obtain⟨p,n,rfl,hp,hn,q⟩:=h;have jD:Room 1 _:=hr.mono (by decide);refine seqE ⟨_,⟨qc9 (PW.pt (xq4 (qb2 qn8 (pv 1) qa5 (qb4 _)) (q57 (qb2 qw5 (pcN GD jD hD FD.kp bD (qa0 (pv 0) (qa0 qa5 qa2))) qa5 (qb4 _)))))
   (qa8 (qa9 (pcN GC hr hC FC.kp bC (qa0 (pv 0) (qa0 (pv 1) qa2))))) qb1⟩,?_⟩
  refine qe5 ⟨_,⟨qa9 (qg6 xu2 (qa3 qM6) rfl rfl rfl scBoxes.nd (qh7 (by rfl) B.range (qa0 (pcN GD jD hD FD.kp bD (qa0 (pv 0) (qa0 qa5 qa2))) qa2))
   (λcl C fp s₀ H₀=>pcN GB hr hB FB.kp bB (qa0 (pv 1) (qa0 (pv 2) (qa0 qa5 qa2)))))⟩,?_⟩
  have rest:∀H1,But p H H1->PurseAt H1 p->xl2 (xB5 (qn3 (xk7 qi2 [] E0 (qn3 (tVar 0) (qn3 (tC (.int 6)) tNil))) tNil)) (xk7 xy0 [] E0 (qn3 (tVar 1) (qn3 (tVar 2) (qn3 (tC (.int 9)) tNil)))) [some (.ref p),some (.int (n:Nat))] H1 Q:=λH1 b1 jG=>by
   refine⟨_,rfl,p,6,rfl,jG,by decide,by decide,λd H2 hd b2 jR=>⟨_,rfl,by lia,by lia,λD jX=>?_⟩⟩;have npD:p≠D:=by obtain⟨a,b,e,_⟩:=jR;exact qa4 e jX
   have hDH:H D=none:=by
    cases e:H D with
    |none=>rfl
    |some o=>rw[(b1.trans b2) _ _ e (Z0 npD)] at jX;cases jX
   refine qY0 (Grow p D H2 (λb=>q36 n b/\xx9 b)) (by rw[Z5];exact qb5 (by lia)) (Grow.start jR jX) (λi xs H2 g=>⟨g.at_,g.len⟩) ?_ ?_
   ·intro i xs H3 hi g Q2 q2;refine⟨_,rfl,_,rfl,p,n,rfl,g.pot,hn,λH4 t b b4 kG ht h1 h2=>?_⟩;have m:=g.more (t:=t) (r:=b) jX npD b4 kG ht ⟨h1,h2⟩;exact q2 _ _ m.1 m.2
   ·intro xs H3 g;obtain⟨bs,h1,h2,h3⟩:=g.rows;rw[Z5] at h3;exact q H3 D bs ((b1.trans b2).trans g.but) g.pot hDH h1 ⟨λb hb=>(h2 b hb).1,.inr ⟨by lia,λb hb=>(h2 b hb).2⟩⟩
  refine⟨_,rfl,_,_,rfl,rfl,_,rfl,?_⟩;refine ite2 (λhc=>?_) (λhc=>?_)
  ·have n4:n<4:=by have:=Zq hc;lia
   refine⟨_,rfl,p,2,rfl,hp,by decide,by decide,λd H1 hd b1 jG=>⟨rfl,_,rfl,?_⟩⟩;refine ite2 (λ_=>?_) (λ_=>rest H1 b1 jG);refine⟨_,rfl,_,rfl,p,n,rfl,jG,n4,λH2 l bs b2 jR hl hR hb j6=>q H2 l bs (b1.trans b2) jR ?_ hR ⟨hb,.inl ⟨n4,j6⟩⟩⟩;cases e:H l with
   |none=>rfl
   |some o=>
    have nlp:l≠p:=by obtain⟨a,b,e2,_⟩:=jG;exact (qa4 e2 hl).symm
    rw[b1 _ _ e nlp] at hl;cases hl
  ·exact iteF (rest H (But.refl p H) hp)
end
end Pr
namespace Qf
open Tr
theorem qZ8 {m:Row->Bool}:∀(bs:List Nat) (rs:List Row),bs.length=rs.length ->
  ((List.range bs.length).filter (λi=>m (rs.getD i []))).map (λi=>bs.getD i 0)=((bs.zip rs).filter (λq=>m q.2)).map Prod.fst
 |[],[],_=>rfl
 |b::bs,r::rs,h=>by
  have ih:=qZ8 (m:=m) bs rs (by simpa using h);rw[Zy,List.range_succ_eq_map,Y7,List.zip_cons_cons,Y7,List.filter_map];have e1:((λi=>m ((r::rs).getD i []))∘Nat.succ)=λi=>m (rs.getD i []):=by funext i;rfl
  have e2:((λi=>(b::bs).getD i 0)∘Nat.succ)=λi=>bs.getD i 0:=by funext i;rfl
  rw[e1];show List.map _ (if m r=true then _ else _)=List.map _ (if m r=true then _ else _);split
  ·rw[Zz,Y5,e2,ih,Zz];rfl
  ·rw[Y5,e2,ih]
theorem qI0 {m:Row->Bool}:∀(bs:List Nat) (rs:List Row),bs.length=rs.length->((bs.zip rs).filter (λq=>m q.2)).map Prod.snd=rs.filter m
 |[],[],_=>rfl
 |b::bs,r::rs,h=>by
  have ih:=qI0 (m:=m) bs rs (by simpa using h);rw[List.zip_cons_cons,Y7,Y7];show List.map _ (if m r=true then _ else _)=_;split
  ·rw[Zz,ih]
  ·exact ih
end Qf
namespace Pr
open PySem L2 Qf
theorem RowsL.filter {H H':Hp}{p D:Addr}{rs:List Row}{bs:List Addr}(m:Row->Bool) (hl:bs.length=rs.length) (hr:∀(i:Nat) b r,bs[i]?=some b->rs[i]?=some r->H b=some (.tup (vN r))) (s:Same H H')
  (hD:H' D=some (.lst (((List.range bs.length).filter (λi=>m (rs.getD i []))).map (λi=>V.ref (bs.getD i 0))))):RowsL H' D (rs.filter m):=by
 have e:((List.range bs.length).filter (λi=>m (rs.getD i []))).map (λi=>V.ref (bs.getD i 0))=(((bs.zip rs).filter (λq=>m q.2)).map Prod.fst).map V.ref:=by
  rw[<- qZ8 bs rs hl,Y5];rfl
 rw[e] at hD;refine⟨_,hD,by rw[<- qI0 bs rs hl,Zi,Zi],λi b r e1 e2=>?_⟩;rw[<- qI0 bs rs hl] at e2;rw[Zg] at e1 e2;obtain⟨q,hq,rfl⟩:=Zr.mp e1;rw[hq] at e2;have e3:q.2=r:=by simpa using e2
 have hm:=(Xh.mp (Zs hq)).1;obtain⟨j,hj,ej⟩:=ZJ.mp hm;rw[List.length_zip] at hj;have ez:(bs.zip rs)[j]?=some q:=by rw[Zb (by rw[List.length_zip];exact hj),ej]
 rw[List.getElem?_zip_eq_some] at ez;rw[<- e3];exact s _ _ (hr j q.1 q.2 ez.1 ez.2)
section
variable {P:Program}{w:World}{K:PySem.W.Frag}{mg:Str->Option Value}{base:Heap}
abbrev qn4:List Str:=["_law_box_here", "_law_row", "_law_column", "_law_side"]
theorem xz9:FnScope qn4 qn4 (qa3 qy5):=qd0
theorem xL7:FnScope qn4 qn4 (qa3 lHas):=qd0
def qA2 (m:Nat->Nat->Nat->Row->Bool):Sp:=λvs H Q _=>∃(b:Addr) (bx:Row) (r c s:Nat),vs=[.ref b,.int (r:Nat),.int (c:Nat),.int (s:Nat)]/\H b=some (.tup (vN bx))/\bx.length=4/\Q (.bl (m r c s bx)) H
theorem qZ9 {f:Addr}{fd:FuncData}(F:Fun K "_law_meets" "_law_meets" qy5 f fd):FnOk P w K mg base CX0 1 f fd qn4 (qA2 qf4):=by
 refine F.ok xz9 (λvs H Q E h=>?_) (λcdv A outer s H vs Q E hr h=>?_)
 ·obtain⟨b,bx,r,c,s,rfl,_⟩:=h
  rfl
 ·obtain⟨b,bx,r,c,s,rfl,hb,h4,q⟩:=h;obtain⟨x,y,h',w',rfl⟩:=ql8 h4;refine seqE ⟨_,⟨qc9 (qj6 (qb2 qr9 (qb0 qc4 (pv 1) (pv 3)) (pxN ix_tup (pv 0) qa5) (qb4 _))
   (qg7 (qb2 qr9 (qb0 qc4 (pxN ix_tup (pv 0) qa5) (pxN ix_tup (pv 0) qa5)) (pv 1) (qb4 _)))).pt (qa8 (qa9 qk8)) qb1⟩,?_⟩
  refine qe5 ⟨_,⟨qa9 (qi4 (qf7 qn8 (pv 2) (qb0 qc4 (pxN ix_tup (pv 0) qa5) (pxN ix_tup (pv 0) qa5)) (qb4 _)) (qj3 (qf7 qn8 (pxN ix_tup (pv 0) qa5) (qb0 qc4 (pv 2) (pv 3)) (qb4 _))))⟩,?_⟩;have em:qf4 r c s [x,y,h',w']=decide (x<r+s/\r<x+h'/\c<y+w'/\y<c+s):=rfl;rw[em] at q;refine⟨_,rfl,_,rfl,_,_,rfl,rfl,_,rfl,b,_,0,.int (x:Nat),rfl,rfl,SqT.of hb,rfl,_,_,rfl,rfl,_,rfl,?_⟩;refine ite2 (λhc=>?_) (λhc=>?_)
  ·have:=Zq hc;rw[Zp (by lia)] at q;exact iteT q
  ·have h1:=YL (YE.mpr hc);refine⟨_,rfl,b,_,0,.int (x:Nat),rfl,rfl,SqT.of hb,rfl,_,rfl,b,_,2,.int (h':Nat),rfl,rfl,SqT.of hb,rfl,_,_,rfl,rfl,_,rfl,_,_,rfl,rfl,_,rfl,?_⟩;refine ite2 (λhc=>?_) (λhc=>?_)
   ·have:=Zq hc;rw[Zp (by lia)] at q;exact q
   ·have h2:=YL (YE.mpr hc);refine⟨_,rfl,_,rfl,b,_,1,.int (y:Nat),rfl,rfl,SqT.of hb,rfl,_,rfl,b,_,3,.int (w':Nat),rfl,rfl,SqT.of hb,rfl,_,_,rfl,rfl,_,_,rfl,rfl,_,rfl,?_⟩;refine ite2 (λhc=>?_) (λhc=>?_)
    ·have h3:=Zq hc;refine⟨_,rfl,b,_,1,.int (y:Nat),rfl,rfl,SqT.of hb,rfl,_,rfl,_,rfl,_,_,rfl,rfl,_,_,rfl,rfl,?_⟩;have e:decide ((y:Int)<(c:Int)+(s:Int))=decide (x<r+s/\r<x+h'/\c<y+w'/\y<c+s):=by
      congr 1;exact propext ⟨λz=>⟨by lia,by lia,by lia,by lia⟩,λz=>by lia⟩
     show Q (.bl (decide ((y:Int)<(c:Int)+(s:Int)))) H;rw[e];exact q
    ·have h3:=YL (YE.mpr hc);rw[Zp (by lia)] at q;exact q
theorem xG3 {f:Addr}{fd:FuncData}(F:Fun K "_law_has" "_law_has" lHas f fd):FnOk P w K mg base CX0 1 f fd qn4 (qA2 hasB):=by
 refine F.ok xL7 (λvs H Q E h=>?_) (λcdv A outer s H vs Q E hr h=>?_)
 ·obtain⟨b,bx,r,c,s,rfl,_⟩:=h
  rfl
 ·obtain⟨b,bx,r,c,s,rfl,hb,h4,q⟩:=h;obtain⟨x,y,h',w',rfl⟩:=ql8 h4;refine seqE ⟨_,⟨qc9 (qj6 (qb2 qn8 (pv 1) (pxN ix_tup (pv 0) qa5) (qb4 _))
   (qg7 (qb2 qn8 (qb0 qc4 (pxN ix_tup (pv 0) qa5) (pxN ix_tup (pv 0) qa5)) (qb0 qc4 (pv 1) (pv 3)) (qb4 _)))).pt (qa8 (qa9 qk8)) qb1⟩,?_⟩
  refine qe5 ⟨_,⟨qa9 (qi4 (qf7 qr9 (pxN ix_tup (pv 0) qa5) (pv 2) (qb4 _)) (qj3 (qf7 qr9 (qb0 qc4 (pv 2) (pv 3)) (qb0 qc4 (pxN ix_tup (pv 0) qa5) (pxN ix_tup (pv 0) qa5)) (qb4 _))))⟩,?_⟩;have em:hasB r c s [x,y,h',w']=decide (x<=r/\r+s<=x+h'/\y<=c/\c+s<=y+w'):=rfl;rw[em] at q;refine⟨_,rfl,_,rfl,b,_,0,.int (x:Nat),rfl,rfl,SqT.of hb,rfl,_,_,rfl,rfl,_,rfl,?_⟩;refine ite2 (λhc=>?_) (λhc=>?_)
  ·have:=Zq hc;rw[Zp (by lia)] at q;exact iteT q
  ·have h1:=YL (YE.mpr hc);refine⟨_,rfl,b,_,0,.int (x:Nat),rfl,rfl,SqT.of hb,rfl,_,rfl,b,_,2,.int (h':Nat),rfl,rfl,SqT.of hb,rfl,_,_,rfl,rfl,_,rfl,_,rfl,_,_,rfl,rfl,_,_,rfl,rfl,_,rfl,?_⟩;refine ite2 (λhc=>?_) (λhc=>?_)
   ·have:=Zq hc;rw[Zp (by lia)] at q;exact q
   ·have h2:=YL (YE.mpr hc);refine⟨_,rfl,b,_,1,.int (y:Nat),rfl,rfl,SqT.of hb,rfl,_,rfl,_,_,rfl,rfl,_,rfl,?_⟩;refine ite2 (λhc=>?_) (λhc=>?_)
    ·have h3:=Zq hc;refine⟨_,rfl,_,rfl,_,_,rfl,rfl,_,rfl,b,_,1,.int (y:Nat),rfl,rfl,SqT.of hb,rfl,_,rfl,b,_,3,.int (w':Nat),rfl,rfl,SqT.of hb,rfl,_,_,rfl,rfl,_,_,rfl,rfl,?_⟩;have e:decide ((c:Int)+(s:Int)<=(y:Int)+(w':Int))=decide (x<=r/\r+s<=x+h'/\y<=c/\c+s<=y+w'):=by
      congr 1;exact propext ⟨λz=>⟨by lia,by lia,by lia,by lia⟩,λz=>by lia⟩
     show Q (.bl (decide ((c:Int)+(s:Int)<=(y:Int)+(w':Int)))) H;rw[e];exact q
    ·have h3:=YL (YE.mpr hc);rw[Zp (by lia)] at q;exact q
end
end Pr
namespace Qf
open Tr
def qt (k:Nat) (m:List Row) (r c i:Nat):Tr:=bt k m (r+2^k*(i/2)) (c+2^k*(i%2))
def qL (k:Nat) (m:List Row) (r c:Nat) (L:List Tr):Nat->List Tr
 |0=>L
 |i+1=>post (qt k m r c i) (qL k m r c L i)
theorem qP3 {k:Nat}{m:List Row}{r c:Nat}{L:List Tr}(h:Ord L):∀i,Ord (qL k m r c L i)
 |0=>h
 |i+1=>(post_ord _ _ (qP3 h i)).1
theorem q48 {k:Nat}{m:List Row}{r c:Nat}{L:List Tr}(h:Ord L){j:Nat}:∀i,j<i->In (qL k m r c L i) (qt k m r c j)
 |i+1,hj=>by
  by_cases e:j=i
  ·rw[e];exact (post_ord _ _ (qP3 h i)).2
  ·exact (q48 h i (by lia)).post _
theorem xA0 {k:Nat}{m:List Row}{r c:Nat}{L:List Tr}(h:Ord L){i:Nat}{t:Tr}(ht:In (qL k m r c L i) t):name (qL k m r c L (i+1)) t=name (qL k m r c L i) t:=by
 obtain⟨s,e⟩:=post_ext (qt k m r c i) (qL k m r c L i);show name (post _ _) t=_;rw[e];exact name_app ht (qP3 h i)
theorem xi4 {k:Nat}{m:List Row}{r c:Nat}{L:List Tr}:∀i,(qL k m r c L i).length<=L.length+i*sz k
 |0=>by show L.length<=_;lia
 |i+1=>by
  have h1:=xi4 (k:=k) (m:=m) (r:=r) (c:=c) (L:=L) i;have h2:=qj2 (qt k m r c i) (qL k m r c L i);have h3:=q38 k m (r+2^k*(i/2)) (c+2^k*(i%2));show (post _ _).length<=_;rw[Yy];unfold qt at h2;unfold qt;lia
def names (k:Nat) (m:List Row) (r c:Nat) (L:List Tr) (i:Nat):List Nat:=(List.range i).map λj=>name (qL k m r c L i) (qt k m r c j)
theorem q49 {k:Nat}{m:List Row}{r c:Nat}{L:List Tr}(h:Ord L) (i:Nat):names k m r c L (i+1)=names k m r c L i++[name (post (qt k m r c i) (qL k m r c L i)) (qt k m r c i)]:=by
 unfold names;rw[Xi,ZR];congr 1;exact YB λj hj=>xA0 h (q48 h i (ZW.mp hj))
theorem xL8 (k:Nat) (boxes:List Row) (r c:Nat) (h1:met boxes r c (2^(k+1))≠[]) (h2:(met boxes r c (2^(k+1))).any (hasB r c (2^(k+1)))=false) :
  bt (k+1) boxes r c=mk (qt k (met boxes r c (2^(k+1))) r c 0) (qt k (met boxes r c (2^(k+1))) r c 1) (qt k (met boxes r c (2^(k+1))) r c 2) (qt k (met boxes r c (2^(k+1))) r c 3):=by
 unfold bt;rw[Zm h1,Zm (by rw[h2];decide)];unfold qt;simp
theorem xA1 {boxes:List Row}{r c s:Nat}:(met boxes r c s).length<=boxes.length:=XR _ _
theorem xA2 {boxes:List Row}{r c:Nat}(h:met boxes r c 1≠[]):(met boxes r c 1).any (hasB r c 1)=true:=by
 obtain⟨b,hb⟩:=List.exists_mem_of_ne_nil _ h;refine Yb.mpr ⟨b,hb,?_⟩;have m:b.getD 0 0<r+1/\r<b.getD 0 0+b.getD 2 0/\c<b.getD 1 0+b.getD 3 0/\b.getD 1 0<c+1:=Zq (Xh.mp hb).2;exact Zj ⟨by lia,by lia,by lia,by lia⟩
theorem xG4:∀{k n:Nat},k<=n->sz k<=sz n
 |k,0,h=>by rw[show k=0 by lia];exact Zd _
 |k,n+1,h=>by
  by_cases e:k=n+1
  ·rw[e];exact Zd _
  ·have:=xG4 (show k<=n by lia);show _<=4*sz n+1;lia
end Qf
namespace L2
open PySem
theorem xi5 {H:Hp}{n:Nat}{te:TE}{σ:St}{Fin:Hp->Prop}{D:Addr}(Iv:Nat->List V->Hp->Prop) (hsz:n<sizeLine) (i0:Iv 0 [] (upd H D (.lst []))) (hD:∀i xs H2,Iv i xs H2->H2 D=some (.lst xs)/\xs.length<=i)
  (step:∀i xs H2,i<n->Iv i xs H2->∀Q2:VK,(∀v H3,H3 D=some (.lst xs)->Iv (i+1) (xs++[v]) (upd H3 D (.lst (xs++[v])))->Q2 v H3)->te (some (.int (0+(i:Int)))::σ) H2 Q2)
  (fin:∀xs H2,Iv n xs H2->Fin H2) :
  ∃W:Nat->Nat->List V->Hp->Prop,(∃m,W 0 m [] (upd H D (.lst []))) /\
   ∀i m xs H2,W i m xs H2->H2 D=some (.lst xs)/\xs.length<sizeLine/\(((Itr 0 n).stop i H2/\Fin H2)\/((Itr 0 n).go i H2/\∀y H3,(Itr 0 n).yld i H2 y H3->∀os:St,os.length=1 ->
    qg8 0 y (os++σ) H3 λσ4 H4=>qR7 σ4 H4 λb H5=>if b=true then te σ4 H5 λv H6=>H6 D=some (.lst xs)/\∃m',m'<m/\W (i+1) m' (xs++[v]) (upd H6 D (.lst (xs++[v]))) else ∃m',m'<m/\W (i+1) m' xs H5)):=by
 obtain⟨W,w0,w⟩:=qY0 (te:=te) (σ:=σ) Iv hsz i0 hD step fin;refine⟨W,w0,λi m xs H2 h=>?_⟩;obtain⟨h1,h2,h3⟩:=w i m xs H2 h;refine⟨h1,h2,h3.imp id λ⟨g,y⟩=>⟨g,λx H3 hx os ho=>?_⟩⟩
 match os,ho with
 |[o],_=>
  show (if (true:Bool)=true then te (some x::σ) H3 (λv H6=>H6 D=some (.lst xs)/\∃m',m'<m/\W (i+1) m' (xs++[v]) (upd H6 D (.lst (xs++[v])))) else ∃m',m'<m/\W (i+1) m' xs H3);rw[Zt rfl];exact y x H3 hx
end L2
namespace Qf
theorem xA3:∀{k:Nat}{boxes:List Row}{r c:Nat},met boxes r c (2^k)=[]->bt k boxes r c=.z
 |0,_,_,_,h=>Zt h
 |_+1,_,_,_,h=>Zt h
theorem xA4:∀{k:Nat}{boxes:List Row}{r c:Nat},met boxes r c (2^k)≠[]->(met boxes r c (2^k)).any (hasB r c (2^k))=true->bt k boxes r c=.o
 |0,_,_,_,h,g=>(Zm h).trans (Zt g)
 |_+1,_,_,_,h,g=>(Zm h).trans (Zt g)
end Qf
namespace Pr
open PySem L2 Qf
section
variable {P:Program}{w:World}{K:PySem.W.Frag}{mg:Str->Option Value}{base:Heap}
abbrev qP4:List Str:=["_law_rows", "_law_boxes_here", "_law_row", "_law_column", "_law_side"]
abbrev nNum:List Str:=["_law_rows", "_law_boxes_here", "_law_row", "_law_column", "_law_side", "_law_met", "_law_half", "_law_quarters"]
theorem scNum:FnScope nNum qP4 (qa3 ql6):=qd0
def xp6 (k:Nat):Sp:=λvs H Q _=>∃(e bp:Addr) (boxes:List Row) (r c:Nat) (L:List Tr),vs=[.ref e,.ref bp,.int (r:Nat),.int (c:Nat),.int ((2^k:Nat):Int)]/\RowsL H bp boxes/\(∀b∈boxes,b.length=4)/\boxes.length<=990/\bp≠e/\Tr.Ord L /\
 H e=some (.dT (tK (Tr.rowsOf L)))/\L.length+sz k<=6000000/\∀H',But e H H'->H' e=some (.dT (tK (Tr.rowsOf (Tr.post (bt k boxes r c) L))))->Q (.int (Tr.name (Tr.post (bt k boxes r c) L) (bt k boxes r c):Nat)) H'
theorem xi6 {f fM fH:Addr}{fd fdM fdH:FuncData}(F:Fun K "_law_number" "_law_number" ql6 f fd) (B:Blt mg) (hN:mg "_law_number" = some (.ref f)) (bN:Binds K fd qP4 [])
  (hM:mg "_law_meets" = some (.ref fM)) (FM:Fun K "_law_meets" "_law_meets" qy5 fM fdM) (bM:Binds K fdM qn4 [])
  (hH:mg "_law_has" = some (.ref fH)) (FH:Fun K "_law_has" "_law_has" lHas fH fdH) (bH:Binds K fdH qn4 []){m:Nat}(hk:m<=12){sp':Sp}(GI:FnOk P w K mg base CX0 (m+1) f fd qP4 sp') (kX:∀j,m=j+1->sp'=xp6 j):FnOk P w K mg base CX0 (m+2) f fd qP4 (xp6 m):=by
 have GM:FnOk P w K mg base CX0 1 fM fdM qn4 (qA2 qf4):=qZ9 FM;have GH:FnOk P w K mg base CX0 1 fH fdH qn4 (qA2 hasB):=xG3 FH;refine F.ok scNum (λvs H Q E h=>?_) (λcdv A outer s H vs Q E hr h=>?_)
 ·obtain⟨e,bp,boxes,r,c,L,rfl,_⟩:=h
  rfl
 ·obtain⟨e,bp,boxes,r,c,L,rfl,hB,h4,kK,wM,hO,he,hLs,q⟩:=h;have jD:Room 1 _:=hr.mono (by lia);have hu:A.units+3+1<cLine:=by
   have h2:A.units+3+16*(m+1)+200<cLine:=hr.un;lia
  refine seqE ⟨_,⟨psN 5 scNum.nd (qL0 nNum (qa3 ql6) rfl rfl rfl scNum.nd (qD6 (pv 1))
   (λcl C fp s₀ H₀=>qe3 (pcN GM jD hM FM.kp bM (qa0 (pv 0) (qa0 (pv 3) (qa0 (pv 4) (qa0 (pv 5) qa2)))))) (λcl C fp s₀ H₀=>pv 0))⟩,?_⟩
  refine seqE ⟨_,⟨qc9 (PW.pt (qj6 (qb2 (q90 hr) (pv 5) (qg1 qa2) (qb4 _)) (qg7 (qe3 (qa6 (qL4 rfl) (by rfl) B.any PyProof.Rows.boot_any (qa0 (qg6 nNum (qa3 ql6) rfl rfl rfl scNum.nd (qD6 (pv 5))
   (λcl C fp s₀ H₀=>pcN GH jD hH FH.kp bH (qa0 (pv 0) (qa0 (pv 3) (qa0 (pv 4) (qa0 (pv 5) qa2)))))) qa2))))))
   (qa8 (qa9 (qc1 q64 (by rfl) B.int Xd (qa0 (qf7 (qV2 hr) (pv 5) (qg1 qa2) (qb4 _)) qa2)))) qb1⟩,?_⟩
  refine seqE ⟨_,⟨psN 6 scNum.nd (qb0 qr8 (pv 4) qa5)⟩,?_⟩;refine seqE ⟨_,⟨qS2 (i0:=7) nNum (qa3 ql6) rfl rfl rfl scNum.nd rfl rfl (qh7 (by rfl) B.range (qa0 qa5 qa2)) (λcl C fp s₀ H₀=>PEb.go ⟨pcN GI hr hN F.kp bN (Ars2.go (.cons ⟨pv 1⟩ (.cons ⟨pv 6⟩
   (.cons ⟨qb0 qc4 (pv 3) (qb0 qJ1 (pv 7) (qb0 qr8 (pv 0) qa5))⟩ (.cons ⟨qb0 qc4 (pv 4) (qb0 qJ1 (pv 7) (qb0 qt3 (pv 0) qa5))⟩ (.cons ⟨pv 7⟩ .nil rfl) rfl) rfl) rfl) rfl))⟩)⟩,?_⟩
  refine seqE ⟨_,⟨qc9 (qb2 (xs2 hr) (pv 7) (PEb.go ⟨qg0 (Ars2.go (.cons ⟨qg1 (Ars2.go (.cons qj1 (.cons qj1 (.cons qj1 (.cons qj1 .nil rfl) rfl) rfl) rfl))⟩ (.cons ⟨qg1 (Ars2.go (.cons qj1 (.cons qj1 (.cons qj1 (.cons qj1 .nil rfl) rfl) rfl) rfl))⟩ .nil rfl) rfl))⟩) (by first|rfl|decide|with_unfolding_all rfl))
   (qa8 (qa9 (pxN ix_list (pv 7) qa5))) qb1⟩,?_⟩
  refine seqE ⟨_,⟨qc9 (qA7 (qp1 hu (qc1 (tupO K rfl) (by rfl) B.tuple ZH (qa0 (pv 7) qa2)) (pv 0)))
   (qa8 (qs3 hu (pv 0) (qc1 (tupO K rfl) (by rfl) B.tuple ZH (qa0 (pv 7) qa2)) (qb0 qc4 (qa6 qN1 (by rfl) B.len ZM (qa0 (pv 0) qa2)) qa5) (by rfl))) qb1⟩,?_⟩
  refine qe5 ⟨_,⟨qa9 (qs2 hu (pv 0) (qc1 (tupO K rfl) (by rfl) B.tuple ZH (qa0 (pv 7) qa2)) (λ_ _=>rfl))⟩,?_⟩;obtain⟨bs,hb,j6,jB⟩:=id hB;have jT:(bs.map V.ref).length=bs.length:=Zi ..;refine⟨_,rfl,bp,rfl,⟨_,SqL.of hb⟩,λD hD=>qs4 hD (λi=>qf4 r c (2^m) (boxes.getD i [])) (λi=>.ref (bs.getD i 0)) (qW4 (K:=K) hb) (by rw[jT];exact qb5 (by lia)) ?_ ?_⟩
  ·intro j x H2 hj hx s2 os ho Q1 Q2 q1 q2;rw[Zg] at hx;obtain⟨b,hbj,rfl⟩:=Zr.mp hx;have vV:j<boxes.length:=by rw[jT] at hj;lia
   have hg:boxes[j]?=some (boxes.getD j []):=by rw[ZG,Zb vV];rfl
   have eb:bs.getD j 0=b:=by rw[ZG,hbj];rfl
   rw[eb] at q2
   match os,ho with
   |[o1],_=>
    refine⟨_,rfl,_,rfl,_,rfl,_,rfl,b,boxes.getD j [],r,c,2^m,rfl,s2 _ _ (jB j b _ hbj hg),h4 _ (Zs hg),_,rfl,?_⟩;refine ite2 (λhc=>⟨_,rfl,q2 hc H2 (Same.refl _)⟩) (λhc=>q1 (YE.mpr hc) H2 (Same.refl _))
  ·intro H2 s2 kM;rw[jT] at kM;have hRm:RowsL H2 D (met boxes r c (2^m)):=RowsL.filter (p:=bp) (qf4 r c (2^m)) j6 jB s2 kM;have hml:(met boxes r c (2^m)).length<=990:=ZE xA1 kK;have wI:∀b∈met boxes r c (2^m),b.length=4:=λb hb=>h4 b (Xh.mp hb).1;have kE:=s2 _ _ he;have nDe:D≠e:=(qa4 he hD).symm;have etree:bt m boxes r c=bt m boxes r c:=rfl;refine⟨_,rfl,(by show 0<=sizeLine;decide),λl hl=>?_⟩;refine⟨_,_,qs8 (hRm.same (qb3 hl)),.lst qa1 .nil,qq7 _,rfl,qo4 _,_,rfl,?_⟩;rw[xd5];have S3:Same H (upd H2 l (.lst [])):=s2.trans (qb3 hl);have vZ:=hRm.same (qb3 (o:=.lst []) hl);have vF:=qc0 (u:=.lst []) kE hl;generalize upd H2 l (.lst [])=H3 at S3 vZ vF;cases hmt:met boxes r c (2^m) with
   |nil=>
    have hT:bt m boxes r c=.z:=xA3 hmt;rw[hT] at q;rw[hmt] at vZ;refine iteT (iteT ?_);refine⟨_,rfl,(by show 0<=sizeLine;decide),λl2 jP=>?_⟩;refine⟨_,_,qs8 (vZ.same (qb3 jP)),.lst qa1 .nil,qq7 _,rfl,qo4 _,.inr ⟨_,rfl,?_⟩⟩;exact q _ (But.of (S3.trans (qb3 jP))) (qc0 vF jP)
   |cons b0 ml=>
    have jE:met boxes r c (2^m)≠[]:=by rw[hmt];exact λz=>nomatch z
    rw[<- hmt];clear hmt;have hie:(met boxes r c (2^m)).isEmpty=false:=by
     cases hq:met boxes r c (2^m) with
     |nil=>exact absurd hq jE
     |cons _ _=>rfl
    rw[hie];refine iteF ?_;obtain⟨ms,hms,hmsl,hmrow⟩:=id vZ;have hml2:(ms.map V.ref).length=(met boxes r c (2^m)).length:=by rw[Zi,hmsl]
    refine⟨_,rfl,D,rfl,⟨_,SqL.of hms⟩,λD2 hDD=>qi0 hDD (λi y _=>y=.bl (hasB r c (2^m) ((met boxes r c (2^m)).getD i []))) (qW4 (K:=K) hms) (by rw[hml2];exact qb5 (by lia)) (λ_ _ _ _ _ _ h=>h) ?_ ?_⟩
    ·intro j x H4 hj hx s4 Q' hq;rw[Zg] at hx;obtain⟨b,hbj,rfl⟩:=Zr.mp hx;have vV:j<(met boxes r c (2^m)).length:=by rw[hml2] at hj;exact hj
     have hg:(met boxes r c (2^m))[j]?=some ((met boxes r c (2^m)).getD j []):=by rw[ZG,Zb vV];rfl
     exact⟨_,rfl,_,rfl,_,rfl,_,rfl,b,_,r,c,2^m,rfl,s4 _ _ (hmrow j b _ hbj hg),wI _ (Zs hg),hq _ _ (Same.refl _) rfl⟩
    ·intro ys H4 s4 jN kZ vG;have ey:ys=((met boxes r c (2^m)).map (hasB r c (2^m))).map V.bl:=by
      refine qi8 (by rw[kZ,hml2,Zi,Zi]) λj x hx=>?_;have vV:j<(met boxes r c (2^m)).length:=by
       have:=(gS_ hx).1;rw[kZ,hml2] at this;exact this
      rw[vG j x hx,Zg,Zg,Zb vV,ZG,Zb vV]
      rfl
     subst ey;refine⟨D2,_,rfl,jN,_,rfl,?_⟩;have eany:((met boxes r c (2^m)).map (hasB r c (2^m))).any id=(met boxes r c (2^m)).any (hasB r c (2^m)):=by rw[List.any_map];rfl
     rw[eany];have S4:=S3.trans s4;have hR4:=vZ.same s4;have kT:=s4 _ _ vF;cases hh:(met boxes r c (2^m)).any (hasB r c (2^m)) with
     |true=>
      have hT:bt m boxes r c=.o:=xA4 jE hh;rw[hT] at q;refine iteT ?_;refine⟨_,rfl,(by show 0<=sizeLine;decide),λl2 jP=>?_⟩;refine⟨_,_,qs8 (hR4.same (qb3 jP)),.lst qa1 .nil,qq7 _,rfl,qo4 _,.inr ⟨_,rfl,?_⟩⟩;rw[xd5,hie];exact q _ (But.of (S4.trans (qb3 jP))) (qc0 kT jP)
     |false=>
      obtain⟨k,rfl⟩:∃k,m=k+1:=by
       rcases m with _|k
       ·simp only[Nat.pow_zero] at jE hh;rw[xA2 jE] at hh;cases hh
       ·exact⟨k,rfl⟩
      cases kX k rfl;refine iteF ?_;have hT:=xL8 k boxes r c jE hh;obtain⟨p1,p2⟩:=qm8 (show k<=12 by lia);obtain⟨p3,p4⟩:=qm8 hk;have ehalf:(((2^(k+1):Nat):Int))/2=((2^k:Nat):Int):=by
       rw[Yh];lia
      clear hie hms hmsl hmrow hml2 jN kZ vG eany hRm vZ kM S3 s4 jT;generalize met boxes r c (2^(k+1))=m at hT hR4 hml wI jE hh;refine⟨_,rfl,_,_,rfl,rfl,⟨by decide,by decide⟩,?_⟩;refine⟨_,rfl,by decide,by decide,λD4 wN=>?_⟩;have nD4e:D4≠e:=(qa4 kT wN).symm;refine xi5 (λi xs H5=>But e H4 H5/\H5 D4=some (.lst xs)/\xs=vN (names k m r c L i)/\H5 e=some (.dT (tK (Tr.rowsOf (qL k m r c L i))))) (by decide) ⟨But.of (qb3 wN),qa1,rfl,qc0 kT wN⟩ (λi xs H5 h=>⟨h.2.1,by rw[h.2.2.1,qf3];simp[names]⟩) ?_ ?_
      ·rintro i xs H5 hi ⟨b5,vX,rfl,kR⟩ Q2 q2;have wW:i<4:=hi;have veq:[V.ref e,V.ref D,V.int ((r:Int)+((2^(k+1):Nat):Int)/2*((0+(i:Int))/2)),V.int ((c:Int)+((2^(k+1):Nat):Int)/2*((0+(i:Int))%2)),V.int (((2^(k+1):Nat):Int)/2)]=[V.ref e,V.ref D,V.int ((r+2^k*(i/2):Nat):Int),V.int ((c+2^k*(i%2):Nat):Int),V.int ((2^k:Nat):Int)]:=by
        rw[ehalf,WZ,Int.natCast_add,Int.natCast_mul,Int.natCast_ediv,Int.natCast_add,Int.natCast_mul,Int.natCast_emod]
        rfl
       refine⟨_,rfl,_,rfl,_,rfl,_,rfl,_,rfl,_,_,rfl,rfl,⟨by decide,by decide⟩,_,_,rfl,rfl,.inl ⟨by lia,by lia⟩,_,_,rfl,rfl,_,rfl,_,rfl,_,rfl,_,_,rfl,rfl,(by show (0:Int)<2;decide),_,_,rfl,rfl,.inl ⟨by lia,by lia⟩,_,_,rfl,rfl,_,rfl,
        e,D,m,r+2^k*(i/2),c+2^k*(i%2),qL k m r c L i,veq,hR4.but b5 nDe kT (λu z=>by cases z),wI,hml,nDe,qP3 hO i,kR,?_,λH6 b6 jO=>?_⟩
       ·have h1:=xi4 (k:=k) (m:=m) (r:=r) (c:=c) (L:=L) i;have h2:sz (k+1)=4*sz k+1:=rfl;have h3:i*sz k<=3*sz k:=Z6 _ (by lia);lia
       ·refine q2 _ _ (b6 _ _ vX nD4e) ⟨?_,qa1,?_,?_⟩
        ·intro b o z nb;rw[qa7 (qa4 z wN)];exact b6 _ _ (b5 _ _ z nb) nb
        ·rw[q49 hO];unfold vN;rw[ZR]
         rfl
        ·rw[qa7 (Z0 nD4e)];exact jO
      ·rintro xs H5 ⟨b5,vX,rfl,kR⟩;have vX:H5 D4=some (.lst (vN (names k m r c L 4))):=vX;have kR:H5 e=some (.dT (tK (Tr.rowsOf (qL k m r c L 4)))):=kR;have O4:=qP3 (k:=k) (m:=m) (r:=r) (c:=c) hO 4;have in0:=q48 (k:=k) (m:=m) (r:=r) (c:=c) hO (j:=0) 4 (by decide);have in1:=q48 (k:=k) (m:=m) (r:=r) (c:=c) hO (j:=1) 4 (by decide);have in2:=q48 (k:=k) (m:=m) (r:=r) (c:=c) hO (j:=2) 4 (by decide);have in3:=q48 (k:=k) (m:=m) (r:=r) (c:=c) hO (j:=3) 4 (by decide);have vJ:=xi4 (k:=k) (m:=m) (r:=r) (c:=c) (L:=L) 4;have hs4:sz (k+1)=4*sz k+1:=rfl;have e4:qL k m r c L 4=Tr.post (qt k m r c 3) (Tr.post (qt k m r c 2) (Tr.post (qt k m r c 1) (Tr.post (qt k m r c 0) L))):=rfl;have en:names k m r c L 4=[Tr.name (qL k m r c L 4) (qt k m r c 0),Tr.name (qL k m r c L 4) (qt k m r c 1),Tr.name (qL k m r c L 4) (qt k m r c 2),Tr.name (qL k m r c L 4) (qt k m r c 3)]:=rfl;rw[en] at vX;rw[hT] at q;generalize qL k m r c L 4=L4 at kR O4 in0 in1 in2 in3 vJ e4 vX;generalize qt k m r c 0=t0,qt k m r c 1=t1,qt k m r c 2=t2,qt k m r c 3=t3 at in0 in1 in2 in3 e4 vX q;have B5:But e H H5:=(But.of S4).trans b5;refine⟨_,rfl,(by show 4<=sizeLine;decide),λa ha=>⟨(by show 4<=sizeLine;decide),λb hb'=>⟨(by show 2<=sizeLine;decide),λt ht=>?_⟩⟩⟩;have S6:Same H5 (upd (upd (upd H5 a (.lst [.int 0,.int 0,.int 0,.int 0])) b (.lst [.int 1,.int 1,.int 1,.int 1])) t (.tup [.ref a,.ref b])):=((qb3 ha).trans (qb3 hb')).trans (qb3 ht);have da:DataAt (upd (upd (upd H5 a (.lst [.int 0,.int 0,.int 0,.int 0])) b (.lst [.int 1,.int 1,.int 1,.int 1])) t (.tup [.ref a,.ref b])) (.ref a) (dL [0,0,0,0]):=.lst (qc0 (qc0 qa1 hb') ht) (DatasAt.ints [0,0,0,0]);have db:DataAt (upd (upd (upd H5 a (.lst [.int 0,.int 0,.int 0,.int 0])) b (.lst [.int 1,.int 1,.int 1,.int 1])) t (.tup [.ref a,.ref b])) (.ref b) (dL [1,1,1,1]):=.lst (qc0 qa1 ht) (DatasAt.ints [1,1,1,1]);have wK:=S6 _ _ vX;have jO:=S6 _ _ kR;have ht6:upd (upd (upd H5 a (.lst [.int 0,.int 0,.int 0,.int 0])) b (.lst [.int 1,.int 1,.int 1,.int 1])) t (.tup [.ref a,.ref b]) t=some (.tup [.ref a,.ref b]):=qa1;generalize upd (upd (upd H5 a (.lst [.int 0,.int 0,.int 0,.int 0])) b (.lst [.int 1,.int 1,.int 1,.int 1])) t (.tup [.ref a,.ref b])=H6 at S6 da db wK jO ht6 ⊢;refine⟨t,[.ref a,.ref b],[dL [0,0,0,0],dL [1,1,1,1]],dL ([Tr.name L4 t0,Tr.name L4 t1,Tr.name L4 t2,Tr.name L4 t3].map λx:Nat=>(x:Int)),rfl,ht6,.cons da (.cons db .nil),.lst (wK.trans (Yi (λz=>some (HO.lst z)) (qu1 _))) (DatasAt.ints _),qV3 _,(by simp[PyData.canLayAll0,qV3]),ZE (qX5 _) (by decide),?_⟩;rw[Y6,Y6,List.any_nil,q92,q92,Bool.or_false];have B6:But e H H6:=B5.trans (But.of S6);refine⟨_,rfl,?_⟩;have hk:∀s∈Tr.kids (.nd t0 t1 t2 t3),Tr.In L4 s:=λs hs=>by
        have:s=t0\/s=t1\/s=t2\/s=t3:=by simpa [Tr.kids] using hs
        rcases this with rfl|rfl|rfl|rfl<;>assumption
       refine ite2 (λhc=>?_) (λhc=>?_)
       ·rcases WQ _ _▸hc with z|z
        ·obtain⟨eL,em,e0⟩:=kp0 e4 (Zq z);rw[em] at q;have q':=q H6 B6 (show H6 e=some (.dT (tK (Tr.rowsOf L))) from eL▸jO);exact⟨_,rfl,D4,_,0,.int (Tr.name L4 t0:Nat),rfl,rfl,SqL.of wK,rfl,by rw[e0];exact q'⟩
        ·obtain⟨eL,em,e0⟩:=kp1 e4 (Zq z);rw[em] at q;have q':=q H6 B6 (show H6 e=some (.dT (tK (Tr.rowsOf L))) from eL▸jO);exact⟨_,rfl,D4,_,0,.int (Tr.name L4 t0:Nat),rfl,rfl,SqL.of wK,rfl,by rw[e0];exact q'⟩
       ·have kQ:=kpn hc;rw[kQ] at q;have jQ:(Tr.kids (.nd t0 t1 t2 t3)).map (Tr.name L4)=[Tr.name L4 t0,Tr.name L4 t1,Tr.name L4 t2,Tr.name L4 t3]:=rfl;have jJ:=qS7 O4 hk;rw[jQ] at jJ;refine⟨_,rfl,D4,_,rfl,.inl ⟨SqL.of wK,λu hu=>?_⟩⟩;have S7:=qb3 (o:=.tup (vN [Tr.name L4 t0,Tr.name L4 t1,Tr.name L4 t2,Tr.name L4 t3])) hu;have wY:=S7 _ _ jO;have hu7:upd H6 u (.tup (vN [Tr.name L4 t0,Tr.name L4 t1,Tr.name L4 t2,Tr.name L4 t3])) u=some (.tup ((keyN [Tr.name L4 t0,Tr.name L4 t1,Tr.name L4 t2,Tr.name L4 t3]).map kV)):=by rw[qa1,qn7]
        have y6:=S7 _ _ wK;have B7:=B6.trans (But.of (e:=e) S7);generalize upd H6 u (.tup (vN [Tr.name L4 t0,Tr.name L4 t1,Tr.name L4 t2,Tr.name L4 t3]))=H7 at S7 wY hu7 y6 B7 ⊢;refine⟨_,rfl,e,_,rfl,DGet.t wY hu7,_,rfl,?_⟩;rw[qX9];by_cases hm:[Tr.name L4 t0,Tr.name L4 t1,Tr.name L4 t2,Tr.name L4 t3]∈Tr.rowsOf L4
        ·rw[Zt hm];refine iteF ?_;have vI:=jJ.mp hm;obtain⟨vK,eL⟩:=kpi hO e4 vI;rw[qh1 (.inr (.inr vK))] at q;rw[<- eL] at q vK;refine⟨_,rfl,_,rfl,D4,_,rfl,.inl ⟨SqL.of y6,λu2 wP=>⟨e,_,rfl,qC5 O4 vK (qc0 wY wP) qa1,?_⟩⟩⟩;exact q _ (B7.trans (But.of (qb3 wP))) (qc0 wY wP)
        ·rw[Zm hm];refine iteT ?_;have vI:Tr.nd t0 t1 t2 t3∉L4:=λz=>hm (jJ.mpr z);have ep:=kpx e4 vI;have O5:=(Tr.post_ord (.nd t0 t1 t2 t3) L hO).1;rw[ep] at q O5;have er:=qm7 O4 hk;rw[jQ] at er;have j7:(tK (Tr.rowsOf L4)).length=L4.length:=by unfold tK;rw[qj0,Tr.rowsOf_len]
         have hli:L4.length+1<=6000000:=by lia
         refine⟨_,rfl,e,_,rfl,wY,_,_,rfl,rfl,_,rfl,_,rfl,D4,_,rfl,.inl ⟨SqL.of y6,λu2 wP=>?_⟩⟩;have he8:=qc0 (u:=.tup (vN [Tr.name L4 t0,Tr.name L4 t1,Tr.name L4 t2,Tr.name L4 t3])) wY wP;refine⟨e,_,rfl,DPut.t he8 (by rw[qa1,qn7]) (by rw[j7];exact Yg (show L4.length<=6000000 by lia) (by decide)),?_⟩;have eput:=xs9 O4 hk hm;rw[eput];have hd8:upd (upd H7 u2 (.tup (vN [Tr.name L4 t0,Tr.name L4 t1,Tr.name L4 t2,Tr.name L4 t3]))) e (.dT (tK (Tr.rowsOf (L4++[.nd t0 t1 t2 t3])))) D4=some (.lst (vN [Tr.name L4 t0,Tr.name L4 t1,Tr.name L4 t2,Tr.name L4 t3])):=by
          rw[qa7 nD4e];exact qc0 y6 wP
         have he9:upd (upd H7 u2 (.tup (vN [Tr.name L4 t0,Tr.name L4 t1,Tr.name L4 t2,Tr.name L4 t3]))) e (.dT (tK (Tr.rowsOf (L4++[.nd t0 t1 t2 t3])))) e=some (.dT (tK (Tr.rowsOf (L4++[.nd t0 t1 t2 t3])))):=qa1;have B8:But e H (upd (upd H7 u2 (.tup (vN [Tr.name L4 t0,Tr.name L4 t1,Tr.name L4 t2,Tr.name L4 t3]))) e (.dT (tK (Tr.rowsOf (L4++[.nd t0 t1 t2 t3]))))):=(B7.trans (But.of (qb3 wP))).trans But.upd;generalize upd (upd H7 u2 (.tup (vN [Tr.name L4 t0,Tr.name L4 t1,Tr.name L4 t2,Tr.name L4 t3]))) e (.dT (tK (Tr.rowsOf (L4++[.nd t0 t1 t2 t3]))))=H8 at hd8 he9 B8 ⊢;have enm:∀s,Tr.In L4 s->Tr.name (L4++[.nd t0 t1 t2 t3]) s=Tr.name L4 s:=λs hs=>Tr.name_app hs O4;refine⟨_,rfl,_,rfl,D4,_,rfl,.inl ⟨SqL.of hd8,λu3 wO=>⟨e,_,rfl,qC5 (a:=t0) (b:=t1) (c:=t2) (d:=t3) O5 (by simp) (qc0 he9 wO) (by rw[qa1,enm t0 in0,enm t1 in1,enm t2 in2,enm t3 in3]),?_⟩⟩⟩;exact q _ (B8.trans (But.of (qb3 wO))) (qc0 he9 wO)
theorem xu3 {f fM fH:Addr}{fd fdM fdH:FuncData}(F:Fun K "_law_number" "_law_number" ql6 f fd) (B:Blt mg) (hN:mg "_law_number" = some (.ref f)) (bN:Binds K fd qP4 [])
  (hM:mg "_law_meets" = some (.ref fM)) (FM:Fun K "_law_meets" "_law_meets" qy5 fM fdM) (bM:Binds K fdM qn4 [])
  (hH:mg "_law_has" = some (.ref fH)) (FH:Fun K "_law_has" "_law_has" lHas fH fdH) (bH:Binds K fdH qn4 []):∀k,k<=12->FnOk P w K mg base CX0 (k+2) f fd qP4 (xp6 k)
 |0,h=>xi6 F B hN bN hM FM bM hH FH bH h (sp':=λ_ _ _ _=>False) ⟨λ_ _ _ _ h=>h.elim,λ_ _ _ _ _ _ _ _ _ _ _ _ _ h=>h.elim⟩ (λj e=>nomatch e)
 |k+1,h=>xi6 F B hN bN hM FM bM hH FH bH h (xu3 F B hN bN hM FM bM hH FH bH k (by lia)) (λj e=>by cases e;rfl)
end
def bTop (n:Nat) (boxes:List Row):Nat:=Tr.name (Tr.post (bt n boxes 0 0) []) (bt n boxes 0 0)
def qA6 (n:Nat) (boxes:List Row):List Row:=Tr.rowsOf (Tr.post (bt n boxes 0 0) [])
theorem xA5 {n:Nat}{boxes:List Row}(hn:n<=12):Canon n (bTop n boxes) (qA6 n boxes):=qC0 hn (qu5 n boxes 0 0) (qz1 n boxes 0 0)
theorem xL9 {n:Nat}{boxes:List Row}(hn:n<=12) (h:qS8 n boxes):(qA6 n boxes).length<=485:=by
 unfold qA6;rw[Tr.rowsOf_len];have h1:=qj2 (bt n boxes 0 0) [];have h2:=qz3 hn h;simp at h1;lia
theorem b_T {n:Nat}{boxes:List Row}:T (qA6 n boxes) (bTop n boxes)=bt n boxes 0 0:=by
 obtain⟨ho,hi⟩:=Tr.post_ord (bt n boxes 0 0) [] Tr.ord_nil;exact qq4 ho _ hi
section
variable {P:Program}{w:World}{K:PySem.W.Frag}{mg:Str->Option Value}{base:Heap}
abbrev nBSh:List Str:=["_law_n", "_law_boxes_here", "_law_rows", "_law_top"]
theorem scBSh:FnScope nBSh ["_law_n", "_law_boxes_here"] (qa3 qB6):=qd0
def xi7:Sp:=λvs H Q _=>∃(bp:Addr) (n:Nat) (boxes:List Row),vs=[.int (n:Nat),.ref bp]/\RowsL H bp boxes/\qS8 n boxes/\n<=12/\∀(H':Hp) (t:Addr),Same H H'->xc8 H' t n (bTop n boxes) (qA6 n boxes)->Q (.ref t) H'
theorem xG5 {f fN fM fH:Addr}{fd fdN fdM fdH:FuncData}(F:Fun K "_law_shape" "_law_shape" qB6 f fd) (B:Blt mg) (hN:mg "_law_number" = some (.ref fN)) (FN:Fun K "_law_number" "_law_number" ql6 fN fdN) (bN:Binds K fdN qP4 [])
  (hM:mg "_law_meets" = some (.ref fM)) (FM:Fun K "_law_meets" "_law_meets" qy5 fM fdM) (bM:Binds K fdM qn4 [])
  (hH:mg "_law_has" = some (.ref fH)) (FH:Fun K "_law_has" "_law_has" lHas fH fdH) (bH:Binds K fdH qn4 []):FnOk P w K mg base CX0 15 f fd ["_law_n", "_law_boxes_here"] xi7:=by
 have GN:∀k,k<=12->FnOk P w K mg base CX0 (k+2) fN fdN qP4 (xp6 k):=xu3 FN B hN bN hM FM bM hH FH bH;refine F.ok scBSh (λvs H Q E h=>?_) (λcdv A outer s H vs Q E hr h=>?_)
 ·obtain⟨bp,n,boxes,rfl,_⟩:=h
  rfl
 ·obtain⟨bp,n,boxes,rfl,hR,vL,hn,q⟩:=h;have hrN:Room (n+2) _:=hr.mono (by lia);refine seqE ⟨_,⟨psN 2 scBSh.nd qE2⟩,?_⟩;refine seqE ⟨_,⟨psN 3 scBSh.nd (qh8 (GN n hn) hrN (by rfl) hN FN.kp bN .nil qE1 (Ars2.go (.cons ⟨pv 2⟩ (.cons ⟨pv 1⟩ (.cons qj1 (.cons qj1 (.cons ⟨qb0 qn5 qa5 (pv 0)⟩ .nil rfl) rfl) rfl) rfl) rfl)))⟩,?_⟩;refine qe5 ⟨_,⟨qa9 (qg0 (Ars2.go (.cons ⟨pv 0⟩ (.cons ⟨pv 3⟩ (.cons ⟨qc1 (qu3 rfl) (by rfl) B.tuple ZH (qa0 (pv 2) qa2)⟩ .nil rfl) rfl) rfl)))⟩,?_⟩;intro e he;have nbe:bp≠e:=by obtain⟨bs,hb,_⟩:=hR;exact qa4 hb he
  have h4:∀b∈boxes,b.length=4:=λb hb=>by
   obtain⟨r,c,h,w',rfl,_⟩:=vL.1 b hb
   rfl
  have kK:boxes.length<=990:=by
   rcases vL.2 with ⟨_,h⟩|⟨h,_⟩<;>lia
  have hsz:sz n<=6000000:=ZE (xG4 hn) (by decide);have veq:[V.ref e,V.ref bp,V.int 0,V.int 0,V.int (1*2^((n:Int)).toNat)]=[V.ref e,V.ref bp,V.int ((0:Nat):Int),V.int ((0:Nat):Int),V.int ((2^n:Nat):Int)]:=by rw[qs9];rfl
  refine⟨_,rfl,_,rfl,_,rfl,_,_,rfl,rfl,⟨by lia,by lia,by decide⟩,e,bp,boxes,0,0,[],veq,hR.same (qb3 he),h4,kK,nbe,Tr.ord_nil,qa1,by simpa using hsz,λH1 b1 he1=>?_⟩;have S1:Same H H1:=λb o z=>b1 _ _ (qc0 z he) (qa4 z he);refine⟨_,rfl,_,rfl,_,rfl,e,_,rfl,he1,λl bs hl hbl2 hbs=>⟨(by show 3<=sizeLine;decide),λt ht=>?_⟩⟩;refine q _ t ((S1.trans (qb3 hl)).trans (qb3 ht)) ⟨⟨l,qa1,bs,qc0 qa1 ht,?_,?_⟩,xA5 hn,?_⟩
  ·rw[hbl2];unfold tK;rw[qj0]
   rfl
  ·intro i b r e1 e2;have hi:=(gS_ e2).1;have j7:(tK (qA6 n boxes)).length=(qA6 n boxes).length:=by unfold tK;rw[qj0]
   have hkv:(tK (qA6 n boxes))[i]?=some ((tK (qA6 n boxes))[i]'(by lia)):=Zb (by lia);have w5:((tK (qA6 n boxes))[i]'(by lia)).1=keyN r:=by
    have h0:=hkv;unfold tK tabl at h0;rw[Zg] at h0;obtain⟨p,hp,ep⟩:=Zr.mp h0;rw[WL] at hp;obtain⟨r',hr',rfl⟩:=Zr.mp hp;rw[e2] at hr';cases hr';exact (Yi Prod.fst ep).symm
   have:=hbs i b _ e1 hkv;rw[w5,qn7] at this;exact qc0 (qc0 this hl) ht
  ·exact ZE (xL9 hn vL) (by decide)
end
end Pr
namespace Qf
open Tr
theorem xA6 {k s i q:Nat}(h:i*2^s<q*2^k+2^k) (h':q*2^k<i*2^s+2^s) :
  (s<=k/\q*2^k<=i*2^s/\i*2^s+2^s<=q*2^k+2^k/\i*2^s-q*2^k=(i-q*2^(k-s))*2^s)\/(k<s/\i*2^s<=q*2^k/\q*2^k+2^k<=i*2^s+2^s):=by
 by_cases c:s<=k
 ·left;have e:2^k=2^(k-s)*2^s:=by rw[<- XX];congr 1;lia
  have e1:q*2^k=q*2^(k-s)*2^s:=by rw[e,Yc]
  generalize 2^(k-s)=m at e e1;have hp:0<2^s:=YY (by decide);rw[e1,e,<- Xl] at h;rw[e1,<- Yy] at h';have a1:=Ys h;have a2:=Ys h';refine⟨c,?_,?_,?_⟩
  ·rw[e1];exact Z6 _ (by lia)
  ·rw[e1,e,<- Xl,<- Yy];exact Z6 _ (by lia)
  ·rw[e1,Nat.sub_mul]
 ·right;have e:2^s=2^(s-k)*2^k:=by rw[<- XX];congr 1;lia
  have e1:i*2^s=i*2^(s-k)*2^k:=by rw[e,Yc]
  generalize 2^(s-k)=m at e e1;rw[e1,<- Yy] at h;rw[e1,e,<- Xl] at h';have a1:=Ys h;have a2:=Ys h';refine⟨by lia,?_,?_⟩
  ·rw[e1];exact Z6 _ (by lia)
  ·rw[e1,e,<- Xl,<- Yy];exact Z6 _ (by lia)
theorem qT9 {f:Nat->Nat}:∀(ds:List Nat) (n:Nat),ds.length<=n->∃q,cof f n ds=q*2^(n-ds.length)
 |[],n,_=>⟨0,by cases n<;>simp[cof]⟩
 |d::ds,0,h=>absurd h (by simp)
 |d::ds,n+1,h=>by
  have h':ds.length<=n:=by simpa using h
  obtain⟨q,e⟩:=qT9 (f:=f) ds n h';refine⟨2^ds.length*f d+q,?_⟩;show 2^n*f d+cof f n ds=_*2^(n+1-(ds.length+1));rw[e,WB,Xl,Nat.mul_right_comm,<- XX,Nat.add_sub_cancel' h']
def clip (r0 c0 s:Nat) (b:Row):Row:=[max (b.getD 0 0) r0-r0,max (b.getD 1 0) c0-c0,min (b.getD 0 0+b.getD 2 0) (r0+s)-max (b.getD 0 0) r0,min (b.getD 1 0+b.getD 3 0) (c0+s)-max (b.getD 1 0) c0]
def qt2 (r0 c0 s:Nat) (boxes:List Row):List Row:=(boxes.filter (qf4 r0 c0 s)).map (clip r0 c0 s)
theorem xG6 {r h r0 s i:Nat}(m1:r<r0+s) (m2:r0<r+h) (hi:i<s):(max r r0-r0<=i/\i+1<=max r r0-r0+(min (r+h) (r0+s)-max r r0))<->(r<=r0+i/\r0+i+1<=r+h):=by
 have hM:max r r0<=r0+i<->r<=r0+i:=by
  rw[VB];exact⟨λh=>h.1,λh=>⟨h,ZO _ _⟩⟩
 have hm:r0+i+1<=min (r+h) (r0+s)<->r0+i+1<=r+h:=by
  rw[VC];exact⟨λh=>h.1,λh=>⟨h,by lia⟩⟩
 have hMm:max r r0<=min (r+h) (r0+s):=VB.mpr ⟨VC.mpr ⟨ZO _ _,ZT m1⟩,VC.mpr ⟨ZT m2,ZO _ _⟩⟩;have h0:=Vn r r0;rw[<- hM,<- hm];clear hM hm m1 m2 hi;generalize max r r0=M at *;generalize min (r+h) (r0+s)=m at *;lia
theorem xp7 {r h r0 s:Nat}(m1:r<r0+s) (m2:r0<r+h) (h1:1<=h) (s1:1<=s):1<=min (r+h) (r0+s)-max r r0/\max r r0-r0+(min (r+h) (r0+s)-max r r0)<=s/\min (r+h) (r0+s)-max r r0<=h:=by
 have hMm:max r r0<min (r+h) (r0+s):=Nat.max_lt.mpr ⟨Nat.lt_min.mpr ⟨Nat.lt_add_of_pos_right h1,m1⟩,Nat.lt_min.mpr ⟨m2,Nat.lt_add_of_pos_right s1⟩⟩;have h0:=Vn r r0;have h2:=Vx r r0;have h3:=Nat.min_le_left (r+h) (r0+s);have h4:=Nat.min_le_right (r+h) (r0+s);clear m1 m2 h1 s1;generalize max r r0=M at *;generalize min (r+h) (r0+s)=m at *;exact⟨Nat.sub_pos_of_lt hMm,by lia,by lia⟩
theorem q00 {r0 c0 s i j:Nat}{b:Row}(hm:qf4 r0 c0 s b=true) (hi:i<s) (hj:j<s):cov i j (clip r0 c0 s b)=cov (r0+i) (c0+j) b:=by
 have hm:=Zq hm;unfold cov hasB clip;generalize b.getD 0 0=r at *;generalize b.getD 1 0=c at *;generalize b.getD 2 0=h at *;generalize b.getD 3 0=w at *;show decide (max r r0-r0<=i/\i+1<=max r r0-r0+(min (r+h) (r0+s)-max r r0)/\max c c0-c0<=j/\j+1<=max c c0-c0+(min (c+w) (c0+s)-max c c0))=_;rw[decide_eq_decide];have e1:=xG6 hm.1 hm.2.1 hi;have e2:=xG6 hm.2.2.2 hm.2.2.1 hj;exact⟨λ⟨a,b,x⟩=>⟨(e1.mp ⟨a,b⟩).1,(e1.mp ⟨a,b⟩).2,e2.mp x⟩,λ⟨a,b,x⟩=>⟨(e1.mpr ⟨a,b⟩).1,(e1.mpr ⟨a,b⟩).2,e2.mpr x⟩⟩
theorem xi8 {r0 c0 s i j:Nat}{boxes:List Row}(hi:i<s) (hj:j<s):(qt2 r0 c0 s boxes).any (cov i j)=boxes.any (cov (r0+i) (c0+j)):=by
 unfold qt2;rw[List.any_map,List.any_filter,YI,Yb,Yb];constructor
 ·rintro⟨b,hb,h⟩;obtain⟨h1,h2⟩:=Ye.mp h;exact⟨b,hb,by rw[<- q00 h1 hi hj];exact h2⟩
 ·rintro⟨b,hb,h⟩;have hm:qf4 r0 c0 s b=true:=by
   have h:=Zq h;exact Zj (by lia)
  exact⟨b,hb,Ye.mpr ⟨hm,(q00 hm hi hj).trans h⟩⟩
theorem xG7 {n:Nat}{ds:List Nat}{boxes:List Row}(j9:∀d∈ds,d<4) (hl:ds.length<=n):subT (bt n boxes 0 0) ds=bt (n-ds.length) (qt2 (cof (· / 2) n ds) (cof (·%2) n ds) (2^(n-ds.length)) boxes) 0 0:=by
 obtain⟨k,rfl⟩:∃k,n=k+ds.length:=⟨n-ds.length,by lia⟩;rw[show k+ds.length-ds.length=k by lia];refine qZ6 k (xe7 ds (qu5 _ _ _ _)) (qu5 _ _ _ _) (xe8 ds j9 (qz1 _ _ _ _)) (qz1 _ _ _ _) λi j hi hj=>?_;have l1:=qP2 h2 ds (k+ds.length) j9 (by lia);have l2:=qP2 m2 ds (k+ds.length) j9 (by lia);rw[show k+ds.length-ds.length=k by lia] at l1 l2;rw[qZ7 ds k _ i j j9 hi hj];have a:=xi2 (k+ds.length) boxes 0 0 (cof (· / 2) (k+ds.length) ds+i) (cof (·%2) (k+ds.length) ds+j) (Yx (by lia)) (Yx (by lia));have b:=xi2 k (qt2 (cof (· / 2) (k+ds.length) ds) (cof (·%2) (k+ds.length) ds) (2^k) boxes) 0 0 i j (Yx hi) (Yx hj);simp only[Nat.zero_mul] at a b;rw[a,b,xi8 hi hj]
theorem qU0 {n:Nat}{ds:List Nat}{boxes:List Row}(hl:ds.length<=n) (h:qS8 n boxes):qS8 (n-ds.length) (qt2 (cof (· / 2) n ds) (cof (·%2) n ds) (2^(n-ds.length)) boxes):=by
 obtain⟨q1,e1⟩:=qT9 (f:=(· / 2)) ds n hl;obtain⟨q2,e2⟩:=qT9 (f:=(·%2)) ds n hl;rw[e1,e2];have vB:n-ds.length<=n:=Nat.sub_le _ _;generalize n-ds.length=k at *;have len:(qt2 (q1*2^k) (q2*2^k) (2^k) boxes).length<=boxes.length:=by
  unfold qt2;rw[Zi];exact XR _ _
 have hp:0<2^k:=YY (by decide);have key:∀b'∈qt2 (q1*2^k) (q2*2^k) (2^k) boxes,∃b∈boxes,qf4 (q1*2^k) (q2*2^k) (2^k) b=true/\b'=clip (q1*2^k) (q2*2^k) (2^k) b:=λb' hb'=>by
  obtain⟨b,hb,rfl⟩:=Yo.mp hb';obtain⟨h1,h2⟩:=Xh.mp hb;exact⟨b,h1,h2,rfl⟩
 refine⟨λb' hb'=>?_,?_⟩
 ·obtain⟨b,hb,hm,rfl⟩:=key b' hb';obtain⟨r,c,h',w,rfl,x1,x2,x3,x4⟩:=h.1 b hb;have hm:=Zq hm;simp only[Xw,Xx] at hm;have c1:=xp7 hm.1 hm.2.1 x1 hp;have c2:=xp7 hm.2.2.2 hm.2.2.1 x2 hp;exact⟨_,_,_,_,rfl,c1.1,c2.1,c1.2.1,c2.2.1⟩
 ·rcases h.2 with ⟨a1,a2⟩|⟨a1,a2⟩
  ·exact .inl ⟨by lia,by lia⟩
  ·refine .inr ⟨ZE len a1,λb' hb'=>?_⟩;obtain⟨b,hb,hm,rfl⟩:=key b' hb';obtain⟨r,c,h',w,rfl,x1,x2,x3,x4⟩:=h.1 b hb;obtain⟨r2,c2,h2',w2,eb,sm⟩:=a2 _ hb;cases eb;have hm:=Zq hm;simp only[Xw,Xx] at hm;refine⟨_,_,_,_,rfl,?_⟩;simp only[Xw,Xx];rcases sm with ⟨s1,s2⟩|⟨s,i,j,rfl,rfl,rfl,rfl⟩
   ·exact .inl ⟨ZE (xp7 hm.1 hm.2.1 x1 hp).2.2 s1,ZE (xp7 hm.2.2.2 hm.2.2.1 x2 hp).2.2 s2⟩
   ·right;rcases xA6 hm.1 hm.2.1 with ⟨k1,k2,k3,k4⟩|⟨k1,k2,k3⟩
    ·rcases xA6 hm.2.2.2 hm.2.2.1 with ⟨l1,l2,l3,l4⟩|⟨l1,l2,l3⟩
     ·refine⟨s,i-q1*2^(k-s),j-q2*2^(k-s),?_,?_,?_,?_⟩
      ·rw[Wi k2,Vy k3];lia
      ·rw[Wi l2,Vy l3];lia
      ·rw[Wi k2];exact k4
      ·rw[Wi l2];exact l4
     ·lia
    ·rcases xA6 hm.2.2.2 hm.2.2.1 with ⟨l1,l2,l3,l4⟩|⟨l1,l2,l3⟩
     ·lia
     ·refine⟨k,0,0,?_,?_,?_,?_⟩
      ·rw[Xz k2,WD k3];lia
      ·rw[Xz l2,WD l3];lia
      ·rw[Xz k2];lia
      ·rw[Xz l2];lia
end Qf
namespace Pr
open PySem L2 Qf
theorem RowsL.push {H:Hp}{p k:Addr}{rows:List Row}{r:Row}{bs:List Addr}(h0:H p=some (.lst (bs.map V.ref))) (h1:bs.length=rows.length) (h2:∀(i:Nat) b r,bs[i]?=some b->rows[i]?=some r->H b=some (.tup (vN r))) (hk:H k=none):RowsL (upd (upd H k (.tup (vN r))) p (.lst (bs.map V.ref++[.ref k]))) p (rows++[r]):=by
 have npk:p≠k:=qa4 h0 hk;have tp:∀{b:Addr}{x:List V},H b=some (.tup x)->upd (upd H k (.tup (vN r))) p (.lst (bs.map V.ref++[.ref k])) b=some (.tup x):=λ{b x} e=>by
  rw[qa7 (λz=>by rw[z,h0] at e;cases e),qa7 (qa4 e hk)];exact e
 refine⟨bs++[k],by rw[qa1,ZR];rfl,by rw[Zu,Zu,h1];rfl,λi b x e1 e2=>?_⟩;by_cases hi:i<bs.length
 ·rw[Zo hi] at e1;rw[Zo (by lia)] at e2;exact tp (h2 i b x e1 e2)
 ·rw[Zv (by lia)] at e1;rw[Zv (by lia),<- h1] at e2;have wX:i-bs.length=0:=by
   have:=(gS_ e1).1;simp at this;lia
  rw[wX] at e1 e2;cases e1;cases e2;rw[qa7 (Z0 npk),qa1]
end Pr
namespace Qf
theorem q50 {r0 c0 s i:Nat}{boxes:List Row}{b:Row}(h:boxes[i]?=some b):qt2 r0 c0 s (boxes.take (i+1))=qt2 r0 c0 s (boxes.take i)++(if qf4 r0 c0 s b=true then [clip r0 c0 s b] else []):=by
 unfold qt2;rw[XY,h,Option.toList_some,W7,ZR];congr 1;by_cases c:qf4 r0 c0 s b=true
 ·rw[Zt c,List.filter_cons_of_pos c];rfl
 ·rw[Zm c,List.filter_cons_of_neg c];rfl
end Qf
namespace Pr
open PySem L2 Qf
section
variable {P:Program}{w:World}{K:PySem.W.Frag}{mg:Str->Option Value}{base:Heap}
abbrev nLt:List Str:=["_law_n", "_law_boxes_here", "_law_address_here", "_law_down", "_law_right", "_law_side", "_law_found", "_law_row", "_law_column", "_law_high", "_law_wide", "_law_top", "_law_left", "_law_foot", "_law_end"]
abbrev nLt3:List Str:=["_law_n", "_law_boxes_here", "_law_address_here"]
theorem scLt:FnScope nLt nLt3 (qa3 qF7):=qd0
def spLt:Sp:=λvs H Q _=>∃(bp:Addr) (n:Nat) (ds:List Nat) (boxes:List Row),vs=[.int (n:Nat),.ref bp,.str (txt ds)]/\RowsL H bp boxes/\qS8 n boxes/\n<=12/\(∀d∈ds,d<4)/\ds.length<=n/\∀H' t,Same H H'->ShT H' t (n-ds.length) (subT (bt n boxes 0 0) ds)->Q (.ref t) H'
theorem xM0 {f fS fM fH:Addr}{fd fdS fdM fdH:FuncData}(F:Fun K "_law_left_there" "_law_left_there" qF7 f fd) (B:Blt mg)
  (hS:mg "_law_square" = some (.ref fS)) (FS:Fun K "_law_square" "_law_square" qF6 fS fdS) (bS:Binds K fdS ["_law_n", "_law_address_here"] [])
  (hM:mg "_law_meets" = some (.ref fM)) (FM:Fun K "_law_meets" "_law_meets" qy5 fM fdM) (bM:Binds K fdM qn4 [])
  (hH:mg "_law_shape" = some (.ref fH)) (FH:Fun K "_law_shape" "_law_shape" qB6 fH fdH) (bH:Binds K fdH ["_law_n", "_law_boxes_here"] []) (GH:FnOk P w K mg base CX0 15 fH fdH ["_law_n", "_law_boxes_here"] xi7):FnOk P w K mg base CX0 16 f fd nLt3 spLt:=by
 have GS:FnOk P w K mg base CX0 1 fS fdS ["_law_n", "_law_address_here"] spSq:=xL6 FS;have GM:FnOk P w K mg base CX0 1 fM fdM qn4 (qA2 qf4):=qZ9 FM;refine F.ok scLt (λvs H Q E h=>?_) (λcdv A outer s H vs Q E hr h=>?_)
 ·obtain⟨bp,n,ds,boxes,rfl,_⟩:=h
  rfl
 ·obtain⟨bp,n,ds,boxes,rfl,hR,vL,hn,j9,hl,q⟩:=h;have jD:Room 1 _:=hr.mono (by decide);have hr15:Room 15 _:=hr.mono (by decide);refine seqE ⟨_,⟨qk5 (pcN GS jD hS FS.kp bS (qa0 (pv 0) (qa0 (pv 2) qa2))) (qo5 rfl (qb8 (pgN 3 scLt.nd) (qb8 (pgN 4 scLt.nd) (qb8 (pgN 5 scLt.nd) qj7))))⟩,?_⟩;refine seqE ⟨_,⟨psN 6 scLt.nd (qg1 qa2)⟩,?_⟩;refine seqE ⟨_,⟨qo6 YS rfl (qD6 (pv 1)) (qo5 rfl (qb8 (pgN 7 scLt.nd) (qb8 (pgN 8 scLt.nd) (qb8 (pgN 9 scLt.nd) (qb8 (pgN 10 scLt.nd) qj7)))))
   (qa8 (qc9 (qe3 (pcN GM jD hM FM.kp bM (Ars2.go (.cons ⟨qg0 (Ars2.go (.cons ⟨pv 7⟩ (.cons ⟨pv 8⟩ (.cons ⟨pv 9⟩ (.cons ⟨pv 10⟩ .nil rfl) rfl) rfl) rfl))⟩ (.cons ⟨pv 3⟩ (.cons ⟨pv 4⟩ (.cons ⟨pv 5⟩ .nil rfl) rfl) rfl) rfl))))
    (StB.go (.cons ⟨psN 11 scLt.nd (qa6 (qo7 rfl) (by rfl) B.max Xe (qa0 (pv 7) (qa0 (pv 3) qa2)))⟩
    (.cons ⟨psN 12 scLt.nd (qa6 (qo7 rfl) (by rfl) B.max Xe (qa0 (pv 8) (qa0 (pv 4) qa2)))⟩
    (.cons ⟨psN 13 scLt.nd (qa6 (qk9 rfl) (by rfl) B.min Xg (qa0 (qb0 qc4 (pv 7) (pv 9)) (qa0 (qb0 qc4 (pv 3) (pv 5)) qa2)))⟩
    (.cons ⟨psN 14 scLt.nd (qa6 (qk9 rfl) (by rfl) B.min Xg (qa0 (qb0 qc4 (pv 8) (pv 10)) (qa0 (qb0 qc4 (pv 4) (pv 5)) qa2)))⟩
    (.one ⟨qf0 (PEb.go (qu4 ZY Z7 Z8 qe4 ⟨pv 6⟩ (.cons ⟨qg0 (Ars2.go (.cons ⟨qb0 qe0 (pv 11) (pv 3)⟩ (.cons ⟨qb0 qe0 (pv 12) (pv 4)⟩ (.cons ⟨qb0 qe0 (pv 13) (pv 11)⟩ (.cons ⟨qb0 qe0 (pv 14) (pv 12)⟩ .nil rfl) rfl) rfl) rfl))⟩ .nil rfl)))⟩)))))) qb1))⟩,?_⟩
  refine qe5 ⟨_,⟨qa9 (pcN GH hr15 hH FH.kp bH (qa0 (qb0 qe0 (pv 0) (qa6 qe1 (by rfl) B.len ZM (qa0 (pv 2) qa2))) (qa0 (pv 6) qa2)))⟩,?_⟩;obtain⟨bs,hb0,kF,kB⟩:=id hR;have h4:∀b∈boxes,∃r c h w',b=[r,c,h,w']/\1<=h/\1<=w'/\r+h<=2^n/\c+w'<=2^n:=λb hb=>vL.1 b hb;have kK:boxes.length<=64:=by rcases vL.2 with ⟨_,h⟩|⟨h,_⟩<;>lia
  refine⟨_,rfl,_,rfl,n,ds,rfl,hn,j9,hl,λH1 p1 s1 jG=>?_⟩;refine⟨p1,_,rfl,SqT.of jG,rfl,_,_,rfl,_,_,rfl,_,_,rfl,rfl,?_⟩;refine⟨by show 0<=sizeLine;decide,λFo vT=>?_⟩;have hFH:H Fo=none:=by
   cases e:H Fo with
   |none=>rfl
   |some o=>rw[s1 _ _ e] at vT;cases vT
  generalize hr0:cof (· / 2) n ds=r0 at jG ⊢;generalize hc0:cof (·%2) n ds=c0 at jG ⊢;generalize hsd:2^(n-ds.length)=sd at jG ⊢;have lb:(bs.map V.ref).length=boxes.length:=by rw[Zi];exact kF
  refine⟨_,rfl,bp,rfl,⟨_,SqL.of (qc0 (s1 _ _ hb0) vT)⟩,qU6 (K:=K) (a:=bp) (xs:=bs.map V.ref) (λi σ H2=>i<=boxes.length/\Same H H2/\RowsL H2 Fo (qt2 r0 c0 sd (boxes.take i))/\∃v7 v8 v9 v10 v11 v12 v13 v14,σ=[some (.int (n:Nat)),some (.ref bp),some (.str (txt ds)),some (.int (r0:Nat)),some (.int (c0:Nat)),some (.int (sd:Nat)),some (.ref Fo),v7,v8,v9,v10,v11,v12,v13,v14])
   ⟨ZB _,s1.trans (qb3 vT),⟨[],qa1,rfl,λi b r e=>by simp at e⟩,none,none,none,none,none,none,none,none,rfl⟩ ?_ ?_ ?_⟩
  ·rintro i σ H2 hi ⟨_,s2,_⟩;exact SqL.of (s2 _ _ hb0)
  ·rintro i x σ H2 hx ⟨hi,s2,hF2,v7,v8,v9,v10,v11,v12,v13,v14,rfl⟩;rw[Zg] at hx;obtain⟨b,hb,rfl⟩:=Zr.mp hx;have hil:i<boxes.length:=by have:=(gS_ hb).1;lia
   have wC:boxes[i]?=some boxes[i]:=Zb hil;have kU:=s2 _ _ (kB i b _ hb wC);obtain⟨r,c,h,w',eb,x1,x2,x3,x4⟩:=h4 boxes[i] (YO hil);generalize boxes[i]=bx at wC kU eb;subst eb;have sn:=q50 (r0:=r0) (c0:=c0) (s:=sd) wC;refine⟨b,_,rfl,SqT.of kU,rfl,_,_,rfl,_,_,rfl,_,_,rfl,_,_,rfl,rfl,?_⟩;refine⟨_,rfl,_,rfl,_,rfl,_,rfl,(by show 4<=sizeLine;decide),λbt' hbt'=>?_⟩;refine⟨_,rfl,_,rfl,_,rfl,bt',[r,c,h,w'],r0,c0,sd,rfl,qa1,rfl,_,rfl,?_⟩;have s3:=s2.trans (qb3 (o:=.tup (vN [r,c,h,w'])) hbt');have hF3:=hF2.same (qb3 (o:=.tup (vN [r,c,h,w'])) hbt');refine ite2 (λhc=>?_) (λhc=>?_)
   rotate_left
   ·rw[Zm hc,Wg] at sn;exact⟨by lia,s3,by rw[sn];exact hF3,_,_,_,_,_,_,_,_,rfl⟩
   ·rw[Zt hc] at sn;obtain⟨fs,f0,f1,f2⟩:=id hF3;have hm:=Zq hc;simp only[Xw,Xx] at hm;have flen:(fs.map V.ref).length<=64:=by
     rw[Zi,f1];unfold qt2;rw[Zi];refine ZE (XR _ _) ?_;rw[ZS];lia
    refine⟨_,rfl,_,rfl,_,_,rfl,_,rfl,_,rfl,_,_,rfl,?_⟩;refine⟨_,rfl,_,rfl,_,_,rfl,rfl,_,rfl,_,rfl,_,_,rfl,rfl,_,_,rfl,?_⟩;refine⟨_,rfl,_,rfl,_,_,rfl,rfl,_,rfl,_,rfl,_,_,rfl,rfl,_,_,rfl,?_⟩;refine⟨_,rfl,.inl ⟨rfl,_,SqL.of f0⟩,_,rfl,_,rfl,_,_,rfl,rfl,_,rfl,_,rfl,_,_,rfl,rfl,_,rfl,_,rfl,_,_,rfl,rfl,_,rfl,_,rfl,_,_,rfl,rfl,(by show 4<=sizeLine;decide),λkk vH=>?_⟩;have ev:[V.int ((if ((r0:Nat):Int)>((r:Nat):Int) then ((r0:Nat):Int) else ((r:Nat):Int))-((r0:Nat):Int)),V.int ((if ((c0:Nat):Int)>((c:Nat):Int) then ((c0:Nat):Int) else ((c:Nat):Int))-((c0:Nat):Int)),
      V.int ((if ((r0:Nat):Int)+((sd:Nat):Int)<((r:Nat):Int)+((h:Nat):Int) then ((r0:Nat):Int)+((sd:Nat):Int) else ((r:Nat):Int)+((h:Nat):Int))-(if ((r0:Nat):Int)>((r:Nat):Int) then ((r0:Nat):Int) else ((r:Nat):Int))),
      V.int ((if ((c0:Nat):Int)+((sd:Nat):Int)<((c:Nat):Int)+((w':Nat):Int) then ((c0:Nat):Int)+((sd:Nat):Int) else ((c:Nat):Int)+((w':Nat):Int))-(if ((c0:Nat):Int)>((c:Nat):Int) then ((c0:Nat):Int) else ((c:Nat):Int)))]=vN (clip r0 c0 sd [r,c,h,w']):=by
     unfold clip vN;simp only[Xw,Xx,Zz,X7];have e1:(if ((r0:Nat):Int)>((r:Nat):Int) then ((r0:Nat):Int) else ((r:Nat):Int))=((max r r0:Nat):Int):=by split<;>lia
     have e2:(if ((c0:Nat):Int)>((c:Nat):Int) then ((c0:Nat):Int) else ((c:Nat):Int))=((max c c0:Nat):Int):=by split<;>lia
     have e3:(if ((r0:Nat):Int)+((sd:Nat):Int)<((r:Nat):Int)+((h:Nat):Int) then ((r0:Nat):Int)+((sd:Nat):Int) else ((r:Nat):Int)+((h:Nat):Int))=((min (r+h) (r0+sd):Nat):Int):=by split<;>lia
     have e4:(if ((c0:Nat):Int)+((sd:Nat):Int)<((c:Nat):Int)+((w':Nat):Int) then ((c0:Nat):Int)+((sd:Nat):Int) else ((c:Nat):Int)+((w':Nat):Int))=((min (c+w') (c0+sd):Nat):Int):=by split<;>lia
     rw[e1,e2,e3,e4];congr 1
     ·congr 1;lia
     congr 1
     ·congr 1;lia
     congr 1
     ·congr 1;lia
     congr 1
     ·congr 1;lia
    have push:=RowsL.push (r:=clip r0 c0 sd [r,c,h,w']) f0 f1 f2 vH;rw[<- ev,<- sn] at push;refine⟨Fo,_,_,rfl,rfl,qc0 f0 vH,Yg flen (by decide),by lia,xJ8 (s3.trans (qb3 vH)) hFH,push,_,_,_,_,_,_,_,_,rfl⟩
  ·rintro σ H2 ⟨hi,s2,hF2,v7,v8,v9,v10,v11,v12,v13,v14,rfl⟩;rw[lb,YT] at hF2;have hB:=qU0 (ds:=ds) hl vL;have e:=xG7 (boxes:=boxes) j9 hl;rw[hr0,hc0,hsd] at hB e;refine⟨_,rfl,_,rfl,txt ds,rfl,ZT (qb5 (by rw[qd2];lia)),_,_,rfl,rfl,_,rfl,Fo,n-ds.length,_,?_,hF2,hB,by lia,λH3 t3 s3 sh=>?_⟩
   ·rw[qd2];show[V.int (((n:Nat):Int)-((ds.length:Nat):Int)),_]=_;rw[show ((n:Nat):Int)-((ds.length:Nat):Int)=((n-ds.length:Nat):Int) by lia]
   ·refine q H3 t3 (s2.trans s3) ⟨_,_,sh,?_⟩;rw[e];exact c_T _
theorem scKp:FnScope ["_law_rows", "_law_quarters"] ["_law_rows", "_law_quarters"] (qa3 xb5):=qd0
def spKp:Sp:=λvs H Q _=>∃(e b:Addr) (L L4:List Tr) (t0 t1 t2 t3:Tr),vs=[.ref e,.ref b]/\Tr.Ord L/\L4=Tr.post t3 (Tr.post t2 (Tr.post t1 (Tr.post t0 L)))/\H e=some (.dT (tK (Tr.rowsOf L4)))/\H b=some (.tup (vN [Tr.name L4 t0,Tr.name L4 t1,Tr.name L4 t2,Tr.name L4 t3]))/\L4.length+1<=6000000 /\
 ∀H',But e H H'->H' e=some (.dT (tK (Tr.rowsOf (Tr.post (mk t0 t1 t2 t3) L))))->Q (.int (Tr.name (Tr.post (mk t0 t1 t2 t3) L) (mk t0 t1 t2 t3):Nat)) H'
theorem xG8 {f:Addr}{fd:FuncData}(F:Fun K "_law_kept" "_law_kept" xb5 f fd) (B:Blt mg):FnOk P w K mg base CX0 1 f fd ["_law_rows", "_law_quarters"] spKp:=by
 refine F.ok scKp (λvs H Q E h=>?_) (λcdv A outer s H vs Q E hr h=>?_)
 ·obtain⟨e,b,L,L4,t0,t1,t2,t3,rfl,_⟩:=h
  rfl
 ·obtain⟨e,b,L,L4,t0,t1,t2,t3,rfl,hO,e4,he,hb,hLs,q⟩:=h;have hu:A.units+3+1<cLine:=by
   have h2:A.units+3+16*0+200<cLine:=hr.un;lia
  refine seqE ⟨_,⟨qc9 (qb2 (xs2 hr) (pv 1) (PEb.go ⟨qg0 (Ars2.go (.cons qN2 (.cons qN2 .nil rfl) rfl))⟩) (by first|rfl|decide|with_unfolding_all rfl)) (qa8 (qa9 (pxN ix_tup (pv 1) qa5))) qb1⟩,?_⟩;refine seqE ⟨_,⟨qc9 (qA7 (qp1 hu (pv 1) (pv 0))) (qa8 (qs3 hu (pv 0) (pv 1) (qb0 qc4 (qa6 qN1 (by rfl) B.len ZM (qa0 (pv 0) qa2)) qa5) (by rfl))) qb1⟩,?_⟩;refine qe5 ⟨_,⟨qa9 (qs2 hu (pv 0) (pv 1) (λ_ _=>rfl))⟩,?_⟩;refine⟨_,rfl,(by show 4<=sizeLine;decide),λa ha=>⟨(by show 4<=sizeLine;decide),λc hc'=>⟨(by show 2<=sizeLine;decide),λt ht=>?_⟩⟩⟩;have S6:Same H (upd (upd (upd H a (.tup [.int 0,.int 0,.int 0,.int 0])) c (.tup [.int 1,.int 1,.int 1,.int 1])) t (.tup [.ref a,.ref c])):=((qb3 ha).trans (qb3 hc')).trans (qb3 ht);have da:DataAt (upd (upd (upd H a (.tup [.int 0,.int 0,.int 0,.int 0])) c (.tup [.int 1,.int 1,.int 1,.int 1])) t (.tup [.ref a,.ref c])) (.ref a) (dT [0,0,0,0]):=.tup (qc0 (qc0 qa1 hc') ht) (DatasAt.ints [0,0,0,0]);have db:DataAt (upd (upd (upd H a (.tup [.int 0,.int 0,.int 0,.int 0])) c (.tup [.int 1,.int 1,.int 1,.int 1])) t (.tup [.ref a,.ref c])) (.ref c) (dT [1,1,1,1]):=.tup (qc0 qa1 ht) (DatasAt.ints [1,1,1,1]);have ht6:upd (upd (upd H a (.tup [.int 0,.int 0,.int 0,.int 0])) c (.tup [.int 1,.int 1,.int 1,.int 1])) t (.tup [.ref a,.ref c]) t=some (.tup [.ref a,.ref c]):=qa1;have wD:=S6 _ _ hb;have jO:=S6 _ _ he;generalize upd (upd (upd H a (.tup [.int 0,.int 0,.int 0,.int 0])) c (.tup [.int 1,.int 1,.int 1,.int 1])) t (.tup [.ref a,.ref c])=H6 at S6 da db ht6 wD jO ⊢;have dq:DataAt H6 (.ref b) (dT ([Tr.name L4 t0,Tr.name L4 t1,Tr.name L4 t2,Tr.name L4 t3].map λx:Nat=>(x:Int))):=.tup (wD.trans (Yi (λz=>some (HO.tup z)) (qu1 _))) (DatasAt.ints _);refine⟨t,[.ref a,.ref c],[dT [0,0,0,0],dT [1,1,1,1]],dT ([Tr.name L4 t0,Tr.name L4 t1,Tr.name L4 t2,Tr.name L4 t3].map λx:Nat=>(x:Int)),rfl,ht6,.cons da (.cons db .nil),dq,qK7 _,(by simp[PyData.canLayAll0,qK7]),(by have:=qC2 ([Tr.name L4 t0,Tr.name L4 t1,Tr.name L4 t2,Tr.name L4 t3].map λx:Nat=>(x:Int));show PyData.depthAll _+1<=_;lia),?_⟩;rw[Y6,Y6,List.any_nil,q91,q91,Bool.or_false];have B6:But e H H6:=But.of S6;refine⟨_,rfl,?_⟩;have O0:=(Tr.post_ord t0 L hO).1;have O1:=(Tr.post_ord t1 _ O0).1;have O2:=(Tr.post_ord t2 _ O1).1;have O4:Tr.Ord L4:=by rw[e4];exact (Tr.post_ord t3 _ O2).1
  have in0:Tr.In L4 t0:=by rw[e4];exact (((Tr.post_ord t0 L hO).2.post t1).post t2).post t3
  have in1:Tr.In L4 t1:=by rw[e4];exact ((Tr.post_ord t1 _ O0).2.post t2).post t3
  have in2:Tr.In L4 t2:=by rw[e4];exact (Tr.post_ord t2 _ O1).2.post t3
  have in3:Tr.In L4 t3:=by rw[e4];exact (Tr.post_ord t3 _ O2).2
  have hk:∀s∈Tr.kids (.nd t0 t1 t2 t3),Tr.In L4 s:=λs hs=>by
   have:s=t0\/s=t1\/s=t2\/s=t3:=by simpa [Tr.kids] using hs
   rcases this with rfl|rfl|rfl|rfl<;>assumption
  refine ite2 (λhc=>?_) (λhc=>?_)
  ·rcases WQ _ _▸hc with z|z
   ·obtain⟨eL,em,e0⟩:=kp0 e4 (Zq z);rw[em] at q;have q':=q H6 B6 (show H6 e=some (.dT (tK (Tr.rowsOf L))) from eL▸jO);exact⟨_,rfl,b,_,0,.int (Tr.name L4 t0:Nat),rfl,rfl,SqT.of wD,rfl,by rw[e0];exact q'⟩
   ·obtain⟨eL,em,e0⟩:=kp1 e4 (Zq z);rw[em] at q;have q':=q H6 B6 (show H6 e=some (.dT (tK (Tr.rowsOf L))) from eL▸jO);exact⟨_,rfl,b,_,0,.int (Tr.name L4 t0:Nat),rfl,rfl,SqT.of wD,rfl,by rw[e0];exact q'⟩
  ·have kQ:=kpn hc;rw[kQ] at q;have jQ:(Tr.kids (.nd t0 t1 t2 t3)).map (Tr.name L4)=[Tr.name L4 t0,Tr.name L4 t1,Tr.name L4 t2,Tr.name L4 t3]:=rfl;have jJ:=qS7 O4 hk;rw[jQ] at jJ;have hu7:H6 b=some (.tup ((keyN [Tr.name L4 t0,Tr.name L4 t1,Tr.name L4 t2,Tr.name L4 t3]).map kV)):=by rw[qn7];exact wD
   refine⟨_,rfl,_,rfl,e,_,rfl,DGet.t jO hu7,_,rfl,?_⟩;rw[qX9];by_cases hm:[Tr.name L4 t0,Tr.name L4 t1,Tr.name L4 t2,Tr.name L4 t3]∈Tr.rowsOf L4
   ·rw[Zt hm];refine iteF ?_;have vI:=jJ.mp hm;obtain⟨vK,eL⟩:=kpi hO e4 vI;rw[qh1 (.inr (.inr vK))] at q;rw[<- eL] at q vK;exact⟨_,rfl,_,rfl,e,_,rfl,qC5 O4 vK jO wD,q _ B6 jO⟩
   ·rw[Zm hm];refine iteT ?_;have vI:Tr.nd t0 t1 t2 t3∉L4:=λz=>hm (jJ.mpr z);have ep:=kpx e4 vI;have O5:=(Tr.post_ord (.nd t0 t1 t2 t3) L hO).1;rw[ep] at q O5;have er:=qm7 O4 hk;rw[jQ] at er;have j7:(tK (Tr.rowsOf L4)).length=L4.length:=by unfold tK;rw[qj0,Tr.rowsOf_len]
    refine⟨_,rfl,e,_,rfl,jO,_,_,rfl,rfl,_,rfl,_,rfl,e,_,rfl,DPut.t jO hu7 (by rw[j7];exact Yg (show L4.length<=6000000 by lia) (by decide)),?_⟩;have eput:=xs9 O4 hk hm;rw[eput];have nbe:b≠e:=λz=>by rw[z,jO] at wD;cases wD
    have hb8:upd H6 e (.dT (tK (Tr.rowsOf (L4++[.nd t0 t1 t2 t3])))) b=some (.tup (vN [Tr.name L4 t0,Tr.name L4 t1,Tr.name L4 t2,Tr.name L4 t3])):=by rw[qa7 nbe];exact wD
    have enm:∀s,Tr.In L4 s->Tr.name (L4++[.nd t0 t1 t2 t3]) s=Tr.name L4 s:=λs hs=>Tr.name_app hs O4;exact⟨_,rfl,_,rfl,e,_,rfl,qC5 (a:=t0) (b:=t1) (c:=t2) (d:=t3) O5 (by simp) qa1 (by rw[hb8,enm t0 in0,enm t1 in1,enm t2 in2,enm t3 in3]),q _ (B6.trans But.upd) qa1⟩
end
end Pr
namespace L2
open PySem
section
variable {X:Cx}
end
theorem xi9 {K:PySem.W.Frag}{H:Hp}{a:Addr}{us:List V}{te:TE}{σ:St}{Fin:Hp->Prop}{D:Addr}(Iv:Nat->List V->Hp->Prop) (hsz:us.length<sizeLine) (i0:Iv 0 [] (upd H D (.lst [])))
  (hD:∀i xs H2,Iv i xs H2->H2 D=some (.lst xs)/\xs.length<=i/\SqT K H2 a us)
  (step:∀i xs x H2,us[i]?=some x->Iv i xs H2->∀Q2:VK,(∀v H3,H3 D=some (.lst xs)->Iv (i+1) (xs++[v]) (upd H3 D (.lst (xs++[v])))->Q2 v H3)->te (some x::σ) H2 Q2)
  (fin:∀xs H2,Iv us.length xs H2->Fin H2) :
  ∃W:Nat->Nat->List V->Hp->Prop,(∃m,W 0 m [] (upd H D (.lst []))) /\
   ∀i m xs H2,W i m xs H2->H2 D=some (.lst xs)/\xs.length<sizeLine/\(((Itt K a).stop i H2/\Fin H2)\/((Itt K a).go i H2/\∀y H3,(Itt K a).yld i H2 y H3 ->
    te (some y::σ) H3 λv H4=>H4 D=some (.lst xs)/\∃m',m'<m/\W (i+1) m' (xs++[v]) (upd H4 D (.lst (xs++[v]))))):=by
 refine⟨λi m xs H2=>i<=us.length/\m=us.length-i/\Iv i xs H2,⟨us.length,ZB _,rfl,i0⟩,?_⟩;rintro i m xs H2 ⟨hi,rfl,iv⟩;obtain⟨h1,h2,h3⟩:=hD i xs H2 iv;refine⟨h1,by lia,?_⟩;by_cases he:i=us.length
 ·subst he;exact .inl ⟨⟨us,h3,Zd _⟩,fin xs H2 iv⟩
 ·have j7:i<us.length:=by lia
  refine .inr ⟨⟨us,us[i],h3,Zb j7⟩,λy H3 hy=>?_⟩;obtain⟨e1,e2⟩:=hy;subst e1;have:=e2 us h3;exact step i xs y H3 this iv _ λv H6 h1 h2=>⟨h1,us.length-(i+1),by lia,by lia,rfl,h2⟩
end L2
namespace Qf
open Tr
theorem xp8 (a b c d:Tr):(a=z/\b=z/\c=z/\d=z)/\mk a b c d=z\/(a=o/\b=o/\c=o/\d=o)/\mk a b c d=o\/mk a b c d=.nd a b c d:=by
 unfold mk;split
 ·exact .inl ⟨by assumption,rfl⟩
 ·split
  ·exact .inr (.inl ⟨by assumption,rfl⟩)
  ·exact .inr (.inr rfl)
theorem xj0 {L:List Tr}(ho:Ord L) (t0 t1 t2 t3:Tr):post (mk t0 t1 t2 t3) L=ins (mk t0 t1 t2 t3) (post t3 (post t2 (post t1 (post t0 L)))):=by
 rcases xp8 t0 t1 t2 t3 with ⟨⟨rfl,rfl,rfl,rfl⟩,e⟩|⟨⟨rfl,rfl,rfl,rfl⟩,e⟩|e
 ·rw[e];rfl
 ·rw[e];show L=ins .o L;unfold ins;rw[Zt (.inr (.inl rfl))]
 ·rw[e];by_cases hm:Tr.nd t0 t1 t2 t3∈L
  ·rw[qh1 (.inr (.inr hm))];obtain⟨i,hi,ei⟩:=ZJ.mp hm;have kin:=λs hs=>(kid_in ho (i:=i) (t:=.nd t0 t1 t2 t3) (by rw[Zb hi,ei]) (s:=s) hs).1;rw[qh1 (kin t0 (by simp[kids])),qh1 (kin t1 (by simp[kids])),qh1 (kin t2 (by simp[kids])),qh1 (kin t3 (by simp[kids]))];unfold ins;rw[Zt (.inr (.inr hm))]
  ·have hn:=not_below hm;unfold ins;rw[Zm]
   ·show (if Tr.nd t0 t1 t2 t3∈L then L else _)=_;rw[Zm hm]
   ·rintro (z|z|z)
    ·cases z
    ·cases z
    ·exact hn z
end Qf
namespace L2
open PySem
theorem xj1 {J:It}{H:Hp}{te:TE}{σ:St}{Fin:Hp->Prop}{D:Addr}
  (h:∃W:Nat->Nat->List V->Hp->Prop,(∃m,W 0 m [] (upd H D (.lst []))) /\
   ∀i m xs H2,W i m xs H2->H2 D=some (.lst xs)/\xs.length<sizeLine/\((J.stop i H2/\Fin H2)\/(J.go i H2/\∀y H3,J.yld i H2 y H3 ->
    te (some y::σ) H3 λv H4=>H4 D=some (.lst xs)/\∃m',m'<m/\W (i+1) m' (xs++[v]) (upd H4 D (.lst (xs++[v])))))) :
  ∃W:Nat->Nat->List V->Hp->Prop,(∃m,W 0 m [] (upd H D (.lst []))) /\
   ∀i m xs H2,W i m xs H2->H2 D=some (.lst xs)/\xs.length<sizeLine/\((J.stop i H2/\Fin H2)\/(J.go i H2/\∀y H3,J.yld i H2 y H3->∀os:St,os.length=1 ->
    qg8 0 y (os++σ) H3 λσ4 H4=>qR7 σ4 H4 λb H5=>if b=true then te σ4 H5 (λv H6=>H6 D=some (.lst xs)/\∃m',m'<m/\W (i+1) m' (xs++[v]) (upd H6 D (.lst (xs++[v])))) else ∃m',m'<m/\W (i+1) m' xs H5)):=by
 obtain⟨W,h0,hw⟩:=h;refine⟨W,h0,λi m xs H2 w=>?_⟩;obtain⟨a,b,c⟩:=hw i m xs H2 w;refine⟨a,b,c.imp id λ⟨g,k⟩=>⟨g,λy H3 hy os ho=>?_⟩⟩
 match os,ho with
 |[o],_=>exact iteT (B:=∃m',m'<m/\W (i+1) m' xs H3) (k y H3 hy)
end L2
namespace Pr
open PySem L2 Qf
def Kn (H:Hp) (kn:Addr) (rows:List Row) (L:List Tr) (m:Nat):Prop:=∃kvs,H kn=some (.dK kvs)/\kvs.length<=m/\∀(x:Nat) v,valV kvs (.inl (x:Int))=some v->x<rows.length+2/\Tr.In L (T rows x)/\v=.int (Tr.name L (T rows x):Nat)
theorem Kn.post {H:Hp}{kn:Addr}{rows:List Row}{L:List Tr}{m:Nat}(h:Kn H kn rows L m) (od:Tr.Ord L) (t:Tr):Kn H kn rows (Tr.post t L) m:=by
 obtain⟨kvs,e,hl,k⟩:=h;refine⟨kvs,e,hl,λx v hv=>?_⟩;obtain⟨k1,k2,k3⟩:=k x v hv;obtain⟨s,es⟩:=Tr.post_ext t L;exact⟨k1,k2.post t,by rw[es,Tr.name_app k2 od];exact k3⟩
section
variable {P:Program}{w:World}{K:PySem.W.Frag}{mg:Str->Option Value}{base:Heap}
abbrev nTk:List Str:=["_law_rows", "_law_shape_here", "_law_number_here", "_law_known", "_law_quarters"]
abbrev nTk4:List Str:=["_law_rows", "_law_shape_here", "_law_number_here", "_law_known"]
theorem scTk:FnScope nTk nTk4 (qa3 qM7):=qd0
def spTk (d:Nat):Sp:=λvs H Q _=>∃(e t kn:Addr) (n tp x m:Nat) (rows:List Row) (L:List Tr),vs=[.ref e,.ref t,.int (x:Nat),.ref kn]/\TellAt H t n tp rows/\qb7 rows/\(∀r∈rows,¬qh3 r)/\x<rows.length+2/\dp rows x<=d/\Tr.Ord L/\H e=some (.dT (tK (Tr.rowsOf L)))/\Kn H kn rows L m/\L.length+nds (T rows x)<=5000000/\m+nds (T rows x)<=5000000 /\
 ∀H',But2 e kn H H'->H' e=some (.dT (tK (Tr.rowsOf (Tr.post (T rows x) L))))->Kn H' kn rows (Tr.post (T rows x) L) (m+nds (T rows x))->Q (.int (Tr.name (Tr.post (T rows x) L) (T rows x):Nat)) H'
theorem xG9 {f fK:Addr}{fd fdK:FuncData}(F:Fun K "_law_taken" "_law_taken" qM7 f fd) (B:Blt mg) (hG:mg "_law_taken" = some (.ref f)) (bG:Binds K fd nTk4 [])
  (hK:mg "_law_kept" = some (.ref fK)) (FK:Fun K "_law_kept" "_law_kept" xb5 fK fdK) (bK:Binds K fdK ["_law_rows", "_law_quarters"] []):∀d,d<=12->FnOk P w K mg base CX0 (d+2) f fd nTk4 (spTk d)
 |0,_=>by
  refine F.ok scTk (λvs H Q E h=>?_) (λcdv A outer s H vs Q E hr h=>?_)
  ·obtain⟨e,t,kn,n,tp,x,m,rows,L,rfl,_⟩:=h
   rfl
  ·obtain⟨e,t,kn,n,tp,x,m,rows,L,rfl,hT,ok,np,hx,hd,od,he,vB,_,_,q⟩:=h;have x2:=qB8 ok hx hd;refine seqE ⟨_,⟨qc9 (qb2 qn8 (pv 2) qa5 (qb4 _)) (qa8 (qa9 (pv 2))) qb1⟩,?_⟩;refine⟨_,qc3,_,rfl,_,_,rfl,rfl,_,rfl,?_⟩;rw[Zj (by lia)];have hkn':∀t,t=Tr.z\/t=Tr.o->Kn H kn rows (Tr.post t L) (m+nds t):=λt ht=>by
    obtain⟨kvs,e1,e2,e3⟩:=vB;rcases ht with rfl|rfl<;>exact⟨kvs,e1,by lia,e3⟩
   match x,x2 with
   |0,_=>
    rw[qi1] at q;exact iteT ⟨_,rfl,q H (But2.refl _ _ _) he (hkn' _ (.inl rfl))⟩
   |1,_=>
    rw[qo2] at q;exact iteT ⟨_,rfl,q H (But2.refl _ _ _) he (hkn' _ (.inr rfl))⟩
 |d+1,hd12=>by
  have GI:=xG9 F B hG bG hK FK bK d (by lia);have GK:FnOk P w K mg base CX0 1 fK fdK ["_law_rows", "_law_quarters"] spKp:=xG8 FK B;refine F.ok scTk (λvs H Q E h=>?_) (λcdv A outer s H vs Q E hr h=>?_)
  ·obtain⟨e,t,kn,n,tp,x,m,rows,L,rfl,_⟩:=h
   rfl
  ·obtain⟨e,t,kn,n,tp,x,m,rows,L,rfl,hT,ok,np,hx,hd,od,he,vB,hl1,jP,q⟩:=h;have jD:Room 1 _:=hr.mono (by lia);have hu:A.units+3+1<cLine:=by
    have h2:A.units+3+16*(d+2)+200<cLine:=hr.un;lia
   refine seqE ⟨_,⟨qc9 (qb2 qn8 (pv 2) qa5 (qb4 _)) (qa8 (qa9 (pv 2))) qb1⟩,?_⟩;refine seqE ⟨_,⟨qc9 (qA7 (qp1 hu (pv 2) (pv 3)))
    (StB.go (.cons ⟨qS2 (i0:=4) nTk (qa3 qM7) rfl rfl rfl scTk.nd rfl rfl (piT K rfl (pxN ix_tup (pxN ix_tup (pv 1) qa5) (qb0 qe0 (pv 2) qa5)))
      (λcl C fp s₀ H₀=>PEb.go ⟨pcN GI hr hG F.kp bG (Ars2.go (.cons ⟨pv 1⟩ (.cons ⟨pv 2⟩ (.cons ⟨pv 0⟩ (.cons ⟨pv 4⟩ .nil rfl) rfl) rfl) rfl))⟩)⟩
     (.one ⟨qs3 hu (pv 3) (pv 2) (pcN GK jD hK FK.kp bK (qa0 (pv 0) (qa0 (qc1 (tupO K rfl) (by rfl) B.tuple ZH (qa0 (pv 4) qa2)) qa2))) (by rfl)⟩))) qb1⟩,?_⟩
   refine qe5 ⟨_,⟨qa9 (qs2 hu (pv 3) (pv 2) (λ_ _=>rfl))⟩,?_⟩;obtain⟨kvs,vC,wJ,vH⟩:=id vB;have nek:e≠kn:=qD3 he vC (λz=>nomatch z);refine⟨_,rfl,_,_,rfl,rfl,_,rfl,?_⟩;refine ite2 (λhc=>?_) (λhc=>?_)
   ·have x2:x<2:=by have:=Zq hc;lia
    have hkn':∀t,t=Tr.z\/t=Tr.o->Kn H kn rows (Tr.post t L) (m+nds t):=λt ht=>by
     rcases ht with rfl|rfl<;>exact⟨kvs,vC,by lia,vH⟩
    match x,x2 with
    |0,_=>
     rw[qi1] at q;exact⟨_,rfl,q H (But2.refl _ _ _) he (hkn' _ (.inl rfl))⟩
    |1,_=>
     rw[qo2] at q;exact⟨_,rfl,q H (But2.refl _ _ _) he (hkn' _ (.inr rfl))⟩
   have x2:¬x<2:=λz=>hc (Zj (by lia));obtain⟨pl,a0,a1,a2,a3,rfl,jF⟩:=qu2 ok hx x2;refine⟨_,rfl,_,rfl,kn,_,rfl,DGet.k (k:=.inl ((pl+2:Nat):Int)) vC,_,rfl,?_⟩;cases hv:valV kvs (.inl ((pl+2:Nat):Int)) with
   |some v=>
    obtain⟨k1,k2,rfl⟩:=vH (pl+2) v hv;refine iteF ?_;rw[qh1 k2] at q;have dg:=DGet.k (k:=.inl ((pl+2:Nat):Int)) vC;rw[hv] at dg;exact⟨_,rfl,_,rfl,kn,_,rfl,dg,q H (But2.refl _ _ _) he ⟨kvs,vC,by lia,vH⟩⟩
   |none=>
    refine iteT ?_;obtain⟨rp,ht,hR⟩:=id hT;obtain⟨bs,wF,kK,jB⟩:=id hR;have hpb:pl<bs.length:=by rw[kK];exact (gS_ jF).1
    have hbp:bs[pl]?=some bs[pl]:=Zb hpb;have hrw:=jB pl _ _ hbp jF;have hTr:T rows (pl+2)=.nd (T rows a0) (T rows a1) (T rows a2) (T rows a3):=qq3 ok jF;have hN:nds (T rows (pl+2))=1+nds (T rows a0)+nds (T rows a1)+nds (T rows a2)+nds (T rows a3):=by rw[hTr];rfl
    have kY:=xE6 ok np (pl+2) hx;have kQ:mk (T rows a0) (T rows a1) (T rows a2) (T rows a3)=T rows (pl+2):=by
     rw[hTr] at kY ⊢;unfold mk;rw[Zm kY.1,Zm kY.2.1]
    have jL:∀a∈[a0,a1,a2,a3],a<rows.length+2/\dp rows a<=d:=λa ha=>by
     obtain⟨h1,h2,h3,h4⟩:=xJ9 ok jF;obtain⟨g1,g2,g3,g4⟩:=xy1 ok jF hd;have:a=a0\/a=a1\/a=a2\/a=a3:=by simpa using ha
     rcases this with rfl|rfl|rfl|rfl
     ·exact⟨h1,g1⟩
     ·exact⟨h2,g2⟩
     ·exact⟨h3,g3⟩
     ·exact⟨h4,g4⟩
    have tks:∀i,(([a0,a1,a2,a3].take i).map λa=>nds (T rows a)).sum+1<=nds (T rows (pl+2)):=λi=>by
     rw[hN]
     match i with
     |0=>show 0+1<=_;lia
     |1=>simp;lia
     |2=>simp;lia
     |3=>simp;lia
     |i+4=>simp;lia
    have tup2:∀{H2:Hp}{b:Addr}{u:List V},But2 e kn H H2->H b=some (.tup u)->H2 b=some (.tup u):=λ{H2 b u} B2 hb=>B2 _ _ hb (qD3 hb he (λz=>nomatch z)) (qD3 hb vC (λz=>nomatch z));refine⟨_,rfl,t,_,2,.ref rp,rfl,rfl,SqT.of ht,rfl,_,rfl,_,_,rfl,rfl,rp,_,((pl:Nat):Int),.ref bs[pl],rfl,Yi V.int (by lia),SqT.of wF,qd8 (by rw[Zg,hbp];rfl),bs[pl],rfl,⟨_,SqT.of hrw⟩,λD hD=>xj1 (xi9 (K:=K) (us:=vN [a0,a1,a2,a3]) (λi xs H2=>∃Li mi,Li=([a0,a1,a2,a3].take i).foldl (λM a=>Tr.post (T rows a) M) L/\Tr.Ord Li/\H2 e=some (.dT (tK (Tr.rowsOf Li)))/\Kn H2 kn rows Li mi/\(∀a∈[a0,a1,a2,a3].take i,Tr.In Li (T rows a)) /\
      xs=vN (([a0,a1,a2,a3].take i).map λa=>Tr.name Li (T rows a))/\H2 D=some (.lst xs)/\But2 e kn H H2/\Li.length<=L.length+(([a0,a1,a2,a3].take i).map λa=>nds (T rows a)).sum/\mi<=m+(([a0,a1,a2,a3].take i).map λa=>nds (T rows a)).sum) (by show 4<sizeLine;decide) ?_ ?_ ?_ ?_)⟩
    ·exact⟨L,m,rfl,od,qc0 he hD,⟨kvs,qc0 vC hD,wJ,vH⟩,λa ha=>by simp at ha,rfl,qa1,But2.of (qb3 hD),ZO _ _,ZO _ _⟩
    ·rintro i xs H2 ⟨Li,mi,_,_,_,_,_,rfl,kM,B2,_,_⟩;refine⟨kM,?_,SqT.of (tup2 B2 hrw)⟩;rw[qf3,Zi,ZS];exact Nat.min_le_left _ _
    ·rintro i xs y H2 hy ⟨Li,mi,eL,ho2,kE,hkn2,hin2,rfl,kM,B2,jP,wS⟩ Q2 hq;unfold vN at hy;rw[Zg] at hy;obtain⟨a,ha,rfl⟩:=Zr.mp hy;obtain⟨ha1,ha2⟩:=jL a (Zs ha);have htk:[a0,a1,a2,a3].take (i+1)=[a0,a1,a2,a3].take i++[a]:=by rw[XY,ha];rfl
     have hns:(([a0,a1,a2,a3].take (i+1)).map λa=>nds (T rows a)).sum=(([a0,a1,a2,a3].take i).map λa=>nds (T rows a)).sum+nds (T rows a):=by
      rw[htk,ZR,List.sum_append];simp
     have hts:=tks (i+1);have nDe:D≠e:=(qa4 he hD).symm;have nDk:D≠kn:=(qa4 vC hD).symm;have hT2:TellAt H2 t n tp rows:=hT.mono λb u h=>tup2 B2 h;refine⟨_,rfl,_,rfl,_,rfl,_,rfl,e,t,kn,n,tp,a,mi,rows,Li,rfl,hT2,ok,np,ha1,ha2,ho2,kE,hkn2,by lia,by lia,λH3 B3 vF kn3=>?_⟩;have hD3:=B3 _ _ kM nDe nDk;obtain⟨ho3,hi3⟩:=Tr.post_ord (T rows a) Li ho2;obtain⟨e3,hx3⟩:=Tr.post_ext (T rows a) Li;have wV:=qj2 (T rows a) Li;obtain⟨kv3,ke3,kl3,kk3⟩:=kn3;refine hq _ _ hD3 ⟨Tr.post (T rows a) Li,mi+nds (T rows a),by rw[htk,Vf,<- eL];rfl,ho3,by rw[qa7 (Z0 nDe)];exact vF,⟨kv3,by rw[qa7 (Z0 nDk)];exact ke3,kl3,kk3⟩,?_,?_,qa1,?_,?_,?_⟩
     ·intro a' ha';rw[htk] at ha';rcases Z1.mp ha' with z|z
      ·rw[hx3];exact (hin2 a' z).app
      ·have:a'=a:=by simpa using z
       rw[this];exact hi3
     ·rw[htk,ZR];unfold vN;rw[ZR];congr 1;refine Yi (List.map _) (YB λa' ha'=>?_);rw[hx3];exact (Tr.name_app (hin2 a' ha') ho2).symm
     ·intro x o e' n1 n2;rw[qa7 (qa4 e' hD)];exact B3 _ _ (B2 _ _ e' n1 n2) n1 n2
     ·rw[hns];lia
     ·rw[hns];lia
    ·rintro xs H2 ⟨L4,m4,eL,ho4,kT,vA,hin4,rfl,kM,B2,vJ,wI⟩;have h4:(vN [a0,a1,a2,a3]).length=4:=rfl;rw[h4] at hin4 vJ wI kM eL;have t4:=tks 4;have eL':L4=Tr.post (T rows a3) (Tr.post (T rows a2) (Tr.post (T rows a1) (Tr.post (T rows a0) L))):=eL;refine⟨_,rfl,_,rfl,D,_,rfl,.inl ⟨SqL.of kM,λu wO=>?_⟩⟩;have hu5:upd H2 u (.tup (vN (([a0,a1,a2,a3].take 4).map λa=>Tr.name L4 (T rows a)))) u=some (.tup (vN [Tr.name L4 (T rows a0),Tr.name L4 (T rows a1),Tr.name L4 (T rows a2),Tr.name L4 (T rows a3)])):=qa1;refine⟨e,u,L,L4,T rows a0,T rows a1,T rows a2,T rows a3,rfl,od,eL',qc0 kT wO,hu5,by lia,λH6 B6 jO=>?_⟩;rw[kQ] at jO ⊢;obtain⟨kv4,ke4,kl4,kk4⟩:=id vA;have ke6:H6 kn=some (.dK kv4):=B6 _ _ (qc0 ke4 wO) (Z0 nek);have hlk:=qj8 kv4 (.inl ((pl+2:Nat):Int)) (.int (Tr.name (Tr.post (T rows (pl+2)) L) (T rows (pl+2)):Nat));refine⟨_,rfl,_,rfl,kn,_,rfl,DPut.k (k:=.inl ((pl+2:Nat):Int)) ke6 (Yg (show kv4.length<=6000000 by lia) (by decide)),?_⟩;have hval:valV (putK kv4 (.inl ((pl+2:Nat):Int)) (.int (Tr.name (Tr.post (T rows (pl+2)) L) (T rows (pl+2)):Nat))) (.inl ((pl+2:Nat):Int))=some (.int (Tr.name (Tr.post (T rows (pl+2)) L) (T rows (pl+2)):Nat)):=by rw[qU9,Zt rfl]
     have dg:=DGet.k (k:=.inl ((pl+2:Nat):Int)) (qa1 (H:=H6) (a:=kn) (o:=.dK (putK kv4 (.inl ((pl+2:Nat):Int)) (.int (Tr.name (Tr.post (T rows (pl+2)) L) (T rows (pl+2)):Nat)))));rw[hval] at dg;obtain⟨hoP,hiP⟩:=Tr.post_ord (T rows (pl+2)) L od;have hext:∀s,Tr.In L4 s->Tr.In (Tr.post (T rows (pl+2)) L) s/\Tr.name (Tr.post (T rows (pl+2)) L) s=Tr.name L4 s:=λs hs=>by
      have hpm:=xj0 od (T rows a0) (T rows a1) (T rows a2) (T rows a3);rw[<- eL',kQ] at hpm;obtain⟨e5,hx5,_⟩:=qA1 (T rows (pl+2)) L4;rw[hpm,hx5];exact⟨hs.app,Tr.name_app hs ho4⟩
     refine⟨_,rfl,_,rfl,kn,_,rfl,dg,q _ (λx o h n1 n2=>?_) (by rw[qa7 nek];exact jO) ⟨_,qa1,by lia,λy v hy=>?_⟩⟩
     ·rw[qa7 n2];exact B6 _ _ (qc0 (B2 _ _ h n1 n2) wO) n1
     ·rw[qU9] at hy;split at hy
      ·rename_i hyy;have:y=pl+2:=by
        have:=WG hyy;lia
       subst this;cases hy;exact⟨hx,hiP,rfl⟩
      ·obtain⟨g1,g2,g3⟩:=kk4 y v hy;obtain⟨g4,g5⟩:=hext _ g2;exact⟨g1,g4,by rw[g5];exact g3⟩
end
end Pr
namespace Qf
open Tr
def pq (t:Tr) (d:Nat) (ds:List Nat) (u:Tr) (i:Nat):Tr:=if d=i then putT (qr d t) ds u else qr i t
theorem xu4 (t:Tr) (d:Nat) (ds:List Nat) (u:Tr):putT t (d::ds) u=mk (pq t d ds u 0) (pq t d ds u 1) (pq t d ds u 2) (pq t d ds u 3):=rfl
theorem q01:∀(t:Tr),nds (qr 0 t)+nds (qr 1 t)+nds (qr 2 t)+nds (qr 3 t)<=nds t
 |.z=>Zd _
 |.o=>Zd _
 |.nd a b c d=>by
  show nds a+nds b+nds c+nds d<=1+nds a+nds b+nds c+nds d;lia
theorem qI1:∀(ds:List Nat) (t u:Tr),(∀d∈ds,d<4)->nds (putT t ds u)<=nds t+nds u+ds.length
 |[],t,u,_=>by show nds u<=nds t+nds u+0;lia
 |d::ds,t,u,hd=>by
  have ih:=qI1 ds (qr d t) u λx hx=>hd x (Ze _ hx);have h4:=q01 t;rw[xu4];have hm:=xd7 (pq t d ds u 0) (pq t d ds u 1) (pq t d ds u 2) (pq t d ds u 3);show _<=nds t+nds u+(ds.length+1);have jN:=hd d Zh;have key:nds (pq t d ds u 0)+nds (pq t d ds u 1)+nds (pq t d ds u 2)+nds (pq t d ds u 3)<=nds t+nds u+ds.length:=by
   match d,jN,ih with
   |0,_,ih=>show nds (putT (qr 0 t) ds u)+nds (qr 1 t)+nds (qr 2 t)+nds (qr 3 t)<=_;lia
   |1,_,ih=>show nds (qr 0 t)+nds (putT (qr 1 t) ds u)+nds (qr 2 t)+nds (qr 3 t)<=_;lia
   |2,_,ih=>show nds (qr 0 t)+nds (qr 1 t)+nds (putT (qr 2 t) ds u)+nds (qr 3 t)<=_;lia
   |3,_,ih=>show nds (qr 0 t)+nds (qr 1 t)+nds (qr 2 t)+nds (putT (qr 3 t) ds u)<=_;lia
  lia
def pL (L:List Tr) (P:Nat->Tr):Nat->List Tr
 |0=>L
 |i+1=>post (P i) (pL L P i)
theorem qP5 {L:List Tr}{P:Nat->Tr}(h:Ord L):∀i,Ord (pL L P i)
 |0=>h
 |i+1=>(post_ord (P i) _ (qP5 h i)).1
theorem xH0 {L:List Tr}{P:Nat->Tr}(h:Ord L){j:Nat}:∀i,j<i->In (pL L P i) (P j)
 |0,hj=>absurd hj (Yj _)
 |i+1,hj=>by
  rcases Nat.lt_or_eq_of_le (Xm hj) with z|z
  ·exact (xH0 h i z).post (P i)
  ·subst z;exact (post_ord (P j) _ (qP5 h j)).2
theorem xA7 {L:List Tr}{P:Nat->Tr}(h:Ord L){i:Nat}{t:Tr}(ht:In (pL L P i) t):name (pL L P (i+1)) t=name (pL L P i) t:=by
 obtain⟨s,e⟩:=post_ext (P i) (pL L P i);show name (post (P i) (pL L P i)) t=_;rw[e];exact name_app ht (qP5 h i)
def nmL (L:List Tr) (P:Nat->Tr) (i:Nat):List Nat:=(List.range i).map λj=>name (pL L P i) (P j)
theorem xp9 {L:List Tr}{P:Nat->Tr}(h:Ord L) (i:Nat):nmL L P (i+1)=nmL L P i++[name (pL L P (i+1)) (P i)]:=by
 unfold nmL;rw[Xi,ZR];congr 1;exact YB λj hj=>xA7 h (xH0 h i (ZW.mp hj))
def wq (t:Tr) (d y:Nat):Nat->Nat
 |0=>0
 |i+1=>wq t d y i+(nds (qr i t)+if d=i then y else 0)
theorem xH1 {t:Tr}{d y i:Nat}(hd:d<4) (hi:i<4):wq t d y (i+1)<=nds t+y:=by
 have h4:=q01 t
 match d,hd,i,hi with
 |0,_,0,_|0,_,1,_|0,_,2,_|0,_,3,_|1,_,0,_|1,_,1,_|1,_,2,_|1,_,3,_|2,_,0,_|2,_,1,_|2,_,2,_|2,_,3,_|3,_,0,_|3,_,1,_|3,_,2,_|3,_,3,_=>simp[wq];lia
end Qf
namespace Pr
open PySem L2 Qf
section
variable {P:Program}{w:World}{K:PySem.W.Frag}{mg:Str->Option Value}{base:Heap}
abbrev nMx:List Str:=["_law_rows", "_law_shape_here", "_law_number_here", "_law_address_here", "_law_other", "_law_known", "_law_quarters", "_law_found", "_law_place"]
abbrev nMx6:List Str:=["_law_rows", "_law_shape_here", "_law_number_here", "_law_address_here", "_law_other", "_law_known"]
theorem scMx:FnScope nMx nMx6 (qa3 qW7):=qd0
structure MxA where
 e:Addr
 t:Addr
 o:Addr
 kn:Addr
 n:Nat
 tp:Nat
 x:Nat
 n3:Nat
 tq:Nat
 m:Nat
 ds:List Nat
 rows:List Row
 rows3:List Row
 L:List Tr
def MxP (k:Nat) (H:Hp) (a:MxA):Prop:=a.ds.length=k/\k<=12/\(∀d∈a.ds,d<4) /\
 TellAt H a.t a.n a.tp a.rows/\qb7 a.rows/\(∀r∈a.rows,¬qh3 r)/\a.x<a.rows.length+2/\dp a.rows a.x<=12/\TellAt H a.o a.n3 a.tq a.rows3/\qb7 a.rows3/\(∀r∈a.rows3,¬qh3 r)/\a.tq<a.rows3.length+2/\dp a.rows3 a.tq<=12 /\
 Tr.Ord a.L/\H a.e=some (.dT (tK (Tr.rowsOf a.L)))/\Kn H a.kn a.rows a.L a.m/\a.L.length+nds (T a.rows a.x)+nds (T a.rows3 a.tq)+k<=4000000/\a.m+nds (T a.rows a.x)<=4000000
def MxR (H:Hp) (a:MxA) (H':Hp):Prop:=But2 a.e a.kn H H'/\H' a.e=some (.dT (tK (Tr.rowsOf (Tr.post (putT (T a.rows a.x) a.ds (T a.rows3 a.tq)) a.L))))/\Kn H' a.kn a.rows (Tr.post (putT (T a.rows a.x) a.ds (T a.rows3 a.tq)) a.L) (a.m+nds (T a.rows a.x))
def spMx (k:Nat):Sp:=λvs H Q _=>∃a:MxA,vs=[.ref a.e,.ref a.t,.int (a.x:Nat),.str (txt a.ds),.ref a.o,.ref a.kn]/\MxP k H a /\
 ∀H',MxR H a H'->Q (.int (Tr.name (Tr.post (putT (T a.rows a.x) a.ds (T a.rows3 a.tq)) a.L) (putT (T a.rows a.x) a.ds (T a.rows3 a.tq)):Nat)) H'
theorem q02 {k:Nat}{vs:List V}{H:Hp}{Q:V->Hp->Prop}{E} (h:spMx k vs H Q E):vs.length=nMx6.length:=by
 obtain⟨a,rfl,_⟩:=h
 rfl
theorem xH2 {f fT fK:Addr}{fd fdT fdK:FuncData}(F:Fun K "_law_mixed" "_law_mixed" qW7 f fd) (B:Blt mg) (hG:mg "_law_mixed" = some (.ref f)) (bG:Binds K fd nMx6 [])
  (hT:mg "_law_taken" = some (.ref fT)) (FT:Fun K "_law_taken" "_law_taken" qM7 fT fdT) (bT:Binds K fdT nTk4 []) (GT:∀d,d<=12->FnOk P w K mg base CX0 (d+2) fT fdT nTk4 (spTk d))
  (hK:mg "_law_kept" = some (.ref fK)) (FK:Fun K "_law_kept" "_law_kept" xb5 fK fdK) (bK:Binds K fdK ["_law_rows", "_law_quarters"] []):∀k,FnOk P w K mg base CX0 (k+15) f fd nMx6 (spMx k)
 |0=>by
  have G12:=GT 12 (by decide);refine F.ok scMx (λvs H Q E h=>?_) (λcdv A outer s H vs Q E hr h=>?_)
  ·exact q02 h
  ·obtain⟨⟨e,t,o,kn,n,tp,x,n3,tq,m,ds,rows,rows3,L⟩,hv,p,q⟩:=h;have hv:vs=[.ref e,.ref t,.int (x:Nat),.str (txt ds),.ref o,.ref kn]:=hv;subst hv;unfold MxP at p;dsimp only at p q;obtain⟨hl,_,_,hTl,ok,np,hx,wZ,hTo,ok3,np3,hq3,jV,od,he,vB,kF,kB⟩:=p;have q:∀H',But2 e kn H H'->H' e=some (.dT (tK (Tr.rowsOf (Tr.post (putT (T rows x) ds (T rows3 tq)) L))))->Kn H' kn rows (Tr.post (putT (T rows x) ds (T rows3 tq)) L) (m+nds (T rows x))->Q (.int (Tr.name (Tr.post (putT (T rows x) ds (T rows3 tq)) L) (putT (T rows x) ds (T rows3 tq)):Nat)) H':=λH' a b c=>q H' ⟨a,b,c⟩;have e0:=XA.mp hl;subst e0;refine seqE ⟨_,⟨qc9 (qb2 qw5 (pv 3) qc2 (qb4 _)) (qa8 (qa9 (pcN G12 hr hT FT.kp bT (Ars2.go (.cons ⟨pv 0⟩ (.cons ⟨pv 4⟩ (.cons ⟨pxN ix_tup (pv 4) qa5⟩ (.cons ⟨qp9⟩ .nil rfl) rfl) rfl) rfl))))) qb1⟩,?_⟩;refine⟨_,qc3,_,rfl,rfl,_,rfl,?_⟩;rw[Zj (show V.str (txt [])=V.str "" by decide +kernel)];obtain⟨rp3,ht3,vZ⟩:=id hTo;obtain⟨kvs,vC,wJ,vH⟩:=id vB;have nek:e≠kn:=qD3 he vC (λz=>nomatch z);refine iteT ⟨_,rfl,_,rfl,_,rfl,o,_,1,.int (tq:Nat),rfl,rfl,SqT.of ht3,rfl,λkd vQ=>?_⟩;have nkd:kn≠kd:=qa4 vC vQ;refine⟨e,o,kd,n3,tq,tq,0,rows3,L,rfl,hTo.mono (qb3 vQ).tups,ok3,np3,hq3,jV,od,qc0 he vQ,⟨[],qa1,Zd _,λx v hv=>by cases hv⟩,by lia,by lia,λH2 B2 kE _=>?_⟩;have hk2:H2 kn=some (.dK kvs):=B2 _ _ (qc0 vC vQ) (Z0 nek) nkd;refine q H2 (λy u h n1 n2=>B2 _ _ (qc0 h vQ) n1 (qa4 h vQ)) kE ?_;have:=(show Kn H2 kn rows L m from ⟨kvs,hk2,wJ,vH⟩).post od (T rows3 tq);obtain⟨a1,a2,a3,a4⟩:=this;exact⟨a1,a2,by lia,a4⟩
 |k+1=>by
  have GI:=xH2 F B hG bG hT FT bT GT hK FK bK k;have G12:=GT 12 (by decide);have GK:FnOk P w K mg base CX0 1 fK fdK ["_law_rows", "_law_quarters"] spKp:=xG8 FK B;refine F.ok scMx (λvs H Q E h=>?_) (λcdv A outer s H vs Q E hr h=>?_)
  ·exact q02 h
  ·obtain⟨⟨e,t,o,kn,n,tp,x,n3,tq,m,ds,rows,rows3,L⟩,hv,p,q⟩:=h;have hv:vs=[.ref e,.ref t,.int (x:Nat),.str (txt ds),.ref o,.ref kn]:=hv;subst hv;unfold MxP at p;dsimp only at p q;obtain⟨hl,hk12,j9,hTl,ok,np,hx,wZ,hTo,ok3,np3,hq3,jV,od,he,vB,kF,kB⟩:=p;have q:∀H',But2 e kn H H'->H' e=some (.dT (tK (Tr.rowsOf (Tr.post (putT (T rows x) ds (T rows3 tq)) L))))->Kn H' kn rows (Tr.post (putT (T rows x) ds (T rows3 tq)) L) (m+nds (T rows x))->Q (.int (Tr.name (Tr.post (putT (T rows x) ds (T rows3 tq)) L) (putT (T rows x) ds (T rows3 tq)):Nat)) H':=λH' a b c=>q H' ⟨a,b,c⟩;have jD:Room 1 _:=hr.mono (by lia);have hr14:Room 14 _:=hr.mono (by lia)
   match ds,hl with
   |d::ds,hl=>
   have hl:ds.length=k:=by simpa using hl
   have jN:=j9 d Zh;have hds':∀y∈ds,y<4:=λy hy=>j9 y (Ze _ hy);refine seqE ⟨_,⟨qc9 (qb2 qw5 (pv 3) qc2 (qb4 _)) qc3 qb1⟩,?_⟩;refine seqE ⟨_,⟨psN 6 scMx.nd (qb0 qR8 (qg0 (qa0 (pv 2) qa2)) qa5)⟩,?_⟩;refine xK5 ⟨_,⟨qc9 (qb2 xB7 (pv 2) qa5 (qb4 _)) (qa8 (psN 6 scMx.nd (pxN ix_tup (pxN ix_tup (pv 1) qa5) (qb0 qe0 (pv 2) qa5)))) qb1⟩,?_⟩;refine seqE ⟨_,⟨psN 7 scMx.nd (qg1 qa2)⟩,?_⟩;refine seqE ⟨_,⟨qo6 YS rfl (qh7 (by rfl) B.range (qa0 qa5 qa2)) (pgN 8 scMx.nd)
    (qa8 (qc9 (qb2 qw5 (pxN qt5 qc2 (pv 8)) (PEb.go ⟨pxN qt5 (pv 3) qa5⟩) (qb4 _))
     (qa8 (qf0 (PEb.go (qu4 ZY Z7 Z8 qe4 ⟨pv 7⟩ (.cons ⟨pcN GI hr hG F.kp bG (Ars2.go (.cons ⟨pv 0⟩ (.cons ⟨pv 1⟩ (.cons ⟨pxN ix_tup (pv 6) (pv 8)⟩ (.cons ⟨qv0 qD0 (pv 3) (qE0 qa5) qD9⟩ (.cons ⟨pv 4⟩ (.cons ⟨pv 5⟩ .nil rfl) rfl) rfl) rfl) rfl) rfl))⟩ .nil rfl)))))
     (qa8 (qf0 (PEb.go (qu4 ZY Z7 Z8 qe4 ⟨pv 7⟩ (.cons ⟨pcN G12 hr14 hT FT.kp bT (Ars2.go (.cons ⟨pv 0⟩ (.cons ⟨pv 1⟩ (.cons ⟨pxN ix_tup (pv 6) (pv 8)⟩ (.cons ⟨pv 5⟩ .nil rfl) rfl) rfl) rfl))⟩ .nil rfl)))))))⟩,?_⟩
   refine qe5 ⟨_,⟨qa9 (pcN GK jD hK FK.kp bK (qa0 (pv 0) (qa0 (qc1 (tupO K rfl) (by rfl) B.tuple ZH (qa0 (pv 7) qa2)) qa2)))⟩,?_⟩;obtain⟨rp,ht,hR⟩:=id hTl;obtain⟨bs,wF,kK,jB⟩:=id hR;obtain⟨kvs,vC,wJ,vH⟩:=id vB;have nek:e≠kn:=qD3 he vC (λz=>nomatch z);have v0:(txt (d::ds)).length<=sizeLine:=ZT (qb5 (by rw[qd2];simp;lia));refine⟨_,rfl,rfl,_,rfl,?_⟩;rw[Zp (show ¬V.str (txt (d::ds))=V.str "" from λz=>by
    have:=Yi Str.length (V.str.inj z);rw[qd2,show ("" : Str).length=0 by decide +kernel] at this;exact absurd this (by simp))]
   refine iteF ?_;refine⟨_,rfl,(by show 1<=sizeLine;decide),λb0 hb0=>⟨b0,4,_,rfl,rfl,qa1,by decide,by decide,λb1 hb1'=>?_⟩⟩;have S2:Same H (upd (upd H b0 (.tup [.int (x:Nat)])) b1 (.tup (List.replicate (4:Int).toNat (.int (x:Nat))))):=(qb3 hb0).trans (qb3 hb1');refine⟨λσ' H'=>∃b,σ'=[some (.ref e),some (.ref t),some (.int (x:Nat)),some (.str (txt (d::ds))),some (.ref o),some (.ref kn),some (.ref b),none,none]/\Same H H'/\H' b=some (.tup (vN (qrow rows x))),?_,?_⟩
   ·refine⟨_,rfl,_,_,rfl,rfl,_,rfl,?_⟩;refine ite2 (λhc=>?_) (λhc=>?_)
    ·have x2:¬x<2:=by have:=Zq hc;lia
     have hpb:x-2<bs.length:=by lia
     have hbp:bs[x-2]?=some bs[x-2]:=Zb hpb;have hrw:=jB _ _ _ hbp (qf2 (by lia));refine⟨_,rfl,t,_,2,.ref rp,rfl,rfl,SqT.of (S2 _ _ ht),rfl,_,rfl,_,_,rfl,rfl,rp,_,((x-2:Nat):Int),.ref bs[x-2],rfl,Yi V.int (by lia),SqT.of (S2 _ _ wF),qd8 (by rw[Zg,hbp];rfl),bs[x-2],rfl,S2,?_⟩;unfold qrow;rw[Zm x2];exact S2 _ _ hrw
    ·have x2:x<2:=by
      by_cases z:x<2
      ·exact z
      ·exact absurd (Zj (by lia)) hc
     refine⟨b1,rfl,S2,?_⟩;unfold qrow;rw[Zt x2];exact qa1
   rintro σ' H3 ⟨b,rfl,S3,y7⟩;refine⟨by show 0<=sizeLine;decide,λFo vT=>?_⟩;have vF:=S3 _ _ he;have hk3:=S3 _ _ vC;have nFe:Fo≠e:=(qa4 vF vT).symm;have nFk:Fo≠kn:=(qa4 hk3 vT).symm;have hq4:∀i,i<4->∃y,(qrow rows x)[i]?=some y/\y<rows.length+2/\T rows y=qr i (T rows x)/\dp rows y<=12:=λi hi=>by
    have h1:=qG6 ok hx hi;obtain⟨g1,g2,g3⟩:=xe9 ok hx h1;exact⟨_,h1,g1,g2,by lia⟩
   have tupk:∀{H4:Hp}{y:Addr}{u:List V},(∀y u,H3 y=some u->y≠e->y≠kn->H4 y=some u)->H3 y=some (.tup u)->H4 y=some (.tup u):=λ{H4 y u} B hy=>B _ _ hy (qD3 hy vF (λz=>nomatch z)) (qD3 hy hk3 (λz=>nomatch z));generalize hPq:pq (T rows x) d ds (T rows3 tq)=Pq;have ePq:∀i,Pq i=if d=i then putT (qr d (T rows x)) ds (T rows3 tq) else qr i (T rows x):=λi=>by rw[<- hPq];rfl
   have wl:∀i,i<4->wq (T rows x) d (nds (T rows3 tq)+k) (i+1)<=nds (T rows x)+(nds (T rows3 tq)+k):=λi hi=>xH1 jN hi;have vl:∀i,i<4->wq (T rows x) d 0 (i+1)<=nds (T rows x)+0:=λi hi=>xH1 jN hi;refine⟨_,rfl,by decide,by decide,qJ0 (λi σ H4=>∃mi v8,σ=[some (.ref e),some (.ref t),some (.int (x:Nat)),some (.str (txt (d::ds))),some (.ref o),some (.ref kn),some (.ref b),some (.ref Fo),v8]/\H4 e=some (.dT (tK (Tr.rowsOf (pL L Pq i))))/\Kn H4 kn rows (pL L Pq i) mi/\H4 Fo=some (.lst (vN (nmL L Pq i))) /\
     (∀y u,H3 y=some u->y≠e->y≠kn->H4 y=some u)/\(pL L Pq i).length<=L.length+wq (T rows x) d (nds (T rows3 tq)+k) i/\mi<=m+wq (T rows x) d 0 i)
    ⟨m,none,rfl,qc0 vF vT,⟨kvs,qc0 hk3 vT,wJ,vH⟩,qa1,λy u h _ _=>qc0 h vT,ZO _ _,ZO _ _⟩ ?_ ?_⟩
   ·rintro i σ H4 hi ⟨mi,v8,rfl,kT,vA,hF4,B4,vJ,wI⟩;have wW:i<4:=hi;obtain⟨y,hy1,hy2,hy3,hy4⟩:=hq4 i wW;have w1:=wl i wW;have w2:=vl i wW;have e1:wq (T rows x) d (nds (T rows3 tq)+k) (i+1)=wq (T rows x) d (nds (T rows3 tq)+k) i+(nds (qr i (T rows x))+if d=i then nds (T rows3 tq)+k else 0):=rfl;have e2:wq (T rows x) d 0 (i+1)=wq (T rows x) d 0 i+(nds (qr i (T rows x))+if d=i then 0 else 0):=rfl;have e2':wq (T rows x) d 0 (i+1)=wq (T rows x) d 0 i+nds (qr i (T rows x)):=by rw[e2];split<;>rfl
    have hb4:=tupk B4 y7;have vI:TellAt H4 t n tp rows:=(hTl.mono S3.tups).mono λa u h=>tupk B4 h;have hTo4:TellAt H4 o n3 tq rows3:=(hTo.mono S3.tups).mono λa u h=>tupk B4 h;have odi:=qP5 (P:=Pq) od i;have nlen:(vN (nmL L Pq i)).length<=4:=by rw[qf3];unfold nmL;rw[Zi,XV];lia
    have fin:∀H5 mj,But2 e kn H4 H5->H5 e=some (.dT (tK (Tr.rowsOf (pL L Pq (i+1)))))->Kn H5 kn rows (pL L Pq (i+1)) mj->(pL L Pq (i+1)).length<=L.length+wq (T rows x) d (nds (T rows3 tq)+k) (i+1)->mj<=m+wq (T rows x) d 0 (i+1) ->
      H5 Fo=some (.lst (vN (nmL L Pq i)))/\∃mi v8',[some (V.ref e),some (.ref t),some (.int (x:Nat)),some (.str (txt (d::ds))),some (.ref o),some (.ref kn),some (.ref b),some (.ref Fo),some (.int (0+(i:Int)))]=[some (V.ref e),some (.ref t),some (.int (x:Nat)),some (.str (txt (d::ds))),some (.ref o),some (.ref kn),some (.ref b),some (.ref Fo),v8']/\upd H5 Fo (.lst (vN (nmL L Pq i)++[.int (Tr.name (pL L Pq (i+1)) (Pq i):Nat)])) e=some (.dT (tK (Tr.rowsOf (pL L Pq (i+1)))))/\Kn (upd H5 Fo (.lst (vN (nmL L Pq i)++[.int (Tr.name (pL L Pq (i+1)) (Pq i):Nat)]))) kn rows (pL L Pq (i+1)) mi/\upd H5 Fo (.lst (vN (nmL L Pq i)++[.int (Tr.name (pL L Pq (i+1)) (Pq i):Nat)])) Fo=some (.lst (vN (nmL L Pq (i+1)))) /\
       (∀y u,H3 y=some u->y≠e->y≠kn->upd H5 Fo (.lst (vN (nmL L Pq i)++[.int (Tr.name (pL L Pq (i+1)) (Pq i):Nat)])) y=some u)/\(pL L Pq (i+1)).length<=L.length+wq (T rows x) d (nds (T rows3 tq)+k) (i+1)/\mi<=m+wq (T rows x) d 0 (i+1):=λH5 mj B5 kR hk5 hl5 hm5=>by
     obtain⟨kv5,k1,k2,k3⟩:=hk5;refine⟨B5 _ _ hF4 nFe nFk,mj,_,rfl,by rw[qa7 (Z0 nFe)];exact kR,⟨kv5,by rw[qa7 (Z0 nFk)];exact k1,k2,k3⟩,?_,λy u h n1 n2=>?_,hl5,hm5⟩
     ·rw[qa1,xp9 od];unfold vN;rw[ZR]
      rfl
     ·rw[qa7 (qa4 h vT)];exact B5 _ _ (B4 y u h n1 n2) n1 n2
    have jF:(pL L Pq (i+1)).length<=(pL L Pq i).length+nds (Pq i):=qj2 (Pq i) (pL L Pq i);refine⟨_,rfl, "0123",0+(i:Int),48+i,rfl,rfl,qw2,by rw[WZ];exact qZ4 wW,?_⟩;refine⟨_,rfl,txt (d::ds),0,48+d,rfl,rfl,v0,by simp[txt,atI,ixN],rfl,_,rfl,?_⟩;by_cases hdi:d=i
    ·subst hdi;rw[Zj rfl];refine iteT ?_;rw[Zt rfl] at e1;have eP:Pq d=putT (qr d (T rows x)) ds (T rows3 tq):=by rw[ePq];exact Zt rfl
     have np1:=qI1 ds (qr d (T rows x)) (T rows3 tq) hds';rw[<- eP] at np1;have esl:Txt.slice (txt (d::ds)) (some 1) none=txt ds:=qZ1 (d::ds) (j:=1) (by simp);have hD1:(qr d (T rows x))=T rows y:=hy3.symm;rw[hD1] at np1 eP;rw[hD1] at e1 e2';refine⟨_,rfl,.inl ⟨rfl,_,SqL.of hF4⟩,_,rfl,_,rfl,_,rfl,_,rfl,b,_,0+(d:Int),.int (y:Nat),rfl,rfl,SqT.of hb4,by rw[WZ];exact qu0 hy1,_,rfl,_,rfl,txt (d::ds),1,rfl,rfl,rfl,v0,_,rfl,_,rfl,?_⟩;refine⟨⟨e,t,o,kn,n,tp,y,n3,tq,mi,ds,rows,rows3,pL L Pq d⟩,by rw[<- esl];rfl,⟨hl,by lia,hds',vI,ok,np,hy2,hy4,hTo4,ok3,np3,hq3,jV,odi,kT,vA,by dsimp only;lia,by dsimp only;lia⟩,λH5 r5=>?_⟩;unfold MxR at r5;dsimp only at r5 ⊢;obtain⟨B5,kR,kn5⟩:=r5;rw[<- eP] at kR kn5 ⊢;obtain⟨f1,f2⟩:=fin H5 _ B5 kR kn5 (by lia) (by lia);exact⟨Fo,_,_,rfl,rfl,f1,Yg nlen (by decide),f2⟩
    ·rw[Zp (show ¬V.str ⟨#[48+i]⟩=V.str ⟨#[48+d]⟩ from λz=>hdi (by
      have:=V.str.inj z;simp at this;exact this.symm))]
     refine iteF ?_;rw[Zm hdi] at e1;have eP:Pq i=T rows y:=by rw[ePq,Zm hdi,hy3]
     rw[<- hy3] at e1 e2';refine⟨_,rfl,.inl ⟨rfl,_,SqL.of hF4⟩,_,rfl,_,rfl,_,rfl,_,rfl,b,_,0+(i:Int),.int (y:Nat),rfl,rfl,SqT.of hb4,by rw[WZ];exact qu0 hy1,_,rfl,?_⟩;rw[eP] at jF;refine⟨e,t,kn,n,tp,y,mi,rows,pL L Pq i,rfl,vI,ok,np,hy2,hy4,odi,kT,vA,by lia,by lia,λH5 B5 kR kn5=>?_⟩;rw[<- eP] at kR kn5 ⊢;rw[<- eP] at jF e1 e2';obtain⟨f1,f2⟩:=fin H5 _ B5 kR kn5 (by lia) (by lia);exact⟨Fo,_,_,rfl,rfl,f1,Yg nlen (by decide),f2⟩
   ·rintro σ H4 ⟨mi,v8,rfl,kT,vA,hF4,B4,vJ,wI⟩;have n4:(4:Int).toNat=4:=rfl;rw[n4] at kT vA hF4 vJ wI;have w3:wq (T rows x) d (nds (T rows3 tq)+k) 4<=_:=wl 3 (by decide);have v3:wq (T rows x) d 0 4<=_:=vl 3 (by decide);refine⟨_,rfl,_,rfl,Fo,_,rfl,.inl ⟨SqL.of hF4,λu hu=>?_⟩⟩;have hO4:=qP5 (P:=Pq) od 4;have eput:putT (T rows x) (d::ds) (T rows3 tq)=mk (Pq 0) (Pq 1) (Pq 2) (Pq 3):=by rw[xu4,hPq]
    refine⟨e,u,L,pL L Pq 4,Pq 0,Pq 1,Pq 2,Pq 3,rfl,od,rfl,qc0 kT hu,qa1,by lia,λH6 B6 jO=>?_⟩;rw[eput] at q;obtain⟨kv4,ke4,kl4,kk4⟩:=id vA;have ke6:H6 kn=some (.dK kv4):=B6 _ _ (qc0 ke4 hu) (Z0 nek);refine q H6 (λy v h n1 n2=>B6 _ _ (qc0 (B4 y v (S3 _ _ h) n1 n2) hu) n1) jO ⟨kv4,ke6,by lia,λy v hy=>?_⟩;obtain⟨g1,g2,g3⟩:=kk4 y v hy;have hpm:=xj0 od (Pq 0) (Pq 1) (Pq 2) (Pq 3);obtain⟨e5,hx5,_⟩:=qA1 (mk (Pq 0) (Pq 1) (Pq 2) (Pq 3)) (pL L Pq 4);rw[hpm];rw[show Tr.post (Pq 3) (Tr.post (Pq 2) (Tr.post (Pq 1) (Tr.post (Pq 0) L)))=pL L Pq 4 from rfl,hx5];exact⟨g1,g2.app,by rw[Tr.name_app g2 hO4];exact g3⟩
end
theorem xM1 {rows:List Row}{i:Nat}{r:Row}(h:rows[i]?=some r):∃v,(tK rows)[i]?=some (keyN r,v):=by
 unfold tK tabl;rw[Zg,WL,h];exact⟨_,rfl⟩
section
variable {P:Program}{w:World}{K:PySem.W.Frag}{mg:Str->Option Value}{base:Heap}
abbrev nPt:List Str:=["_law_shape_here", "_law_address_here", "_law_other", "_law_rows", "_law_top"]
abbrev nPt3:List Str:=["_law_shape_here", "_law_address_here", "_law_other"]
theorem scPt:FnScope nPt nPt3 (qa3 qF8):=qd0
def spPt:Sp:=λvs H Q _=>∃(t o:Addr) (n:Nat) (s u:Tr) (ds:List Nat),vs=[.ref t,.str (txt ds),.ref o]/\(∀d∈ds,d<4)/\ds.length<=n/\ShT H t n s/\ShT H o (n-ds.length) u/\nds s<=485/\nds u<=485 /\
 ∀H' t',Same H H'->ShT H' t' n (putT s ds u)->Q (.ref t') H'
theorem xM2 {f fM:Addr}{fd fdM:FuncData}(F:Fun K "_law_put_together" "_law_put_together" qF8 f fd) (B:Blt mg)
  (hM:mg "_law_mixed" = some (.ref fM)) (FM:Fun K "_law_mixed" "_law_mixed" qW7 fM fdM) (bM:Binds K fdM nMx6 []) (GM:∀k,FnOk P w K mg base CX0 (k+15) fM fdM nMx6 (spMx k)):FnOk P w K mg base CX0 28 f fd nPt3 spPt:=by
 refine F.ok scPt (λvs H Q E h=>?_) (λcdv A outer s0 H vs Q E hr h=>?_)
 ·obtain⟨t,o,n,s,u,ds,rfl,_⟩:=h
  rfl
 ·obtain⟨t,o,n,s,u,ds,rfl,j9,hl,⟨tp,rows,hS,rfl⟩,⟨tq,rows3,hO,rfl⟩,kF,kB,q⟩:=h;obtain⟨hT,cn,_⟩:=hS;obtain⟨hTo,cn3,_⟩:=hO;have hn:=cn.size;have hrk:Room (ds.length+15) _:=hr.mono (by lia);refine seqE ⟨_,⟨psN 3 scPt.nd qE2⟩,?_⟩;refine seqE ⟨_,⟨psN 4 scPt.nd (qh8 (GM ds.length) hrk (by rfl) hM FM.kp bM .nil qE1 (Ars2.go (.cons ⟨pv 3⟩ (.cons ⟨pv 0⟩ (.cons ⟨pxN ix_tup (pv 0) qa5⟩ (.cons ⟨pv 1⟩ (.cons ⟨pv 2⟩ (.cons ⟨qp9⟩ .nil rfl) rfl) rfl) rfl) rfl) rfl)))⟩,?_⟩;refine qe5 ⟨_,⟨qa9 (qg0 (Ars2.go (.cons ⟨pxN ix_tup (pv 0) qa5⟩ (.cons ⟨pv 4⟩ (.cons ⟨qc1 (qu3 rfl) (by rfl) B.tuple ZH (qa0 (pv 3) qa2)⟩ .nil rfl) rfl) rfl)))⟩,?_⟩;intro e he;obtain⟨rp,ht,_⟩:=id hT;have nte:e≠t:=(qa4 ht he).symm;refine⟨_,rfl,_,rfl,_,rfl,t,_,1,.int (tp:Nat),rfl,rfl,SqT.of (qc0 ht he),rfl,_,rfl,_,rfl,λkn vB=>?_⟩;have he1:upd (upd H e (.dT [])) kn (.dK []) e=some (.dT []):=qc0 qa1 vB;have S1:Same H (upd (upd H e (.dT [])) kn (.dK [])):=(qb3 he).trans (qb3 vB);have jV:=cn3.deep;have wL:=cn.deep;have hknH:H kn=none:=by
   cases z:H kn with
   |none=>rfl
   |some o=>rw[qc0 z he] at vB;cases vB
  refine⟨⟨e,t,o,kn,n,tp,tp,n-ds.length,tq,0,ds,rows,rows3,[]⟩,rfl,⟨rfl,by lia,j9,hT.mono S1.tups,cn.rok,cn.unplain,cn.inn,by dsimp only;lia,hTo.mono S1.tups,cn3.rok,cn3.unplain,cn3.inn,by dsimp only;lia,Tr.ord_nil,he1,⟨[],qa1,Zd _,λx v hv=>by cases hv⟩,(by show 0+nds (T rows tp)+nds (T rows3 tq)+ds.length<=_;lia),by dsimp only;lia⟩,λH2 r2=>?_⟩;unfold MxR at r2;dsimp only at r2 ⊢;obtain⟨B2,kE,_⟩:=r2;have S2:Same H H2:=λx v h=>B2 _ _ (S1 _ _ h) (qa4 h he) (qa4 h hknH);refine⟨_,rfl,t,_,0,.int (n:Nat),rfl,rfl,SqT.of (S2 _ _ ht),rfl,_,rfl,_,rfl,e,_,rfl,kE,λl bs hl' kK hbs=>⟨(by show 3<=sizeLine;decide),λt' ht'=>?_⟩⟩;have hnp:=qI1 ds (T rows tp) (T rows3 tq) j9;have jF:=qj2 (putT (T rows tp) ds (T rows3 tq)) [];have dq:Tr.dep (putT (T rows tp) ds (T rows3 tq))<=n:=by
   have h1:=qq8 cn;have h2:=qT1 ds (k:=n-ds.length) (t:=T rows tp) j9 (by lia) (qq8 cn3);lia
  have c5:=xz4 hn (qG5 ds (qe7 cn) (qe7 cn3)) dq;refine q _ t' ((S2.trans (qb3 hl')).trans (qb3 ht')) ⟨_,_,⟨⟨l,qa1,bs,qc0 qa1 ht',?_,?_⟩,c5,?_⟩,c_T _⟩
  ·rw[kK];unfold tK;rw[qj0]
   rfl
  ·intro i b r e1 e2;obtain⟨v,hv⟩:=xM1 e2;have:=hbs i b _ e1 hv;rw[qn7] at this;exact qc0 (qc0 this hl') ht'
  ·unfold q47;rw[Tr.rowsOf_len];simp at jF;lia
end
end Pr
namespace L2
open PySem PySem.Spec PyProof.Rows
section
variable {X:Cx}{elts:List Expr}{x1:Nat}{tpos:Pos}
theorem xq0:SlR X (λx lo hi H Q=>∃(z:Str) (j:Int),x=.str z/\lo=none/\hi=some j/\z.length<=sizeLine/\Q (.str (Txt.slice z none (some j))) H):=by
 intro j4 s σ H x v vl vu lo hi sl Q I rx hs pl pu h;obtain⟨z,j,rfl,rfl,rfl,hz,q⟩:=h;obtain⟨t,rfl⟩:=rx;cases pl;cases pu with
 |int i uj=>
  refine⟨"str",_,F.slot_str_getitem.lookup,typeIs_str _ _ _,wpAny_getItem_str_slice (l:=none) (u:=some (j,uj)) (st:=none) hs rfl (post_val_or_str ⟨ZE (Txt.slice_le z _ _) hz,λt' k=>?_⟩)⟩;exact⟨.str _,H,I.tok _,⟨_,rfl⟩,q⟩
end
section
variable {X:Cx}
theorem xj2:MtR X "str.index" (λx xs H Q=>∃(a y:Str) (i:Nat) (r:List Nat),x=.str a/\xs=[.str y]/\Builtin.Str.occurrences a y 0 a.length 1=i::r/\Q (.int (i:Nat)) H):=by
 intro j4 s σ H x xs v us Q I rx rv h;obtain⟨a,y,i,r,rfl,rfl,ho,q⟩:=h;obtain⟨t,rfl⟩:=rx;obtain⟨u,rfl,ru⟩:=rv.one;obtain⟨t2,rfl⟩:=ru;exact SC.index ho ⟨.int _,H,I.tok _,⟨_,rfl⟩,q⟩
end
end L2
namespace Pr
open PySem L2 Qf
theorem xj3 (a b:List Nat):txt a++txt b=txt (a++b):=by
 show (⟨(a.map (48+·)).toArray++(b.map (48+·)).toArray⟩:Str)=⟨((a++b).map (48+·)).toArray⟩;rw[ZR];simp
theorem xH3 {d:Nat}(h:d<4):∃r,Builtin.Str.occurrences "0123" ⟨#[48+d]⟩ 0 ("0123" : Str).length 1=d::r:=by
 match d,h with
 |0,_|1,_|2,_|3,_=>exact⟨[],by decide +kernel⟩
section
variable {P:Program}{w:World}{K:PySem.W.Frag}{mg:Str->Option Value}{base:Heap}
abbrev nAp:List Str:=["_law_pot_here", "_law_n", "_law_address_here", "_law_k", "_law_figure", "_law_more"]
abbrev nAp3:List Str:=["_law_pot_here", "_law_n", "_law_address_here"]
theorem scAp:FnScope nAp nAp3 (qa3 qM8):=qd0
def spAp:Sp:=λvs H Q _=>∃(p:Addr) (n:Nat) (ds:List Nat),vs=[.ref p,.int (n:Nat),.str (txt ds)]/\PurseAt H p/\n<=12/\(∀d∈ds,d<4)/\ds.length<=n/\(ds=[]->Q .non H) /\
 ∀H' pre a as b bs,But p H H'->PurseAt H' p->ds=pre++a::as->a≠b->(∀e∈pre++b::bs,e<4)->(pre++b::bs).length<=n->Q (.str (txt (pre++b::bs))) H'
theorem xM3 {f fD:Addr}{fd fdD:FuncData}(F:Fun K "_law_apart" "_law_apart" qM8 f fd) (B:Blt mg) (hD:mg "_law_digit" = some (.ref fD)) (FD:Fun K "_law_digit" "_law_digit" qk6 fD fdD) (bD:Binds K fdD ["_law_pot_here", "_law_many"] []):FnOk P w K mg base CX0 2 f fd nAp3 spAp:=by
 have GD:FnOk P w K mg base CX0 1 fD fdD ["_law_pot_here", "_law_many"] qi2:=qh4 FD;refine F.ok scAp (λvs H Q E h=>?_) (λcdv A outer s H vs Q E hr h=>?_)
 ·obtain⟨p,n,ds,rfl,_⟩:=h
  rfl
 ·obtain⟨p,n,ds,rfl,hp,hn,j9,hl,q0,q⟩:=h;have v0:(txt ds).length<=sizeLine:=ZT (qb5 (by rw[qd2];lia));refine seqE ⟨_,⟨qc9 (qb2 qw5 (pv 2) qc2 (qb4 _)) (qa8 (qa9 qU5)) qb1⟩,?_⟩;refine seqE ⟨_,⟨psN 3 scAp.nd (pcN GD hr hD FD.kp bD (qa0 (pv 0) (qa0 (qa6 qe1 (by rfl) B.len ZM (qa0 (pv 2) qa2)) qa2)))⟩,?_⟩;refine seqE ⟨_,⟨psN 4 scAp.nd (pxN qt5 qc2 (PEb.go ⟨qb0 qt3 (qb0 qc4 (qb0 qc4 (PEb.go (qu4 Wz PySem.F.slot_str_index PySem.F.type_str_index xj2 ⟨qc2⟩ (.cons ⟨pxN qt5 (pv 2) (pv 3)⟩ .nil rfl))) qa5) (pcN GD hr hD FD.kp bD (qa0 (pv 0) (qa0 qa5 qa2)))) qa5⟩))⟩,?_⟩;refine seqE ⟨_,⟨qS2 (i0:=5) nAp (qa3 qM8) rfl rfl rfl scAp.nd rfl rfl (qh7 (by rfl) B.range (qa0 (pcN GD hr hD FD.kp bD (qa0 (pv 0) (qa0 (qb0 qe0 (pv 1) (pv 3)) qa2))) qa2))
    (λcl C fp s₀ H₀=>pxN qt5 qc2 (pcN GD hr hD FD.kp bD (qa0 (pv 1) (qa0 qa5 qa2))))⟩,?_⟩
  refine qe5 ⟨_,⟨qa9 (qb0 qs0 (qb0 qs0 (qv0 xq0 (pv 2) qD9 (qE0 (pv 3))) (pv 4)) (PEb.go (qu4 Wz PySem.F.slot_str_join PySem.F.type_str_join xa6 ⟨qc2⟩ (.cons ⟨pv 5⟩ .nil rfl))))⟩,?_⟩;refine⟨_,rfl,rfl,_,rfl,?_⟩;refine ite2 (λhc=>?_) (λhc=>?_)
  ·have e0:ds=[]:=by
    have:=Yi Str.length (V.str.inj (Zq hc));rw[qd2,show ("" : Str).length=0 by decide +kernel] at this;exact XA.mp this
   exact q0 e0
  have jE:0<ds.length:=by
   rcases Nat.eq_zero_or_pos ds.length with z|z
   ·rw[XA.mp z] at hc;exact absurd (Zj (by decide +kernel)) hc
   ·exact z
  refine⟨_,rfl,_,rfl,txt ds,rfl,v0,p,ds.length,by rw[qd2];rfl,hp,by lia,by lia,λk H1 hk b1 jG=>?_⟩;obtain⟨a,ha⟩:∃a,ds[k]?=some a:=⟨_,Zb hk⟩;have ha4:=j9 a (Zs ha);obtain⟨r,hr4⟩:=xH3 ha4;refine⟨rfl,_,rfl,_,rfl,txt ds,((k:Nat):Int),48+a,rfl,rfl,v0,qd8 (by simp[txt,ha]), "0123",_,a,r,rfl,rfl,hr4,_,_,rfl,rfl,_,rfl,p,3,rfl,jG,by decide,by decide,λy H2 hy b2 jR=>?_⟩;have hb4:(a+1+y)%4<4:=Y8 _ (by decide);have vS:a≠(a+1+y)%4:=by lia
  refine⟨_,_,rfl,rfl,_,_,rfl,rfl,(by show (0:Int)<4;decide), "0123",_,48+(a+1+y)%4,rfl,rfl,qw2,?_,?_⟩
  ·have:=qZ4 hb4;rw[show (((a+1+y)%4:Nat):Int)=((a:Int)+1+(y:Int))%4 by lia] at this;exact this
  generalize (a+1+y)%4=b at hb4 vS;refine⟨_,rfl,_,rfl,_,rfl,_,_,rfl,rfl,p,n-k,by rw[show ((n-k:Nat):Int)=(n:Int)-(k:Int) by lia];rfl,jR,by lia,by lia,λd H3 hd b3 kC=>?_⟩;refine⟨(d:Int),rfl,by lia,by lia,λD jX=>xj1 ?_⟩;obtain⟨pa,pb,k6,_⟩:=id kC;have nDp:D≠p:=λz=>by rw[z,k6] at jX;cases jX
  refine⟨λi cnt xs H4=>i<=d/\cnt=d-i/\∃bs:List Nat,bs.length=i/\(∀e∈bs,e<4)/\xs=bs.map (λe=>V.str ⟨#[48+e]⟩)/\H4 D=some (.lst xs)/\PurseAt H4 p/\∀b o,H3 b=some o->b≠p->H4 b=some o,
   ⟨_,ZB _,rfl,[],rfl,λ_ z=>(nomatch z),rfl,qa1,kC.same (qb3 jX),λb o e _=>qc0 e jX⟩,?_⟩
  rintro i cnt xs H4 ⟨hi,rfl,bs,jT,hbs,rfl,hH,hpot,hbut⟩;have wT:(bs.map (λe=>V.str ⟨#[48+e]⟩)).length=i:=by simp[jT]
  refine⟨hH,qb5 (by rw[wT];lia),?_⟩;by_cases he:i=d
  ·refine .inl ⟨show ((d:Nat):Int).toNat<=i by lia,?_⟩;refine⟨_,rfl,_,rfl,(k:Nat),rfl,txt ds,(k:Nat),rfl,rfl,rfl,v0,_,rfl,_,_,rfl,rfl,?_,rfl,_,rfl, "",D,bs.map (λe=>(⟨#[48+e]⟩:Str)),rfl,rfl,?_,?_,?_⟩
   ·rw[qZ2 ds (by lia),qd2,ZS];show min k ds.length+1<=sizeLine;exact ZT (qb5 (by lia))
   ·rw[hH,Y5]
    rfl
   ·have e3:("" : Str).length=0:=by decide +kernel
    rw[qZ5,e3,jT];lia
   ·rw[qY3,qZ2 ds (by lia)];have e1:txt (ds.take k)++(⟨#[48+b]⟩:Str)=txt (ds.take k++[b]):=by rw[<- xj3];rfl
    refine⟨_,_,rfl,rfl,?_,?_⟩
    ·rw[e1,qd2,qd2,Zu,ZS];show min k ds.length+1+bs.length<=sizeLine;exact ZT (qb5 (by lia))
    ·rw[e1,xj3,YF];have es:ds=ds.take k++a::ds.drop (k+1):=by
      have h1:=XN k ds;rw[List.drop_eq_getElem_cons hk] at h1;rw[Zb hk] at ha;rw[Zw ha] at h1;exact h1.symm
     refine q H4 (ds.take k) a _ b bs (λx o z nx=>hbut x o (b3 x o (b2 x o (b1 x o z nx) nx) nx) nx) hpot es vS (λe he=>?_) ?_
     ·rcases Z1.mp he with z|z
      ·exact j9 e (WJ z)
      ·rcases ZC.mp z with rfl|z
       ·exact hb4
       ·exact hbs e z
     ·rw[Zu,ZS];show min k ds.length+(bs.length+1)<=n;lia
  ·refine .inr ⟨show i<((d:Nat):Int).toNat by lia,?_⟩;rintro yv H5 ⟨rfl,rfl⟩;refine⟨_,rfl,p,4,rfl,hpot,by decide,by decide,λe H6 kT b4 kG=>?_⟩;refine⟨_,_,_,rfl,rfl,qw2,qZ4 kT,?_⟩;have hH4:=b4 _ _ hH nDp;obtain⟨pa4,pb4,hpe4,r4⟩:=id kG;refine⟨hH4,d-(i+1),by lia,by lia,rfl,bs++[e],by simp[jT],?_,by simp,qa1,⟨pa4,pb4,by rw[qa7 (Z0 nDp)];exact hpe4,r4⟩,λb o z n=>?_⟩
   ·intro x hx;rcases Z1.mp hx with hx|hx
    ·exact hbs x hx
    ·have:x=e:=by simpa using hx
     lia
   ·rw[qa7 (qa4 z jX)];exact b4 b o (hbut b o z n) n
end
end Pr
namespace L2
open PySem PySem.Spec PyProof.Rows
def xj4 (f:Expr->Option PyData):List Expr->Option (List PyData)
 |[]=>some []
 |e::es=>match f e,xj4 f es with
  |some d,some ds=>some (d::ds)
  |_,_=>none
def litD:Nat->Expr->Option PyData
 |0,_=>none
 |_+1,.Constant (.int i) _ _=>some (.int i)
 |_+1,.Constant (.bool b) _ _=>some (.bool b)
 |_+1,.Constant .none _ _=>some .none
 |_+1,.Constant (.str x) _ _=>some (.str x)
 |_+1,.Dict [] [] _=>some (.dict [])
 |k+1,.Tuple es _ _=>match xj4 (litD k) es with
  |some ds=>some (.tuple ds)
  |none=>none
 |k+1,.List es _=>match xj4 (litD k) es with
  |some ds=>some (.list ds)
  |none=>none
 |_,_=>none
def litT:Nat->PyData->TE
 |_+1,.int i=>tC (.int i)
 |_+1,.bool b=>tC (.bl b)
 |_+1,.none=>tC .non
 |_+1,.str x=>tC (.str x)
 |_+1,.dict _=>xb1
 |k+1,.tuple ds=>tTup (tAll (ds.map (litT k)))
 |k+1,.list ds=>tLst (tAll (ds.map (litT k)))
 |_,_=>λ_ _ _=>False
theorem q03:∀{k:Nat}{e:Expr}{d:PyData},litD k e=some d->qC7 e=false:=by
 intro k e d h;cases e with
 |Starred a b=>cases k<;>simp[litD] at h
 |_=>rfl
theorem xj5 {X:Cx}{f:Expr->Option PyData}{g:PyData->TE}(hf:∀e d,f e=some d->PE X e (g d)/\qC7 e=false):∀{es:List Expr}{ds:List PyData},xj4 f es=some ds->PAs X es (ds.map g)
 |[],ds,h=>by cases h;exact .nil
 |e::es,ds,h=>by
  unfold xj4 at h;split at h
  ·rename_i d ds' h1 h2;cases h;obtain⟨a,b⟩:=hf e d h1;exact .cons a (xj5 hf h2) b
  ·cases h
theorem qA3 {X:Cx}:∀(k:Nat){e:Expr}{d:PyData},litD k e=some d->PE X e (litT k d)
 |0,e,d,h=>by cases h
 |k+1,e,d,h=>by
  unfold litD at h;split at h
  ·cases ‹_›
  ·cases h;exact qa5
  ·cases h;exact qk8
  ·cases h;exact qU5
  ·cases h;exact qc2
  ·cases h;exact qp9
  ·rename_i he;cases he;split at h
   ·cases h;exact qg0 (@PAs.pa _ _ _ (xj5 (λe d h=>⟨qA3 k h,q03 h⟩) ‹_›))
   ·cases h
  ·rename_i he;cases he;split at h
   ·cases h;exact @qg1 _ _ _ _ (@PAs.pa _ _ _ (xj5 (λe d h=>⟨qA3 k h,q03 h⟩) ‹_›))
   ·cases h
  ·cases h
def okD:Nat->PyData->Bool
 |_+1,.int _=>true
 |_+1,.bool _=>true
 |_+1,.none=>true
 |_+1,.str _=>true
 |_+1,.dict l=>l.isEmpty
 |k+1,.tuple ds=>decide (ds.length<=50)&&ds.all (okD k)
 |k+1,.list ds=>decide (ds.length<=50)&&ds.all (okD k)
 |_,_=>false
section
variable {p:Addr->Prop}{H0:Hp}{σ:St}
theorem qU1 {g:PyData->TE}:∀{ds:List PyData},(∀d∈ds,Yd p H0 σ (g d) d)->Yds p H0 σ (ds.map g) ds
 |[],_=>.nil
 |d::ds,h=>.cons (h d Zh) (qU1 λx hx=>h x (Ze _ hx))
theorem qP6 (hp:LsAt p H0):∀(k:Nat){d:PyData},okD k d=true->Yd p H0 σ (litT k d) d
 |0,d,h=>by cases h
 |k+1,d,h=>by
  cases d with
  |int i=>exact xg3 i
  |bool b=>exact xF0 b
  |none=>exact xt3
  |str x=>exact qC8 x
  |dict l=>
   have:l=[]:=by simpa [okD] using h
   subst this;exact xg4 hp
  |tuple ds=>
   unfold okD at h;rw[YN,Vh,Ym] at h;exact xt4 hp (qU1 λd hd=>qP6 hp k (h.2 d hd)) (ZT (qb5 (by lia)))
  |list ds=>
   unfold okD at h;rw[YN,Vh,Ym] at h;exact xF1 hp (qU1 λd hd=>qP6 hp k (h.2 d hd)) (ZT (qb5 (by lia)))
theorem qI2 {R:PyData->Prop}(hp:LsAt p H0) (k:Nat):∀{ds:List PyData},ds.all (okD k)=true->(∀d∈ds,R d)->Yls H0 σ (Hs p R) (ds.map (litT k))
 |[],_,_=>trivial
 |d::ds,h,r=>by
  rw[List.all_cons,YN] at h;exact⟨qr2 (qP6 hp k h.1) (r d Zh),qI2 hp k h.2 λx hx=>r x (Ze _ hx)⟩
end
end L2
namespace L2
open PySem
theorem LsAt.mono {p:Addr->Prop}{H H':Hp}(h:LsAt p H) (s:Same H H'):LsAt p H':=λa z=>let ⟨l,e⟩:=h a z;⟨l,s _ _ e⟩
theorem xq1 {σ:St}{K:PySem.W.Frag}{te:TE}{i:Nat}{rest:TS}{k:Ends}{H:Hp}{D:Addr}{xs:List V}(e:σ[i]?=some (some (.ref D))) (hD:H D=some (.lst xs)) (h:te σ H λv H2=>qQ9 (.ref D) [v] H2 λ_ H'=>rest k σ H'):tSeq (xB3 (tBM K "list" qQ9 (tVar i) (qn3 te tNil))) rest k σ H:=⟨_,e,.inl ⟨rfl,_,SqL.of hD⟩,h⟩
end L2
namespace Pr
open PySem L2 Qf
theorem all_cons {R:PyData->Prop}{d:PyData}{ds:List PyData}(h:R d) (r:∀x∈ds,R x):∀x∈d::ds,R x:=λx hx=>by
 rcases ZC.mp hx with rfl|hx
 ·exact h
 ·exact r x hx
def NoS (d:PyData):Prop:=Bnd d/\¬IsSh d
theorem qP7 {d:PyData}(h:∀a b c,d≠.tuple [a,b,c]):NoS d:=⟨λa b ds e=>absurd e (h _ _ _),λ⟨n,tp,rows,e,_⟩=>absurd e (h _ _ _)⟩
theorem qI3 {a b c:PyData}(hb:∀ds,c=.tuple ds->ds.length<=990) (no:∀(n tp:Nat) rows,a=.int (n:Nat)->b=.int (tp:Nat)->c=.tuple (rows.map dR)->¬Canon n tp rows):NoS (.tuple [a,b,c]):=by
 refine⟨λe0 e1 ds e=>?_,λ⟨n,tp,rows,e,c⟩=>?_⟩
 ·injection e with e
  injection e with _ e
  injection e with _ e
  injection e with e _
  exact hb ds e
 ·unfold qe6 at e;injection e with e
  injection e with a e
  injection e with b e
  injection e with e _
  exact no n tp rows a b e c
theorem qm1 {n tp:Nat}{rows:List Row}(hl:rows.length<=990) (no:¬Canon n tp rows):NoS (qe6 n tp rows):=by
 refine⟨λe0 e1 ds e=>?_,λ⟨n',tp',rows',e,c⟩=>?_⟩
 ·unfold qe6 at e;injection e with e
  injection e with _ e
  injection e with _ e
  injection e with e _
  injection e with e
  rw[<- e,Zi];exact hl
 ·obtain⟨rfl,rfl,rfl⟩:=qO6 e;exact no c
def os1:List PyData:=[.none,.int 7,.bool true,.str "0",.list [],.tuple [],.tuple [.int 1,.int 0],.list [.int 1,.int 0,.tuple []],.tuple [.int 1,.int 0,.list []],.tuple [.int 13,.int 0,.tuple []],.tuple [.int 1,.int 2,.tuple []],.tuple [.bool true,.int 0,.tuple []]]
def os2:List PyData:=[.tuple [.int 0,.int 2,.tuple [.tuple [.int 0,.int 1,.int 0,.int 1]]],.tuple [.int 1,.int 2,.tuple [.tuple [.int 0,.int 0,.int 0,.int 0]]],.tuple [.int 1,.int 2,.tuple [.tuple [.int 1,.int 1,.int 1,.int 1]]],.tuple [.int 1,.bool true,.tuple []]]
def os3:List PyData:=[.tuple [.int 1,.int 0,.tuple [.tuple [.int 0,.int 1,.int 0,.int 1]]],.tuple [.int 2,.int 3,.tuple [.tuple [.int 0,.int 1,.int 0,.int 1],.tuple [.int 0,.int 1,.int 0,.int 1]]]]
def os4:PyData:=.tuple [.int 2,.int 4,.tuple [.tuple [.int 0,.int 0,.int 0,.int 1],.tuple [.int 0,.int 0,.int 1,.int 0],.tuple [.int 3,.int 2,.int 0,.int 0]]]
section
variable {P:Program}{w:World}{K:PySem.W.Frag}{mg:Str->Option Value}{base:Heap}
abbrev nOs:List Str:=["_law_pot_here", "_law_some"]
theorem scOs:FnScope nOs ["_law_pot_here"] (qa3 qW8):=qd0
def spOs:Sp:=λvs H Q _=>∃pp:Addr,vs=[.ref pp]/\PurseAt H pp/\∀v d H',But pp H H'->PurseAt H' pp->DatX (era (λa=>a=pp) H') v d->Bnd d->¬IsSh d->Q v H'
theorem xM4 {f fD:Addr}{fd fdD:FuncData}(F:Fun K "_law_odd_shape" "_law_odd_shape" qW8 f fd) (B:Blt mg)
  (hD:mg "_law_digit" = some (.ref fD)) (FD:Fun K "_law_digit" "_law_digit" qk6 fD fdD) (bD:Binds K fdD ["_law_pot_here", "_law_many"] []):FnOk P w K mg base CX0 2 f fd ["_law_pot_here"] spOs:=by
 have GD:FnOk P w K mg base CX0 1 fD fdD ["_law_pot_here", "_law_many"] qi2:=qh4 FD;refine F.ok scOs (λvs H Q E h=>?_) (λcdv A outer s H vs Q E hr h=>?_)
 ·obtain⟨pp,rfl,_⟩:=h
  rfl
 ·obtain⟨pp,rfl,hP,q⟩:=h;refine seqE ⟨_,qy9 (i:=1) scOs.nd rfl (by first|left;rfl|right;rfl) ⟨@qA3 _ 5 _ (.list os1) (by kernel_rfl)⟩ rfl rfl,?_⟩;refine seqE ⟨_,qy9 (i:=1) scOs.nd rfl (by first|left;rfl|right;rfl) ⟨qb0 q73 (pv 1) (@qA3 _ 5 _ (.list os2) (by kernel_rfl))⟩ rfl rfl,?_⟩;refine seqE ⟨_,qy9 (i:=1) scOs.nd rfl (by first|left;rfl|right;rfl) ⟨qb0 q73 (pv 1) (@qA3 _ 5 _ (.list os3) (by kernel_rfl))⟩ rfl rfl,?_⟩;refine seqE ⟨_,⟨qf0 (PEb.go (qu4 ZY Z7 Z8 qe4 ⟨pv 1⟩ (.cons ⟨@qA3 _ 4 _ os4 (by kernel_rfl)⟩ .nil rfl)))⟩,?_⟩;refine qe5 ⟨_,⟨qa9 (pxN ix_list (pv 1) (pcN GD hr hD FD.kp bD (qa0 (pv 0) (qa0 (qa6 qb9 (by rfl) B.len ZM (qa0 (pv 1) qa2)) qa2))))⟩,?_⟩;obtain⟨pa,pb,k6,hpr⟩:=id hP;have k8:LsAt (λa=>a=pp) H:=by intro a z;cases z;exact⟨_,k6⟩
  refine qv7 (xg5 (p:=λa=>a=pp) (R:=NoS) ?y0 ?l0 _ λD1 H1 b1=>?_)
  case l0=>show 12<=100;decide
  case y0=>exact qI2 k8 4 rfl (all_cons (qP7 λ_ _ _ e=>nomatch e) (all_cons (qP7 λ_ _ _ e=>nomatch e) (all_cons (qP7 λ_ _ _ e=>nomatch e) (all_cons (qP7 λ_ _ _ e=>nomatch e) (all_cons (qP7 λ_ _ _ e=>nomatch e) (all_cons (qP7 λ_ _ _ e=>nomatch e) (all_cons (qP7 λ_ _ _ e=>nomatch e) (all_cons (qP7 λ_ _ _ e=>nomatch e) (all_cons (qI3 (λds e=>nomatch e) λn' tp' rows' e0 e1 e2=>nomatch e2) (all_cons (qm1 (n:=13) (tp:=0) (rows:=[]) (by decide) λc=>absurd c.size (by decide)) (all_cons (qm1 (n:=1) (tp:=2) (rows:=[]) (by decide) λc=>absurd c.inn (by decide)) (all_cons (qI3 (λds e=>by cases e;decide) λn' tp' rows' e0 e1 e2=>nomatch e0) (λ_ z=>nomatch z)))))))))))))
  have b1:Bag (λa=>a=pp) NoS H 12 D1 H1:=b1;have jG:=k8.mono b1.same;refine qC9 (σ':=[some (.ref pp),some (.ref D1)]) rfl ?_;refine qv7 (xg6 b1 rfl ?y1 ?l1 _ λD2 H2 b2=>?_)
  case l1=>show 16<=100;decide
  case y1=>exact qI2 jG 4 rfl (all_cons (qm1 (n:=0) (tp:=2) (rows:=[[0,1,0,1]]) (by decide) λc=>absurd c.deep (by decide)) (all_cons (qm1 (n:=1) (tp:=2) (rows:=[[0,0,0,0]]) (by decide) λc=>c.unplain _ (by decide) (.inl rfl)) (all_cons (qm1 (n:=1) (tp:=2) (rows:=[[1,1,1,1]]) (by decide) λc=>c.unplain _ (by decide) (.inr rfl)) (all_cons (qI3 (λds e=>by cases e;decide) λn' tp' rows' e0 e1 e2=>nomatch e1) (λ_ z=>nomatch z)))))
  have b2:Bag (λa=>a=pp) NoS H 16 D2 H2:=b2;have jR:=k8.mono b2.same;refine qC9 (σ':=[some (.ref pp),some (.ref D2)]) rfl ?_;refine qv7 (xg6 b2 rfl ?y2 ?l2 _ λD3 H3 b3=>?_)
  case l2=>show 18<=100;decide
  case y2=>exact qI2 jR 4 rfl (all_cons (qm1 (n:=1) (tp:=0) (rows:=[[0,1,0,1]]) (by decide) λc=>absurd c.ends (by decide)) (all_cons (qm1 (n:=2) (tp:=3) (rows:=[[0,1,0,1],[0,1,0,1]]) (by decide) λc=>absurd c.unlike (by decide)) (λ_ z=>nomatch z)))
  have b3:Bag (λa=>a=pp) NoS H 18 D3 H3:=b3;refine qC9 (σ':=[some (.ref pp),some (.ref D3)]) rfl ?_;have ls:=xF2 k8 b3;obtain⟨xs3,H30,s30,n30,t30,hD3,l30,_⟩:=id b3;refine xq1 rfl hD3 ((qP6 ls 4 (d:=os4) rfl) H3 (Same.refl _) _ λv4 H4 s4 d4=>?_);obtain⟨xs4,e4,l4,b4⟩:=xz0 b3 s4 d4 (qm1 (n:=2) (tp:=4) (rows:=[[0,0,0,1],[0,0,1,0],[3,2,0,0]]) (by decide) λc=>absurd c.ends (by decide));refine⟨D3,xs4,v4,rfl,rfl,e4,by rw[l4];decide,?_⟩;have b4:Bag (λa=>a=pp) NoS H 19 D3 _:=b4;have s4:=b4.same;generalize upd H4 D3 (.lst (xs4++[v4]))=H5 at b4 s4 ⊢;obtain⟨xs5,H50,_,n50,_,hD5,lx5,_⟩:=id b4;refine⟨_,rfl,_,rfl,_,rfl,D3,_,rfl,.inl (SqL.of hD5),pp,19,by rw[lx5];rfl,hP.same s4,by decide,by decide,λi H7 hi b7 hP7=>?_⟩;obtain⟨xs,x,d,e1,e2,e3,e4,e5⟩:=qY8 b4 k6 b7 hi;exact⟨D3,xs,(i:Int),x,rfl,rfl,SqL.of e1,qd8 e2,q x d H7 (λb o e n=>b7 b o (s4 _ _ e) n) hP7 e3 e4 e5⟩
end
end Pr
namespace L2
open PySem
theorem xu5 {p:Addr->Prop}{H0:Hp}{σ:St}{x:Str}{i:Nat}{k j:Int}(e:σ[i]?=some (some (.int k))) (h:MulOk x (k+j)):Yd p H0 σ (tOp (λx y H Q=>∃z n,x=.str z/\y=.int n/\MulOk z n/\Q (.str (Txt.mul z n)) H) (tC (.str x)) (tOp (rI0 λi j=>.int (i+j)) (tVar i) (tC (.int j)))) (.str (Txt.mul x (k+j))):=
 λH s Q q=>⟨_,e,k,j,rfl,rfl,x,_,rfl,rfl,h,q _ _ (Same.refl _) (.str _)⟩
end L2
namespace Pr
open PySem L2 Qf
theorem mul_one {x:Str}{n:Int}(hx:x.length=1) (h1:1<=n) (h2:n<=100):MulOk x n:=by
 refine⟨?_,λ_ _=>?_,λ_ _=>?_⟩
 ·rw[Bool.or_eq_false_iff];exact⟨Zp (by lia),Zp (by lia)⟩
 ·rw[hx];have:n*1000<=2^63-1:=by lia
  have h3:(1000:Int)<=(2^63-1)/n:=(Int.le_ediv_iff_mul_le (by lia)).mpr (by lia);lia
 ·rw[hx];unfold Builtin.Str.tooLong;exact Zp (Nat.not_lt.mpr (ZT (qb5 (by lia))))
theorem xj6 {n k:Nat}(hn:n<13) (h:k=1\/k=9):(Txt.mul "0" ((n:Int)+(k:Nat))).length=n+k/\(Txt.mul "3" ((n:Int)+(k:Nat))).length=n+k:=by
 have key:∀n:Nat,n<13->((Txt.mul "0" ((n:Int)+(1:Nat))).length=n+1/\(Txt.mul "3" ((n:Int)+(1:Nat))).length=n+1)/\(Txt.mul "0" ((n:Int)+(9:Nat))).length=n+9/\(Txt.mul "3" ((n:Int)+(9:Nat))).length=n+9:=by decide +kernel
 rcases h with rfl|rfl
 ·exact (key n hn).1
 ·exact (key n hn).2
def NoA (n:Nat) (d:PyData):Prop:=isAd n d=false/\∀x,d=.str x->x.length<=100
theorem qU2 {n:Nat}{d:PyData}(h:∀x,d≠.str x):NoA n d:=by
 refine⟨?_,λx e=>absurd e (h x)⟩;cases d with
 |str x=>exact absurd rfl (h x)
 |_=>rfl
theorem q04 {n:Nat}{x:Str}(h:x.cps.toList.all four=false) (hl:x.length<=100):NoA n (.str x):=by
 refine⟨?_,λy e=>by cases e;exact hl⟩;show (_&&_)=false;rw[h,Va]
theorem xj7 {n:Nat}{x:Str}(h:n<x.length) (hl:x.length<=100):NoA n (.str x):=by
 refine⟨?_,λy e=>by cases e;exact hl⟩;show (decide _&&_)=false;rw[Zp (by lia),Vz]
section
variable {P:Program}{w:World}{K:PySem.W.Frag}{mg:Str->Option Value}{base:Heap}
abbrev nOa:List Str:=["_law_pot_here", "_law_n", "_law_some"]
theorem scOa:FnScope nOa ["_law_pot_here", "_law_n"] (qa3 qW9):=qd0
def spOa:Sp:=λvs H Q _=>∃(pp:Addr) (n:Nat),vs=[.ref pp,.int (n:Nat)]/\PurseAt H pp/\n<=12/\∀v d H',But pp H H'->PurseAt H' pp->DatX (era (λa=>a=pp) H') v d->NoA n d->Q v H'
theorem xM5 {f fD:Addr}{fd fdD:FuncData}(F:Fun K "_law_odd_address" "_law_odd_address" qW9 f fd) (B:Blt mg)
  (hD:mg "_law_digit" = some (.ref fD)) (FD:Fun K "_law_digit" "_law_digit" qk6 fD fdD) (bD:Binds K fdD ["_law_pot_here", "_law_many"] []):FnOk P w K mg base CX0 2 f fd ["_law_pot_here", "_law_n"] spOa:=by
 have GD:FnOk P w K mg base CX0 1 fD fdD ["_law_pot_here", "_law_many"] qi2:=qh4 FD;refine F.ok scOa (λvs H Q E h=>?_) (λcdv A outer s H vs Q E hr h=>?_)
 ·obtain⟨pp,n,rfl,_⟩:=h
  rfl
 ·obtain⟨pp,n,rfl,hP,hn,q⟩:=h;refine seqE ⟨_,qy9 (i:=2) scOa.nd rfl (by first|left;rfl|right;rfl) ⟨@qg1 _ _ _ _ (@PAs.pa _ _ _ (PAs.cons qU5 (PAs.cons qk8 (PAs.cons qa5 (PAs.cons qa5 (PAs.cons (@qA3 _ 2 _ (.list [.str "0"]) (by kernel_rfl)) (PAs.cons (xK6 qc2) (PAs.cons qp9 (PAs.cons qc2 (PAs.cons qc2 (PAs.cons qc2 (PAs.cons qc2 (PAs.cons (qb0 xb2 qc2 (qb0 qc4 (pv 1) qa5)) (PAs.cons (qb0 xb2 qc2 (qb0 qc4 (pv 1) qa5)) PAs.nil))))))))))))))⟩ rfl rfl,?_⟩;refine qe5 ⟨_,⟨qa9 (pxN ix_list (pv 2) (pcN GD hr hD FD.kp bD (qa0 (pv 0) (qa0 (qa6 qb9 (by rfl) B.len ZM (qa0 (pv 2) qa2)) qa2))))⟩,?_⟩;obtain⟨pa,pb,k6,hpr⟩:=id hP;have k8:LsAt (λa=>a=pp) H:=by intro a z;cases z;exact⟨_,k6⟩
  have m1:=xj6 (n:=n) (k:=1) (by lia) (.inl rfl);have m9:=xj6 (n:=n) (k:=9) (by lia) (.inr rfl);refine qv7 (xg5 (p:=λa=>a=pp) (R:=NoA n) ?y0 ?l0 _ λD1 H1 b1=>?_)
  case l0=>show 13<=100;decide
  case y0=>exact⟨qr2 xt3 (qU2 λ_ e=>nomatch e),qr2 (xF0 _) (qU2 λ_ e=>nomatch e),qr2 (xg3 _) (qU2 λ_ e=>nomatch e),qr2 (xg3 _) (qU2 λ_ e=>nomatch e),qr2 (qP6 k8 2 (d:=.list [.str "0"]) rfl) (qU2 λ_ e=>nomatch e),qr2 (xK7 k8 (qC8 _)) (qU2 λ_ e=>nomatch e),qr2 (xg4 k8) (qU2 λ_ e=>nomatch e),qr2 (qC8 _) (q04 (by decide +kernel) (by decide +kernel)),qr2 (qC8 _) (q04 (by decide +kernel) (by decide +kernel)),qr2 (qC8 _) (q04 (by decide +kernel) (by decide +kernel)),qr2 (qC8 _) (q04 (by decide +kernel) (by decide +kernel)),
   qr2 (xu5 rfl (mul_one (by decide +kernel) (by lia) (by lia))) (xj7 (by rw[show ((n:Int)+1)=(n:Int)+(1:Nat) from rfl,m1.1];lia) (by rw[show ((n:Int)+1)=(n:Int)+(1:Nat) from rfl,m1.1];lia)),
   qr2 (xu5 rfl (mul_one (by decide +kernel) (by lia) (by lia))) (xj7 (by rw[show ((n:Int)+9)=(n:Int)+(9:Nat) from rfl,m9.2];lia) (by rw[show ((n:Int)+9)=(n:Int)+(9:Nat) from rfl,m9.2];lia)),trivial⟩
  have b1:Bag (λa=>a=pp) (NoA n) H 13 D1 H1:=b1;refine qC9 (σ':=[some (.ref pp),some (.int (n:Nat)),some (.ref D1)]) rfl ?_;have s4:=b1.same;obtain⟨xs5,H50,_,n50,_,hD5,lx5,_⟩:=id b1;refine⟨_,rfl,_,rfl,_,rfl,D1,_,rfl,.inl (SqL.of hD5),pp,13,by rw[lx5];rfl,hP.same s4,by decide,by decide,λi H7 hi b7 hP7=>?_⟩;obtain⟨xs,x,d,e1,e2,e3,e4⟩:=qY8 b1 k6 b7 hi;exact⟨D1,xs,(i:Int),x,rfl,rfl,SqL.of e1,qd8 e2,q x d H7 (λb o e n=>b7 b o (s4 _ _ e) n) hP7 e3 e4⟩
end
end Pr
namespace L2
open PySem PySem.Spec PyProof.Rows PySem.W
section
variable {X:Cx}
theorem xj8:qg3 X (.builtin "isinstance") (λxs H Q=>∃(a C tp:Addr) (cs:List Addr) (b:Bool),xs=[.ref a,.ref tp]/\H a=some (.ext (ExcAt a C))/\ExcCls X.K C/\H tp=some (.tup (cs.map V.ref))/\kitAny X.K (.ref C) (cs.map Value.ref)=some b/\Q (.bl b) H):=by
 intro j4 s σ H xs us Q I r h;obtain⟨a,C,tp,cs,b,rfl,ha,T,ht,hk,q⟩:=h;obtain⟨u,u',rfl,rx,rc⟩:=xk4 r;cases (show u=Value.ref a from rx);cases (show u'=Value.ref tp from rc);have p:ExcAt a C s.heap:=(I.hok a _ ha).1;obtain⟨_,its,rv,ob,ho,hc,n,hd⟩:=I.hok tp _ ht;have ei:∀{l:List Addr}{us:List Value},Vals (l.map V.ref) us->us=l.map Value.ref:=by
  intro l
  induction l with
  |nil=>intro us z;cases z;rfl
  |cons x l ih=>
   intro us z;cases z with
   |cons z1 z2=>
    cases (show _=Value.ref x from z1);rw[ih z2]
    rfl
 have e1:=ei rv;subst e1;obtain⟨c0,d0,dt,sl⟩:=ob;have c1:c0=_:=hc;have d1:dt=_:=hd;rw[c1,d1] at ho;exact kia_tup (qV6 T) I.kIn p ho hk (λz=>nomatch z) λtk=>⟨.bl b,H,I.tok _,rfl,q⟩
end
theorem xu6 {P:Program}{w:World}{K:PySem.W.Frag}{mg:Str->Option Value}{base:Heap}{k:Nat}{x f:Addr}{fd:FuncData}{ps:List Str}{sp sp':SpH}(F:FnOkH P w K mg base k x f fd ps sp) (G:FnOkH P w K mg base k x f fd ps sp') :
  FnOkH P w K mg base k x f fd ps (λvs H Q=>sp vs H Q\/sp' vs H Q):=
 ⟨λvs H Q h=>h.elim (F.len vs H Q) (G.len vs H Q),λA outer s H args us vs Q hr en b v h=>h.elim (F.run A outer s H args us vs Q hr en b v) (G.run A outer s H args us vs Q hr en b v)⟩
end L2
namespace Pr
open PySem L2 Qf
structure Kx (K:PySem.W.Frag) (mg:Str->Option Value) (CS CA CO FE o0 o1:Addr):Prop where
 s:mg "NoShape" = some (.ref CS)
 a:mg "NoAddress" = some (.ref CA)
 o:mg "OtherFloor" = some (.ref CO)
 fe:mg "FloorError" = some (.ref FE)
 a0:mg "NoCell" = some (.ref o0)
 a1:mg "NoFloor" = some (.ref o1)
 v:mg "ValueError" = none
structure Kin2 (K:PySem.W.Frag) (C CS CA CO o0 o1:Addr) (b0 b1 b2:Bool):Prop where
 ec:ExcCls K C
 v:PySem.W.kitOne K (.ref C) (.type "ValueError")=some true
 any:PySem.W.kitAny K (.ref C) [.ref o0,.ref o1]=some false
 s:PySem.W.kitOne K (.ref C) (.ref CS)=some b0
 t:PySem.W.kitOne K (.ref C) (.ref CA)=some b1
 u:PySem.W.kitOne K (.ref C) (.ref CO)=some b2
section
variable {P:Program}{w:World}{K:PySem.W.Frag}{mg:Str->Option Value}{base:Heap}
theorem scWord:FnScope ["_law_e", "_law_some"] ["_law_e"] (qa3 q33):=qd0
def q05 (C x:Addr) (t:Str):SpH:=λvs H Q=>vs=[.ref x]/\H x=some (.ext (ExcAt x C))/\∀H',Same H H'->Q (.str t) H'
theorem qU3 {f x C CS CA CO FE o0 o1:Addr}{fd:FuncData}{b0 b1 b2:Bool}{t:Str}(F:Fun K "_law_word" "_law_word" q33 f fd) (B:Blt mg) (hstr:mg "str" = none) (hsum:mg "sum" = none) (T:Kx K mg CS CA CO FE o0 o1) (k:Kin2 K C CS CA CO o0 o1 b0 b1 b2)
  (hb:(b0=true/\b1=false/\b2=false/\t=("shape1" : Str))\/(b0=false/\b1=true/\b2=false/\t=("address1" : Str))\/(b0=false/\b1=false/\b2=true/\t=("floor1" : Str))):FnOkH P w K mg base 1 x f fd ["_law_e"] (q05 C x t):=by
 refine F.okH scWord (λvs H Q h=>?_) (λcdv A outer s H vs Q hr h=>?_)
 ·obtain⟨rfl,_⟩:=h
  rfl
 ·obtain⟨rfl,hx,q⟩:=h;refine seqE ⟨_,⟨qc9 (PW.pt (qj6 (qh2 (qe3 (qa6 qd6 (by rfl) B.isi ZA (qa0 (pv 0) (qa0 (qh0 (v:=.ty "ValueError") (by rfl) T.v (by decide +kernel) rfl) qa2)))))
   (qg7 (qe3 (qa6 xj8 (by rfl) B.isi ZA (qa0 (pv 0) (qa0 (PEb.go ⟨qg0 (Ars2.go (.cons ⟨qc6 (v:=.ref o0) (by rfl) T.a0 rfl⟩ (.cons ⟨qc6 (v:=.ref o1) (by rfl) T.a1 rfl⟩ .nil rfl) rfl))⟩) qa2))))))) (qa8 (qa9 qc2)) qb1⟩,?_⟩
  refine seqE ⟨_,⟨psN 1 scWord.nd (qg1 (qa0 (qa6 qd6 (by rfl) B.isi ZA (qa0 (pv 0) (qa0 (qc6 (v:=.ref CS) (by rfl) T.s rfl) qa2)))
    (qa0 (qa6 qd6 (by rfl) B.isi ZA (qa0 (pv 0) (qa0 (qc6 (v:=.ref CA) (by rfl) T.a rfl) qa2)))
    (qa0 (qa6 qd6 (by rfl) B.isi ZA (qa0 (pv 0) (qa0 (qc6 (v:=.ref CO) (by rfl) T.o rfl) qa2))) qa2))))⟩,?_⟩
  refine qe5 ⟨_,⟨qa9 (qb0 qs0 (xC2 ix_list (qg1 (qa0 qc2 (qa0 qc2 (qa0 qc2 (qa0 qc2 qa2)))))
     (q72 ZY PySem.F.slot_list_index PySem.F.type_list_index xb3 (qb0 q73 (pv 1) (qg1 (qa0 qk8 qa2))) (qa0 qk8 qa2)) (λ_ _=>rfl))
    (qc1 qJ2 (by rfl) hstr PyProof.Rows.boot_str (qa0 (qa6 xa4 (by rfl) hsum PyProof.Rows.boot_sum (qa0 (pv 1) qa2)) qa2)))⟩,?_⟩
  have et:∀{H':Hp},H' x=some (.ext (ExcAt x C))->ExcT K H' (.ref x) (.ref C):=λh=>⟨x,C,rfl,h,k.ec,rfl⟩;refine⟨_,rfl,_,_,_,_,_,rfl,rfl,.inr (et hx),k.v,true,rfl,iteF ?_⟩;refine⟨_,rfl,(by show 2<=sizeLine;decide),λtp kN=>?_⟩;have S0:=qb3 (o:=.tup ([o0,o1].map V.ref)) kN;have ht0:upd H tp (.tup ([o0,o1].map V.ref)) tp=some (.tup ([o0,o1].map V.ref)):=qa1;have vO:=S0 _ _ hx;refine (λ(go:∀H0,Same H H0->H0 tp=some (.tup ([o0,o1].map V.ref))->H0 x=some (.ext (ExcAt x C))->_)=>go _ S0 ht0 vO) ?_;intro H0 S0 ht0 vO;refine⟨x,C,tp,_,false,rfl,vO,k.ec,ht0,k.any,false,rfl,iteF ?_⟩;refine⟨_,rfl,_,_,_,_,_,rfl,rfl,.inr (et vO),k.s,_,rfl,_,_,_,_,_,rfl,rfl,.inr (et vO),k.t,_,rfl,_,_,_,_,_,rfl,rfl,.inr (et vO),k.u,(by show 3<=sizeLine;decide),λl hl=>?_⟩;have S1:=S0.trans (qb3 (o:=.lst [.bl b0,.bl b1,.bl b2]) hl);have hl1:upd H0 l (.lst [.bl b0,.bl b1,.bl b2]) l=some (.lst [.bl b0,.bl b1,.bl b2]):=qa1;generalize upd H0 l (.lst [.bl b0,.bl b1,.bl b2])=H1 at S1 hl1;refine⟨by show 4<=sizeLine;decide,λl2 jP=>?_⟩;have S2:=S1.trans (qb3 (o:=.lst [.str "shape",.str "address",.str "floor",.str "other"]) jP);have h2:upd H1 l2 (.lst [.str "shape",.str "address",.str "floor",.str "other"]) l2=some (.lst [.str "shape",.str "address",.str "floor",.str "other"]):=qa1;have hl2':=qc0 (u:=.lst [.str "shape",.str "address",.str "floor",.str "other"]) hl1 jP;generalize upd H1 l2 (.lst [.str "shape",.str "address",.str "floor",.str "other"])=H2 at S2 h2 hl2';refine⟨_,rfl,by show 1<=sizeLine;decide,λl3 wV=>?_⟩;have S3:=S2.trans (qb3 (o:=.lst [.bl true]) wV);have h3:upd H2 l3 (.lst [.bl true]) l3=some (.lst [.bl true]):=qa1;have h3a:=qc0 (u:=.lst [.bl true]) hl2' wV;have h3b:=qc0 (u:=.lst [.bl true]) h2 wV;generalize upd H2 l3 (.lst [.bl true])=H3 at S3 h3 h3a h3b;refine⟨l,l3,_,_,rfl,rfl,h3a,h3,(by show 3+1<=sizeLine;decide),λl4 vJ=>?_⟩;have S4:=S3.trans (qb3 (o:=.lst ([.bl b0,.bl b1,.bl b2]++[.bl true])) vJ);have h4:upd H3 l4 (.lst ([.bl b0,.bl b1,.bl b2]++[.bl true])) l4=some (.lst (([b0,b1,b2,true]:List Bool).map V.bl)):=qa1;have h4a:=qc0 (u:=.lst ([.bl b0,.bl b1,.bl b2]++[.bl true])) h3a vJ;have h4b:=qc0 (u:=.lst ([.bl b0,.bl b1,.bl b2]++[.bl true])) h3b vJ;generalize upd H3 l4 (.lst ([.bl b0,.bl b1,.bl b2]++[.bl true]))=H4 at S4 h4 h4a h4b;refine⟨.inl ⟨rfl,_,SqL.of h4⟩,?_⟩;rcases hb with ⟨rfl,rfl,rfl,rfl⟩|⟨rfl,rfl,rfl,rfl⟩|⟨rfl,rfl,rfl,rfl⟩
  ·refine⟨l4,_,0,rfl,rfl,h4,rfl,(λm hm=>by lia),by decide,?_⟩;refine⟨l2,_,0,.str "shape",rfl,rfl,SqL.of h4b,qd8 (j:=0) rfl,?_⟩;refine⟨_,rfl,l,[true,false,false],x,C,rfl,h4a,hr.hd,S4 x _ hx,?_⟩;exact⟨_,rfl,by decide +kernel,_,_,rfl,rfl,by decide +kernel,q _ S4⟩
  ·refine⟨l4,_,1,rfl,rfl,h4,rfl,(λm hm=>by rw[show m=0 by lia];rfl),by decide,?_⟩;refine⟨l2,_,1,.str "address",rfl,rfl,SqL.of h4b,qd8 (j:=1) rfl,?_⟩;refine⟨_,rfl,l,[false,true,false],x,C,rfl,h4a,hr.hd,S4 x _ hx,?_⟩;exact⟨_,rfl,by decide +kernel,_,_,rfl,rfl,by decide +kernel,q _ S4⟩
  ·refine⟨l4,_,2,rfl,rfl,h4,rfl,(λm hm=>by rcases (show m=0\/m=1 by lia) with rfl|rfl<;>rfl),by decide,?_⟩;refine⟨l2,_,2,.str "floor",rfl,rfl,SqL.of h4b,qd8 (j:=2) rfl,?_⟩;refine⟨_,rfl,l,[false,false,true],x,C,rfl,h4a,hr.hd,S4 x _ hx,?_⟩;exact⟨_,rfl,by decide +kernel,_,_,rfl,rfl,by decide +kernel,q _ S4⟩
def qI4 (CS CA CO x:Addr):SpH:=λvs H Q=>q05 CS x "shape1" vs H Q\/q05 CA x "address1" vs H Q\/q05 CO x "floor1" vs H Q
theorem xq2 {f x CS CA CO FE o0 o1:Addr}{fd:FuncData}(F:Fun K "_law_word" "_law_word" q33 f fd) (B:Blt mg) (hstr:mg "str" = none) (hsum:mg "sum" = none) (T:Kx K mg CS CA CO FE o0 o1) (kS:Kin2 K CS CS CA CO o0 o1 true false false) (kA:Kin2 K CA CS CA CO o0 o1 false true false) (kO:Kin2 K CO CS CA CO o0 o1 false false true) :
  FnOkH P w K mg base 1 x f fd ["_law_e"] (qI4 CS CA CO x):=
 xu6 (qU3 F B hstr hsum T kS (.inl ⟨rfl,rfl,rfl,rfl⟩)) (xu6 (qU3 F B hstr hsum T kA (.inr (.inl ⟨rfl,rfl,rfl,rfl⟩))) (qU3 F B hstr hsum T kO (.inr (.inr ⟨rfl,rfl,rfl,rfl⟩))))
end
structure Kf (K:PySem.W.Frag) (CS CA CO FE:Addr):Prop where
 fs:PySem.W.exmOne K (.ref CS) (.ref FE)=some true
 fa:PySem.W.exmOne K (.ref CA) (.ref FE)=some true
 fo:PySem.W.exmOne K (.ref CO) (.ref FE)=some true
theorem q51 {H H1 H2:Hp}{xa:Addr}{o:HO}(s1:Same H H1) (hn:H1 xa=none) (s2:Same (upd H1 xa o) H2):Same H H2:=λb u e=>by
 have e1:=s1 b u e;exact s2 b u (by rw[qa7 (qa4 e1 hn)];exact e1)
section
variable {P:Program}{w:World}{K:PySem.W.Frag}{mg:Str->Option Value}{base:Heap}
abbrev nAt:List Str:=["_law_shape_here", "_law_address_here", "_law_told", "_law_e"]
theorem scAt:FnScope nAt ["_law_shape_here", "_law_address_here"] (qa3 lAt):=qd0
def spAt:Sp:=λvs H Q _=>∃(v v2:V) (d d2:PyData),vs=[v,v2]/\DatX H v d/\Bnd d/\DatX H v2 d2/\(∀x,d2=.str x->x.length<=100) /\
 ((¬IsSh d/\∀H',Same H H'->Q (.str "shape1") H')\/∃n tp rows,d=qe6 n tp rows/\Canon n tp rows /\
  ((isAd n d2=false/\∀H',Same H H'->Q (.str "address1") H') \/
   ∃ds,d2=.str (txt ds)/\(∀x∈ds,x<4)/\ds.length<=n/\∀H' t',Same H H'->ShT H' t' (n-ds.length) (subT (T rows tp) ds)->Q (.ref t') H'))
theorem xM6 {f fS fK CS CA CO FE:Addr}{fd fdS fdK:FuncData}(F:Fun K "_law_at" "_law_at" lAt f fd) (hFE:mg "FloorError" = some (.ref FE)) (T:Kf K CS CA CO FE)
  (hS:mg "square_at" = some (.ref fS)) (FS:Fun K "square_at" "square_at" xm2 fS fdS) (bS:Binds K fdS ["shape", "address"] []) (GS:FnOk P w K mg base (CX1 P w) 17 fS fdS ["shape", "address"] (spSa CS CA))
  (hK:mg "_law_word" = some (.ref fK)) (FK:Fun K "_law_word" "_law_word" q33 fK fdK) (bK:Binds K fdK ["_law_e"] []) (GK:∀x,FnOkH P w K mg base 1 x fK fdK ["_law_e"] (qI4 CS CA CO x)):FnOk P w K mg base CX0 18 f fd ["_law_shape_here", "_law_address_here"] spAt:=by
 refine F.ok scAt (λvs H Q E h=>?_) (λcdv A outer s H vs Q E hr h=>?_)
 ·obtain⟨v,v2,d,d2,rfl,_⟩:=h
  rfl
 ·obtain⟨v,v2,d,d2,rfl,hd,bn,jW,kW,cs⟩:=h;have jD:Room 1 _:=hr.mono (by decide);refine seqE ⟨_,⟨psN 2 scAt.nd qc2⟩,?_⟩;refine seqE ⟨_,⟨xr5 (i:=3) (FA:=FE) (tb:=λE=>_) (th:=λx=>_) rfl rfl rfl scAt.nd rfl rfl (by rfl) hFE
   (λj4 E=>qa8 (psN 2 scAt.nd (qh8 GS hr (by rfl) hS FS.kp bS .nil (xa0 rfl) (qa0 (pv 0) (qa0 (pv 1) qa2)))))
   (λx=>qa8 (psN 2 scAt.nd (qV7 (GK x) (jD.toH x) (by rfl) hK FK.kp bK (qa0 (pv 3) qa2))))⟩,?_⟩
  refine qe5 ⟨_,⟨qa9 (pv 2)⟩,?_⟩;refine⟨_,rfl,_,rfl,v,v2,d,d2,rfl,hd,bn,jW,kW,?_⟩;rcases cs with ⟨no,q⟩|⟨n,tp,rows,e,cn,⟨no,q⟩|⟨ds,e2,h4,hl,q⟩⟩
  ·exact .inl ⟨no,λH' s'=>⟨CS,rfl,T.fs,λxa vM=>⟨_,rfl,.inl ⟨rfl,qa1,λH2 s2=>⟨_,rfl,q H2 (q51 s' vM s2)⟩⟩⟩⟩⟩
  ·exact .inr ⟨n,tp,rows,e,cn,.inl ⟨no,λH' s'=>⟨CA,rfl,T.fa,λxa vM=>⟨_,rfl,.inr (.inl ⟨rfl,qa1,λH2 s2=>⟨_,rfl,q H2 (q51 s' vM s2)⟩⟩)⟩⟩⟩⟩
  ·exact .inr ⟨n,tp,rows,e,cn,.inr ⟨ds,e2,h4,hl,λH' t' s' sh=>⟨_,rfl,q H' t' s' sh⟩⟩⟩
abbrev nWi:List Str:=["_law_shape_here", "_law_address_here", "_law_other", "_law_told", "_law_e"]
theorem scWi:FnScope nWi nPt3 (qa3 xb6):=qd0
def spWi:Sp:=λvs H Q _=>∃(v v2 v3:V) (d d2 d3:PyData),vs=[v,v2,v3]/\DatX H v d/\Bnd d/\DatX H v2 d2/\(∀x,d2=.str x->x.length<=100)/\DatX H v3 d3/\Bnd d3 /\
 ((¬IsSh d/\∀H',Same H H'->Q (.str "shape1") H')\/(IsSh d/\¬IsSh d3/\∀H',Same H H'->Q (.str "shape1") H')\/∃n tp rows m tq rows3,d=qe6 n tp rows/\Canon n tp rows/\d3=qe6 m tq rows3/\Canon m tq rows3 /\
  ((isAd n d2=false/\∀H',Same H H'->Q (.str "address1") H')\/∃ds,d2=.str (txt ds)/\(∀x∈ds,x<4)/\ds.length<=n /\
   ((m≠n-ds.length/\∀H',Same H H'->Q (.str "floor1") H') \/
    (m=n-ds.length/\nds (putT (T rows tp) ds (T rows3 tq))<=990/\∀H' t',Same H H'->ShT H' t' n (putT (T rows tp) ds (T rows3 tq))->Q (.ref t') H'))))
theorem xM7 {f fS fK CS CA CO FE:Addr}{fd fdS fdK:FuncData}(F:Fun K "_law_with" "_law_with" xb6 f fd) (hFE:mg "FloorError" = some (.ref FE)) (T:Kf K CS CA CO FE)
  (hS:mg "with_square" = some (.ref fS)) (FS:Fun K "with_square" "with_square" qF5 fS fdS) (bS:Binds K fdS ["shape", "address", "other"] []) (GS:FnOk P w K mg base (CX1 P w) 17 fS fdS ["shape", "address", "other"] (spWs CS CA CO))
  (hK:mg "_law_word" = some (.ref fK)) (FK:Fun K "_law_word" "_law_word" q33 fK fdK) (bK:Binds K fdK ["_law_e"] []) (GK:∀x,FnOkH P w K mg base 1 x fK fdK ["_law_e"] (qI4 CS CA CO x)):FnOk P w K mg base CX0 18 f fd nPt3 spWi:=by
 refine F.ok scWi (λvs H Q E h=>?_) (λcdv A outer s H vs Q E hr h=>?_)
 ·obtain⟨v,v2,v3,d,d2,d3,rfl,_⟩:=h
  rfl
 ·obtain⟨v,v2,v3,d,d2,d3,rfl,hd,bn,jW,kW,jV,bn3,cs⟩:=h;have jD:Room 1 _:=hr.mono (by decide);refine seqE ⟨_,⟨psN 3 scWi.nd qc2⟩,?_⟩;refine seqE ⟨_,⟨xr5 (i:=4) (FA:=FE) (tb:=λE=>_) (th:=λx=>_) rfl rfl rfl scWi.nd rfl rfl (by rfl) hFE
   (λj4 E=>qa8 (psN 3 scWi.nd (qh8 GS hr (by rfl) hS FS.kp bS .nil (xa0 rfl) (qa0 (pv 0) (qa0 (pv 1) (qa0 (pv 2) qa2))))))
   (λx=>qa8 (psN 3 scWi.nd (qV7 (GK x) (jD.toH x) (by rfl) hK FK.kp bK (qa0 (pv 4) qa2))))⟩,?_⟩
  refine qe5 ⟨_,⟨qa9 (pv 3)⟩,?_⟩;refine⟨_,rfl,_,rfl,_,rfl,v,v2,v3,d,d2,d3,rfl,hd,bn,jW,kW,jV,bn3,?_⟩;rcases cs with ⟨no,q⟩|⟨ys,no,q⟩|⟨n,tp,rows,m,tq,rows3,e,cn,e3,cn3,⟨no,q⟩|⟨ds,e2,h4,hl,⟨hm,q⟩|⟨hm,h9,q⟩⟩⟩
  ·exact .inl ⟨no,λH' s'=>⟨CS,rfl,T.fs,λxa vM=>⟨_,rfl,.inl ⟨rfl,qa1,λH2 s2=>⟨_,rfl,q H2 (q51 s' vM s2)⟩⟩⟩⟩⟩
  ·exact .inr (.inl ⟨ys,no,λH' s'=>⟨CS,rfl,T.fs,λxa vM=>⟨_,rfl,.inl ⟨rfl,qa1,λH2 s2=>⟨_,rfl,q H2 (q51 s' vM s2)⟩⟩⟩⟩⟩)
  ·exact .inr (.inr ⟨n,tp,rows,m,tq,rows3,e,cn,e3,cn3,.inl ⟨no,λH' s'=>⟨CA,rfl,T.fa,λxa vM=>⟨_,rfl,.inr (.inl ⟨rfl,qa1,λH2 s2=>⟨_,rfl,q H2 (q51 s' vM s2)⟩⟩)⟩⟩⟩⟩)
  ·exact .inr (.inr ⟨n,tp,rows,m,tq,rows3,e,cn,e3,cn3,.inr ⟨ds,e2,h4,hl,.inl ⟨hm,λH' s'=>⟨CO,rfl,T.fo,λxa vM=>⟨_,rfl,.inr (.inr ⟨rfl,qa1,λH2 s2=>⟨_,rfl,q H2 (q51 s' vM s2)⟩⟩)⟩⟩⟩⟩⟩)
  ·exact .inr (.inr ⟨n,tp,rows,m,tq,rows3,e,cn,e3,cn3,.inr ⟨ds,e2,h4,hl,.inr ⟨hm,h9,λH' t' s' sh=>⟨_,rfl,q H' t' s' sh⟩⟩⟩⟩)
end
theorem qP8 {H:Hp}{t:Addr}{n tp:Nat}{rows:List Row}(h:TellAt H t n tp rows):DatX H (.ref t) (qe6 n tp rows):=DatX.of (qe2 h)
theorem qr4 {n tp:Nat}{rows:List Row}(c:rows.length<=990):Bnd (qe6 n tp rows):=λd0 d1 ds e=>by
 unfold qe6 at e;injection e with e
 injection e with _ e
 injection e with _ e
 injection e with e _
 injection e with e
 rw[<- e,Zi];exact c
section
variable {P:Program}{w:World}{K:PySem.W.Frag}{mg:Str->Option Value}{base:Heap}
abbrev nRf:List Str:=["_law_pot_here", "_law_shape_here", "_law_address_here", "_law_other", "_law_n", "_law_odd", "_law_none", "_law_far"]
abbrev nRf4:List Str:=["_law_pot_here", "_law_shape_here", "_law_address_here", "_law_other"]
theorem scRf:FnScope nRf nRf4 (qa3 qv1):=qd0
def spRf:Sp:=λvs H Q _=>∃(p t o:Addr) (n:Nat) (ds:List Nat) (s u:Tr),vs=[.ref p,.ref t,.str (txt ds),.ref o]/\PurseAt H p/\(∀d∈ds,d<4)/\ds.length<=n/\ShT H t n s/\ShT H o (n-ds.length) u/\∀H',But p H H'->Q (.bl true) H'
theorem xM8 {f fD fO fA fH fT fW:Addr}{fd fdD fdO fdA fdH fdT fdW:FuncData}(F:Fun K "_law_refused" "_law_refused" qv1 f fd) (B:Blt mg)
  (hD:mg "_law_digit" = some (.ref fD)) (FD:Fun K "_law_digit" "_law_digit" qk6 fD fdD) (bD:Binds K fdD ["_law_pot_here", "_law_many"] [])
  (hO:mg "_law_odd_shape" = some (.ref fO)) (FO:Fun K "_law_odd_shape" "_law_odd_shape" qW8 fO fdO) (bO:Binds K fdO ["_law_pot_here"] [])
  (hA:mg "_law_odd_address" = some (.ref fA)) (FA:Fun K "_law_odd_address" "_law_odd_address" qW9 fA fdA) (bA:Binds K fdA ["_law_pot_here", "_law_n"] [])
  (hH:mg "_law_shape" = some (.ref fH)) (FH:Fun K "_law_shape" "_law_shape" qB6 fH fdH) (bH:Binds K fdH ["_law_n", "_law_boxes_here"] []) (GH:FnOk P w K mg base CX0 15 fH fdH ["_law_n", "_law_boxes_here"] xi7)
  (hT:mg "_law_at" = some (.ref fT)) (FT:Fun K "_law_at" "_law_at" lAt fT fdT) (bT:Binds K fdT ["_law_shape_here", "_law_address_here"] []) (GT:FnOk P w K mg base CX0 18 fT fdT ["_law_shape_here", "_law_address_here"] spAt)
  (hW:mg "_law_with" = some (.ref fW)) (FW:Fun K "_law_with" "_law_with" xb6 fW fdW) (bW:Binds K fdW nPt3 []) (GW:FnOk P w K mg base CX0 18 fW fdW nPt3 spWi):FnOk P w K mg base CX0 19 f fd nRf4 spRf:=by
 have GD:FnOk P w K mg base CX0 1 fD fdD ["_law_pot_here", "_law_many"] qi2:=qh4 FD;have GO:FnOk P w K mg base CX0 2 fO fdO ["_law_pot_here"] spOs:=xM4 FO B hD FD bD;have GA:FnOk P w K mg base CX0 2 fA fdA ["_law_pot_here", "_law_n"] spOa:=xM5 FA B hD FD bD;refine F.ok scRf (λvs H Q E h=>?_) (λcdv A outer s0 H vs Q E hr h=>?_)
 ·obtain⟨p,t,o,n,ds,s,u,rfl,_⟩:=h
  rfl
 ·obtain⟨p,t,o,n,ds,s,u,rfl,hp,j9,hl,⟨tp,rows,⟨hTl,cn,hb⟩,rfl⟩,⟨tq,rows3,⟨hOl,cn3,y7⟩,rfl⟩,q⟩:=h;have jD:Room 1 _:=hr.mono (by decide);have jZ:Room 2 _:=hr.mono (by decide);have hr15:Room 15 _:=hr.mono (by decide);refine seqE ⟨_,⟨psN 4 scRf.nd (pxN ix_tup (pv 1) qa5)⟩,?_⟩;refine seqE ⟨_,⟨psN 5 scRf.nd (pcN GO jZ hO FO.kp bO (qa0 (pv 0) qa2))⟩,?_⟩;refine seqE ⟨_,⟨psN 6 scRf.nd (pcN GA jZ hA FA.kp bA (qa0 (pv 0) (qa0 (pv 4) qa2)))⟩,?_⟩;refine seqE ⟨_,⟨psN 7 scRf.nd (pcN GH hr15 hH FH.kp bH (Ars2.go (.cons ⟨qb0 qt3 (qb0 qc4 (qb0 qc4 (pxN ix_tup (pv 3) qa5) qa5) (pcN GD jD hD FD.kp bD (qa0 (pv 0) (qa0 qa5 qa2)))) qa5⟩ (.cons ⟨qg1 qa2⟩ .nil rfl) rfl)))⟩,?_⟩;refine seqE ⟨_,⟨qc9 (PW.pt (qj6 (qb2 qw6 (PEb.go ⟨pcN GT hr hT FT.kp bT (qa0 (pv 5) (qa0 (pv 6) qa2))⟩) qc2 (qb4 _)) (qg7 (qb2 qw6 (PEb.go ⟨pcN GT hr hT FT.kp bT (qa0 (pv 1) (qa0 (pv 6) qa2))⟩) qc2 (qb4 _))))) qc3 qb1⟩,?_⟩;refine seqE ⟨_,⟨qc9 (PW.pt (qj6 (qb2 qw6 (PEb.go ⟨pcN GW hr hW FW.kp bW (qa0 (pv 5) (qa0 (pv 6) (qa0 (pv 7) qa2)))⟩) qc2 (qb4 _)) (qg7 (qb2 qw6 (PEb.go ⟨pcN GW hr hW FW.kp bW (qa0 (pv 1) (qa0 (pv 6) (qa0 (pv 5) qa2)))⟩) qc2 (qb4 _))))) qc3 qb1⟩,?_⟩;refine qe5 ⟨_,⟨qa9 (qi4 (qf7 qw5 (PEb.go ⟨pcN GW hr hW FW.kp bW (qa0 (pv 1) (qa0 (pv 6) (qa0 (pv 7) qa2)))⟩) qc2 (qb4 _)) (qj3 (qf7 qw5 (PEb.go ⟨pcN GW hr hW FW.kp bW (qa0 (pv 1) (qa0 (pv 2) (qa0 (pv 7) qa2)))⟩) qc2 (qb4 _))))⟩,?_⟩;obtain⟨rp,ht,_⟩:=id hTl;obtain⟨rp3,ho,_⟩:=id hOl;obtain⟨pa,pb,k6,_⟩:=id hp;have hn:=cn.size;have nop:∀{x:Addr}{l:List V},H x=some (.tup l)->x≠p:=λh=>qD3 h k6 (λz=>nomatch z);refine⟨_,rfl,t,_,0,.int (n:Nat),rfl,rfl,SqT.of ht,rfl,?_⟩;refine⟨_,rfl,p,rfl,hp,λv5 d5 H1 b1 jG dx1 bn1 no1=>?_⟩;refine⟨_,rfl,_,rfl,p,n,rfl,jG,hn,λv6 d6 H2 b2 jR dx2 na=>?_⟩;refine⟨_,rfl,o,_,0,.int ((n-ds.length:Nat):Int),rfl,rfl,SqT.of (b2 _ _ (b1 _ _ ho (nop ho)) (nop ho)),rfl,_,_,rfl,rfl,_,rfl,p,12,rfl,jR,by decide,by decide,λe H3 he b3 kC=>?_⟩;refine⟨_,_,rfl,rfl,_,_,rfl,rfl,(by show (0:Int)<13;decide),(by show 0<=sizeLine;decide),λl wU=>?_⟩;obtain⟨m,em,hm1,wS⟩:∃m:Nat,(((n-ds.length:Nat):Int)+1+(e:Int))%13=(m:Int)/\m<=12/\m≠n-ds.length:=⟨(n-ds.length+1+e)%13,by lia,by lia,by lia⟩;refine⟨l,m,[],by rw[<- em];rfl,⟨[],qa1,rfl,λi b r z=>by simp at z⟩,⟨λb hb=>(nomatch hb),.inr ⟨by decide,λb hb=>(nomatch hb)⟩⟩,hm1,λH5 far s5 shf=>?_⟩;have s35:Same H3 H5:=(qb3 wU).trans s5;have B25:But p H2 H5:=λb o z n=>s35 _ _ (b3 _ _ z n);have B15:But p H1 H5:=λb o z n=>B25 _ _ (b2 _ _ z n) n;have B05:But p H H5:=λb o z n=>B15 _ _ (b1 _ _ z n) n;have x5:DatX H5 v5 d5:=(dx1.same (qH5 (λ_ z=>z) B15)).same xg1;have x6:DatX H5 v6 d6:=(dx2.same (qH5 (λ_ z=>z) B25)).same xg1;have xt:DatX H5 (.ref t) (qe6 n tp rows):=qP8 (hTl.mono (B05.tups k6 (λu z=>nomatch z)));have xf:=qP8 shf.1;have cf:=shf.2.1;have bf:=qr4 (n:=m) (tp:=bTop m []) shf.2.2;have bt:=qr4 (n:=n) (tp:=tp) hb;have ys:IsSh (qe6 n tp rows):=⟨_,_,_,rfl,cn⟩;clear dx1 dx2 jG jR kC b1 b2 b3 s5 s35 em;refine⟨_,rfl,_,rfl,v5,v6,d5,d6,rfl,x5,bn1,x6,na.2,.inl ⟨no1,λH6 s6=>⟨rfl,_,rfl,?_⟩⟩⟩;rw[Zj rfl];refine iteF ⟨_,rfl,_,rfl,.ref t,v6,_,d6,rfl,xt.same s6,bt,x6.same s6,na.2,.inr ⟨n,tp,rows,rfl,cn,.inl ⟨na.1,λH7 s7=>⟨rfl,_,rfl,?_⟩⟩⟩⟩;rw[Zj rfl];have S7:=s6.trans s7;refine iteF ⟨_,rfl,_,rfl,_,rfl,v5,v6,.ref far,d5,d6,_,rfl,x5.same S7,bn1,x6.same S7,na.2,xf.same S7,bf,.inl ⟨no1,λH8 s8=>⟨rfl,_,rfl,?_⟩⟩⟩;rw[Zj rfl];have S8:=S7.trans s8;refine iteF ⟨_,rfl,_,rfl,_,rfl,.ref t,v6,v5,_,d6,d5,rfl,xt.same S8,bt,x6.same S8,na.2,x5.same S8,bn1,.inr (.inl ⟨ys,no1,λH9 s9=>⟨rfl,_,rfl,?_⟩⟩)⟩;rw[Zj rfl];have S9:=S8.trans s9;refine iteF ⟨_,rfl,_,rfl,_,rfl,.ref t,v6,.ref far,_,d6,_,rfl,xt.same S9,bt,x6.same S9,na.2,xf.same S9,bf,.inr (.inr ⟨n,tp,rows,m,_,_,rfl,cn,rfl,cf,.inl ⟨na.1,λHA sA=>⟨rfl,_,rfl,?_⟩⟩⟩)⟩;rw[Zj rfl];have SA:=S9.trans sA;refine iteT ⟨_,rfl,_,rfl,_,rfl,.ref t,.str (txt ds),.ref far,_,.str (txt ds),_,rfl,xt.same SA,bt,.str _,λx z=>?_,xf.same SA,bf,.inr (.inr ⟨n,tp,rows,m,_,_,rfl,cn,rfl,cf,.inr ⟨ds,rfl,j9,hl,.inl ⟨wS,λHB sB=>⟨rfl,?_⟩⟩⟩⟩)⟩
  ·cases z;rw[qd2];lia
  ·rw[Zj rfl];exact q HB (λb o z n=>sB _ _ (SA _ _ (B05 b o z n)))
end
theorem q52:(List.range 1000).all (λx=>decide ((PyData.shown (.int ((x:Nat):Int))).length<=3))=true:=by decide +kernel
theorem qI5 {x:Nat}(h:x<1000):(PyData.shown (.int ((x:Nat):Int))).length<=3:=Zq (Ym.mp q52 x (ZW.mpr h))
theorem qI6 {x:Nat}(h:x<1000):((x:Nat):Int).natAbs.log2<1920:=by
 rw[Int.natAbs_natCast];have:x.log2<=x:=Nat.log2_le_self x;lia
theorem qP9:∀(r:Row),(∀x∈r,x<1000)->((PyData.shownAll ((r.map λx:Nat=>(x:Int)).map PyData.int)).map (·.length)).sum<=3*r.length/\(PyData.shownAll ((r.map λx:Nat=>(x:Int)).map PyData.int)).length=r.length
 |[],_=>⟨Zd _,rfl⟩
 |x::r,h=>by
  obtain⟨h1,h2⟩:=qP9 r λy hy=>h y (Ze _ hy);have h3:=qI5 (h x Zh);constructor
  ·show (PyData.shown (.int ((x:Nat):Int))).length+((PyData.shownAll ((r.map λx:Nat=>(x:Int)).map PyData.int)).map (·.length)).sum<=3*(r.length+1);lia
  ·show (PyData.shownAll ((r.map λx:Nat=>(x:Int)).map PyData.int)).length+1=r.length+1;rw[h2]
theorem qD1:∀(rows:List Row),(∀r∈rows,r.length=4/\∀x∈r,x<1000)->((PyData.shownAll (qk7 rows)).map (·.length)).sum<=23*rows.length/\(PyData.shownAll (qk7 rows)).length=rows.length
 |[],_=>⟨Zd _,rfl⟩
 |r::rows,h=>by
  obtain⟨h1,h2⟩:=qD1 rows λy hy=>h y (Ze _ hy);obtain⟨h4,hx⟩:=h r Zh;obtain⟨h5,h6⟩:=qP9 r hx;have h7:(PyData.shown (dT (r.map λx:Nat=>(x:Int)))).length<=23:=by
   have:=tupleText_len_le (PyData.shownAll ((r.map λx:Nat=>(x:Int)).map PyData.int));show (tupleText (PyData.shownAll ((r.map λx:Nat=>(x:Int)).map PyData.int))).length<=23;rw[h6] at this;lia
  constructor
  ·show (PyData.shown (dT (r.map λx:Nat=>(x:Int)))).length+((PyData.shownAll (qk7 rows)).map (·.length)).sum<=23*(rows.length+1);lia
  ·show (PyData.shownAll (qk7 rows)).length+1=rows.length+1;rw[h2]
theorem qn1 {n top:Nat}{rows:List Row}(c:Canon n top rows) (hl:rows.length<=990):(qe6 n top rows).shown.length<=sizeLine:=by
 have jL:=c.inn;have hn:=c.size;have hr:∀r∈rows,r.length=4/\∀x∈r,x<1000:=λr hm=>by
  obtain⟨i,hi,e⟩:=ZJ.mp hm;obtain⟨h4,hx⟩:=c.rok i r (by rw[Zb hi,e]);exact⟨h4,λx hm=>by have:=hx x hm;lia⟩
 obtain⟨h1,h2⟩:=qD1 rows hr;have h3:=tupleText_len_le (PyData.shownAll (qk7 rows));have h4:=tupleText_len_le [PyData.shown (.int ((n:Nat):Int)),PyData.shown (.int ((top:Nat):Int)),tupleText (PyData.shownAll (qk7 rows))];have h5:=qI5 (show n<1000 by lia);have h6:=qI5 (show top<1000 by lia);rw[h2] at h3;show (tupleText [PyData.shown (.int ((n:Nat):Int)),PyData.shown (.int ((top:Nat):Int)),tupleText (PyData.shownAll (qk7 rows))]).length<=sizeLine;have e:sizeLine=16777216:=by decide
 simp only[Zz,X7,We,List.sum_nil,Zy,Vv] at h4;lia
theorem q06:∀(r:Row),(∀x∈r,x<1000)->PyData.showableAll ((r.map λx:Nat=>(x:Int)).map PyData.int)=true
 |[],_=>rfl
 |x::r,h=>by
  show (decide (((x:Nat):Int).natAbs.log2<1920)&&PyData.showableAll ((r.map λx:Nat=>(x:Int)).map PyData.int))=true;rw[q06 r λy hy=>h y (Ze _ hy),Zj (qI6 (h x Zh))]
  rfl
theorem qQ0:∀(rows:List Row),(∀r∈rows,∀x∈r,x<1000)->PyData.showableAll (qk7 rows)=true
 |[],_=>rfl
 |r::rows,h=>by
  show (PyData.showableAll ((r.map λx:Nat=>(x:Int)).map PyData.int)&&PyData.showableAll (qk7 rows))=true;rw[qQ0 rows λy hy=>h y (Ze _ hy),q06 r (h r Zh)]
  rfl
theorem qr5 {n top:Nat}{rows:List Row}(c:Canon n top rows) (hl:rows.length<=990):(qe6 n top rows).showable=true:=by
 have jL:=c.inn;have hn:=c.size;have hr:∀r∈rows,∀x∈r,x<1000:=λr hm x hxm=>by
  obtain⟨i,hi,e⟩:=ZJ.mp hm;have:=(c.rok i r (by rw[Zb hi,e])).2 x hxm;lia
 show (decide (((n:Nat):Int).natAbs.log2<1920)&&(decide (((top:Nat):Int).natAbs.log2<1920)&&(PyData.showableAll (qk7 rows)&&true)))=true;rw[qQ0 rows hr,Zj (qI6 (show n<1000 by lia)),Zj (qI6 (show top<1000 by lia))]
 rfl
theorem qD2:∀(r:List Int),PyData.hasDictAll (r.map PyData.int)=false
 |[]=>rfl
 |x::r=>by
  show (false||PyData.hasDictAll (r.map PyData.int))=false;rw[qD2 r];rfl
theorem qA4:∀(rows:List Row),PyData.hasDictAll (qk7 rows)=false
 |[]=>rfl
 |r::rows=>by
  show (PyData.hasDictAll ((r.map λx:Nat=>(x:Int)).map PyData.int)||PyData.hasDictAll (qk7 rows))=false;rw[qD2,qA4 rows];rfl
theorem qk4 (n top:Nat) (rows:List Row):(qe6 n top rows).hasDict=false:=by
 show (false||(false||(PyData.hasDictAll (qk7 rows)||false)))=false;rw[qA4];rfl
theorem qn2 {H H1 H2:Hp}{p:Addr}(s:Same H H1) (hp:H p=none) (b:But p H1 H2):Same H H2:=λc o e=>b _ _ (s _ _ e) (qa4 e hp)
theorem none_of {H H1:Hp}{a:Addr}(s:Same H H1) (h:H1 a=none):H a=none:=by
 cases e:H a with
 |none=>rfl
 |some o=>rw[s _ _ e] at h;cases h
theorem qI7 {p:Addr}{H H':Hp}(hp:PurseAt H p) (b:But p H H'):Tups H H':=λa u e=>b a _ e λz=>by
 obtain⟨x,y,h,_⟩:=hp;rw[z,h] at e;cases e
theorem ShT.mono {H H':Hp}{t:Addr}{n:Nat}{s:Tr}(h:ShT H t n s) (k:Tups H H'):ShT H' t n s:=let ⟨tp,rows,⟨a,b,c⟩,e⟩:=h;⟨tp,rows,⟨a.mono k,b,c⟩,e⟩
theorem ShT.two {H H':Hp}{t t':Addr}{n:Nat}{s:Tr}(h:ShT H t n s) (h':ShT H' t' n s):∃tp rows,TellAt H t n tp rows/\TellAt H' t' n tp rows/\Canon n tp rows/\rows.length<=990:=by
 obtain⟨tp,rows,⟨a,b,c⟩,e⟩:=h;obtain⟨tp',rows',⟨a',b',c'⟩,e'⟩:=h';obtain⟨rfl,rfl⟩:=q34 b b' (e.trans e'.symm);exact⟨tp,rows,a,a',b,c⟩
theorem xH4 {ds:List Nat}{n:Nat}(hn:n<=12) (hl:ds.length<=n):∀x,PyData.str (txt ds)=.str x->x.length<=100:=λx z=>by
 cases z;rw[qd2];lia
def xM9:Sp:=λvs H Q _=>∃(t:Addr) (n:Nat) (s:Tr) (ds:List Nat),vs=[.ref t,.str (txt ds)]/\ShT H t n s/\(∀d∈ds,d<4)/\ds.length<=n/\∀H' t',Same H H'->ShT H' t' (n-ds.length) (subT s ds)->Q (.ref t') H'
theorem xN0 (vs:List V) (H:Hp) (Q:VK) (E:XK) (h:xM9 vs H Q E):spAt vs H Q E:=by
 obtain⟨t,n,s,ds,rfl,⟨tp,rows,⟨hT,cn,hb⟩,rfl⟩,j9,hl,q⟩:=h;exact⟨_,_,_,_,rfl,qP8 hT,qr4 hb,.str _,xH4 cn.size hl,.inr ⟨n,tp,rows,rfl,cn,.inr ⟨ds,rfl,j9,hl,q⟩⟩⟩
def xN1:Sp:=λvs H Q _=>∃(t o:Addr) (n:Nat) (s u:Tr) (ds:List Nat),vs=[.ref t,.str (txt ds),.ref o]/\ShT H t n s/\ShT H o (n-ds.length) u/\(∀d∈ds,d<4)/\ds.length<=n/\nds (putT s ds u)<=990/\∀H' t',Same H H'->ShT H' t' n (putT s ds u)->Q (.ref t') H'
theorem xN2 (vs:List V) (H:Hp) (Q:VK) (E:XK) (h:xN1 vs H Q E):spWi vs H Q E:=by
 obtain⟨t,o,n,s,u,ds,rfl,⟨tp,rows,⟨hT,cn,hb⟩,rfl⟩,⟨tq,rows3,⟨hO,cn3,y7⟩,rfl⟩,j9,hl,h9,q⟩:=h;exact⟨_,_,_,_,_,_,rfl,qP8 hT,qr4 hb,.str _,xH4 cn.size hl,qP8 hO,qr4 y7,.inr (.inr ⟨n,tp,rows,_,tq,rows3,rfl,cn,rfl,cn3,.inr ⟨ds,rfl,j9,hl,.inr ⟨rfl,h9,q⟩⟩⟩)⟩
section
variable {P:Program}{w:World}{K:PySem.W.Frag}{mg:Str->Option Value}{base:Heap}
abbrev nLaw:List Str:=["_law_script", "_law_k", "_law_pot_here", "_law_n", "_law_boxes_here", "_law_shape_here", "_law_address_here", "_law_other", "_law_there", "_law_both", "_law_apart_here"]
theorem scLaw:FnScope nLaw ["_law_script"] (qa3 lLaw):=qd0
def xq3 (K:PySem.W.Frag):Sp:=λvs H Q _=>∃(a:Addr) (ns:List Int),vs=[.ref a]/\SqL K H a (ns.map V.int)/\ns.length<=63/\∀H',Q (.bl true) H'
theorem xH5 {f fP fD fX fH fA fL fM fT fW fE fR:Addr}{fd fdP fdD fdX fdH fdA fdL fdM fdT fdW fdE fdR:FuncData}(F:Fun K "law" "law" lLaw f fd) (B:Blt mg) (C:Blt2 mg)
  (hP:mg "_law_pot" = some (.ref fP)) (FP:Fun K "_law_pot" "_law_pot" lPot fP fdP) (bP:Binds K fdP ["_law_script", "_law_k"] [])
  (hD:mg "_law_digit" = some (.ref fD)) (FD:Fun K "_law_digit" "_law_digit" qk6 fD fdD) (bD:Binds K fdD ["_law_pot_here", "_law_many"] [])
  (hX:mg "_law_boxes" = some (.ref fX)) (FX:Fun K "_law_boxes" "_law_boxes" qM6 fX fdX) (bX:Binds K fdX ["_law_pot_here", "_law_n"] []) (GX:FnOk P w K mg base CX0 3 fX fdX ["_law_pot_here", "_law_n"] qT8)
  (hH:mg "_law_shape" = some (.ref fH)) (FH:Fun K "_law_shape" "_law_shape" qB6 fH fdH) (bH:Binds K fdH ["_law_n", "_law_boxes_here"] []) (GH:FnOk P w K mg base CX0 15 fH fdH ["_law_n", "_law_boxes_here"] xi7)
  (hA:mg "_law_address" = some (.ref fA)) (FA:Fun K "_law_address" "_law_address" qq1 fA fdA) (bA:Binds K fdA ["_law_pot_here", "_law_n"] [])
  (hL:mg "_law_left_there" = some (.ref fL)) (FL:Fun K "_law_left_there" "_law_left_there" qF7 fL fdL) (bL:Binds K fdL nLt3 []) (GL:FnOk P w K mg base CX0 16 fL fdL nLt3 spLt)
  (hM:mg "_law_put_together" = some (.ref fM)) (FM:Fun K "_law_put_together" "_law_put_together" qF8 fM fdM) (bM:Binds K fdM nPt3 []) (GM:FnOk P w K mg base CX0 28 fM fdM nPt3 spPt)
  (hT:mg "_law_at" = some (.ref fT)) (FT:Fun K "_law_at" "_law_at" lAt fT fdT) (bT:Binds K fdT ["_law_shape_here", "_law_address_here"] []) (GT:FnOk P w K mg base CX0 18 fT fdT ["_law_shape_here", "_law_address_here"] spAt)
  (hW:mg "_law_with" = some (.ref fW)) (FW:Fun K "_law_with" "_law_with" xb6 fW fdW) (bW:Binds K fdW nPt3 []) (GW:FnOk P w K mg base CX0 18 fW fdW nPt3 spWi)
  (hE:mg "_law_apart" = some (.ref fE)) (FE:Fun K "_law_apart" "_law_apart" qM8 fE fdE) (bE:Binds K fdE nAp3 [])
  (hR:mg "_law_refused" = some (.ref fR)) (FR:Fun K "_law_refused" "_law_refused" qv1 fR fdR) (bR:Binds K fdR nRf4 []) (GR:FnOk P w K mg base CX0 19 fR fdR nRf4 spRf) :
  FnOk P w K mg base CX0 29 f fd ["_law_script"] (xq3 K):=by
 have GT:=GT.imp xN0;have GW:=GW.imp xN2;have GP:FnOk P w K mg base CX0 1 fP fdP ["_law_script", "_law_k"] (xE3 K):=xE4 FP B C;have GD:FnOk P w K mg base CX0 1 fD fdD ["_law_pot_here", "_law_many"] qi2:=qh4 FD;have GA:FnOk P w K mg base CX0 2 fA fdA ["_law_pot_here", "_law_n"] spLa:=xL5 FA B hD FD bD;have GE:FnOk P w K mg base CX0 2 fE fdE nAp3 spAp:=xM3 FE B hD FD bD;refine F.ok scLaw (λvs H Q E h=>?_) (λcdv A outer s H vs Q E hr h=>?_)
 ·obtain⟨a,ns,rfl,_⟩:=h
  rfl
 ·obtain⟨a,ns,rfl,hSq,j6,q⟩:=h;have jD:Room 1 _:=hr.mono (by decide);have jZ:Room 2 _:=hr.mono (by decide);have wG:Room 3 _:=hr.mono (by decide);have hr15:Room 15 _:=hr.mono (by decide);have hr16:Room 16 _:=hr.mono (by decide);have hr18:Room 18 _:=hr.mono (by decide);have hr19:Room 19 _:=hr.mono (by decide);refine seqE ⟨_,⟨qo6 YS rfl (qh7 (by rfl) B.range (qa0 (qa6 (qo7 rfl) (by rfl) B.max Xe (qa0 qa5 (qa0 (qa6 (qk9 rfl) (by rfl) B.min Xg (qa0 qa5 (qa0 (qa6 qb9 (by rfl) B.len ZM (qa0 (pv 0) qa2)) qa2))) qa2))) qa2)) (pgN 1 scLaw.nd)
    (StI.go (.cons ⟨psN 2 scLaw.nd (pcN GP jD hP FP.kp bP (qa0 (pv 0) (qa0 (pv 1) qa2)))⟩
    (.cons ⟨psN 3 scLaw.nd (pcN GD jD hD FD.kp bD (qa0 (pv 2) (qa0 qa5 qa2)))⟩
    (.cons ⟨psN 4 scLaw.nd (pcN GX wG hX FX.kp bX (qa0 (pv 2) (qa0 (pv 3) qa2)))⟩
    (.cons ⟨psN 5 scLaw.nd (pcN GH hr15 hH FH.kp bH (qa0 (pv 3) (qa0 (pv 4) qa2)))⟩
    (.cons ⟨psN 6 scLaw.nd (pcN GA jZ hA FA.kp bA (qa0 (pv 2) (qa0 (pv 3) qa2)))⟩
    (.cons ⟨psN 7 scLaw.nd (pcN GH hr15 hH FH.kp bH (Ars2.go (.cons ⟨qb0 qe0 (pv 3) (qa6 qe1 (by rfl) B.len ZM (qa0 (pv 6) qa2))⟩ (.cons ⟨pcN GX wG hX FX.kp bX (Ars2.go (.cons ⟨pv 2⟩ (.cons ⟨qb0 qe0 (pv 3) (qa6 qe1 (by rfl) B.len ZM (qa0 (pv 6) qa2))⟩ .nil rfl) rfl))⟩ .nil rfl) rfl)))⟩
    (.cons ⟨psN 8 scLaw.nd (pcN GL hr16 hL FL.kp bL (qa0 (pv 3) (qa0 (pv 4) (qa0 (pv 6) qa2))))⟩
    (.cons ⟨psN 9 scLaw.nd (pcN GM hr hM FM.kp bM (qa0 (pv 5) (qa0 (pv 6) (qa0 (pv 7) qa2))))⟩
    (.cons ⟨qc9 (PW.pt (qj6 (qb2 qw6 (PEb.go ⟨qa6 (qm3 hr) (by rfl) C.repr XH (Ars2.go (.cons ⟨pcN GT hr18 hT FT.kp bT (qa0 (pv 5) (qa0 (pv 6) qa2))⟩ .nil rfl))⟩) (qa6 (qm3 hr) (by rfl) C.repr XH (qa0 (pv 8) qa2)) (qb4 _))
     (qg7 (qb2 qw6 (PEb.go ⟨qa6 (qm3 hr) (by rfl) C.repr XH (Ars2.go (.cons ⟨pcN GW hr18 hW FW.kp bW (qa0 (pv 5) (qa0 (pv 6) (qa0 (pv 7) qa2)))⟩ .nil rfl))⟩) (qa6 (qm3 hr) (by rfl) C.repr XH (qa0 (pv 9) qa2)) (qb4 _))))) qc3 qb1⟩
    (.cons ⟨qc9 (PW.pt (qj6 (qb2 (qV2 hr) (PEb.go ⟨pcN GT hr18 hT FT.kp bT (qa0 (pv 9) (qa0 (pv 6) qa2))⟩) (pv 7) (qb4 _))
     (qg7 (qb2 (qV2 hr) (PEb.go ⟨pcN GW hr18 hW FW.kp bW (qa0 (pv 9) (qa0 (pv 6) (qa0 (pv 8) qa2)))⟩) (pv 5) (qb4 _))))) qc3 qb1⟩
    (.consI ⟨psN 10 scLaw.nd (pcN GE jZ hE FE.kp bE (qa0 (pv 2) (qa0 (pv 3) (qa0 (pv 6) qa2))))⟩
    (.consI ⟨qc9 (PW.pt (xq4 (qb2 xu9 (pv 10) qU5 (qb4 _)) (q57 (qb2 (qV2 hr) (PEb.go ⟨pcN GT hr18 hT FT.kp bT (qa0 (pv 9) (qa0 (pv 10) qa2))⟩) (PEb.go ⟨pcN GL hr16 hL FL.kp bL (qa0 (pv 3) (qa0 (pv 4) (qa0 (pv 10) qa2)))⟩) (qb4 _))))) qc3 qb1⟩
    (.one ⟨qc9 (qh2 (qe3 (pcN GR hr19 hR FR.kp bR (qa0 (pv 2) (qa0 (pv 5) (qa0 (pv 6) (qa0 (pv 7) qa2))))))) qc3 qb1⟩))))))))))))))⟩,?_⟩
  refine qe5 ⟨_,⟨qa9 qk8⟩,?_⟩;refine⟨_,rfl,a,_,rfl,.inl hSq,_,_,rfl,_,_,rfl,_,rfl,?_,?_,qJ0 (λi σ H2=>(i:Int)<=8/\Same H H2/\∃v1 v2 v3 v4 v5 v6 v7 v8 v9 v10,σ=[some (.ref a),v1,v2,v3,v4,v5,v6,v7,v8,v9,v10]) ⟨by decide,Same.refl _,none,none,none,none,none,none,none,none,none,none,rfl⟩ ?_ ?_⟩
  ·split<;>(try split)<;>lia
  ·split<;>(try split)<;>lia
  ·rintro i σ H2 hi ⟨i1,s2,v1,v2,v3,v4,v5,v6,v7,v8,v9,v10,rfl⟩;have hi':(i:Int)<8:=by
    revert hi;split<;>(try split)<;>lia
   refine⟨_,rfl,_,rfl,a,_,ns,rfl,s2.seq hSq,j6,by lia,by lia,λH3 p s3 hpn kC=>?_⟩;have hpH:=none_of s2 hpn;refine⟨_,rfl,p,13,rfl,kC,by decide,by decide,λn H4 hn0 b4 kG=>?_⟩;have hn:n<=12:=by lia
   have S4:Same H H4:=qn2 (s2.trans s3) hpH b4;refine⟨_,rfl,_,rfl,p,n,rfl,kG,hn,λH5 l bs b5 hp5 hln hR5 vL=>?_⟩;have nlp:l≠p:=by
    obtain⟨a',b',e,_⟩:=kG;exact (qa4 e hln).symm
   have S5:Same H H5:=qn2 S4 hpH b5;refine⟨_,rfl,_,rfl,l,n,bs,rfl,hR5,vL,hn,λH6 t s6 sh=>?_⟩;have few1:=qz3 hn vL;have red1:=qu5 n bs 0 0;have sht6:ShT H6 t n (bt n bs 0 0):=⟨_,_,sh,b_T⟩;generalize hs:bt n bs 0 0=s at few1 red1 sht6;clear sh;have hp6:=hp5.same s6;refine⟨_,rfl,_,rfl,p,n,rfl,hp6,hn,λds H7 j9 hl hp7 b7=>?_⟩;have v0:(txt ds).length<=sizeLine:=ZT (qb5 (by rw[qd2];lia));have ev:((n:Nat):Int)-((txt ds).length:Nat)=((n-ds.length:Nat):Int):=by rw[qd2];lia
   refine⟨_,rfl,_,rfl,txt ds,rfl,v0,_,_,rfl,rfl,_,rfl,_,rfl,_,rfl,txt ds,rfl,v0,_,_,rfl,rfl,p,n-ds.length,by rw[<- ev];rfl,hp7,by lia,λH8 l2 bs2 b8 hp8 jP y9 hBx2=>⟨l2,n-ds.length,bs2,by rw[<- ev];rfl,y9,hBx2,by lia,λH9 o s9 sho=>?_⟩⟩;have few2:=qz3 (show n-ds.length<=12 by lia) hBx2;have sho9:ShT H9 o (n-ds.length) (bt (n-ds.length) bs2 0 0):=⟨_,_,sho,b_T⟩;generalize bt (n-ds.length) bs2 0 0=u at few2 sho9;clear sho ev;have hR8:RowsL H8 l bs:=by
    obtain⟨a6,b6',e6,_⟩:=id hp6;obtain⟨a7,b7',e7,_⟩:=id hp7;exact ((hR5.same s6).but b7 nlp e6 (λu z=>nomatch z)).but b8 nlp e7 (λu z=>nomatch z)
   have sht9:ShT H9 t n s:=((sht6.mono (qI7 hp6 b7)).mono (qI7 hp7 b8)).mono s9.tups;have hp9:=hp8.same s9;have hR9:=hR8.same s9;have S9:Same H H9:=(qn2 (qn2 (S5.trans s6) hpH b7) hpH b8).trans s9;refine⟨_,rfl,_,rfl,_,rfl,l,n,ds,bs,rfl,hR9,vL,hn,j9,hl,λH10 th s10 shth10=>?_⟩;rw[hs] at shth10;refine⟨_,rfl,_,rfl,_,rfl,t,o,n,s,u,ds,rfl,j9,hl,sht9.mono s10.tups,sho9.mono s10.tups,few1,few2,λH11 bo s11 shb11=>?_⟩;have s911:=s10.trans s11;dsimp only [qg8];refine qC9 (σ':=[some (.ref a),some (.int (0+(i:Int))),some (.ref p),some (.int (n:Nat)),some (.ref l),some (.ref t),some (.str (txt ds)),some (.ref o),some (.ref th),some (.ref bo),v10]) rfl ?_;have hp11:=hp9.same s911;have hR11:=hR9.same s911;have sht11:=sht9.mono s911.tups;have sho11:=sho9.mono s911.tups;have shth11:=shth10.mono s11.tups;have S11:=S9.trans s911;have hnp:=qI1 ds s u j9;clear sht6 sht9 sho9 shth10 hR5 hR8 hR9 kC kG hp5 hp6 hp7 hp8 hp9;refine⟨_,rfl,_,rfl,_,n,_,ds,rfl,sht11,j9,hl,λH12 t12 s12 sh12=>?_⟩;obtain⟨tp,rows,ta,tb,cn,hb⟩:=sh12.two (shth11.mono s12.tups);refine⟨t12,_,rfl,qe2 ta,qr5 cn hb,qk4 _ _ _,qg5 _ _ _,qn1 cn hb,?_⟩;refine⟨_,rfl,th,_,rfl,qe2 tb,qr5 cn hb,qk4 _ _ _,qg5 _ _ _,qn1 cn hb,rfl,_,rfl,?_⟩;rw[Zj rfl];clear ta tb cn hb;refine iteF ⟨_,rfl,_,rfl,_,rfl,_,_,n,_,_,ds,rfl,(sht11.mono s12.tups),(sho11.mono s12.tups),j9,hl,by lia,λH13 t13 s13 sh13=>?_⟩;have S13:=s12.trans s13;obtain⟨tp,rows,ta,tb,cn,hb⟩:=sh13.two (shb11.mono S13.tups);refine⟨t13,_,rfl,qe2 ta,qr5 cn hb,qk4 _ _ _,qg5 _ _ _,qn1 cn hb,?_⟩;refine⟨_,rfl,bo,_,rfl,qe2 tb,qr5 cn hb,qk4 _ _ _,qg5 _ _ _,qn1 cn hb,rfl,_,rfl,?_⟩;rw[Zj rfl];clear ta tb cn hb;refine iteF ⟨_,rfl,_,rfl,_,n,_,ds,rfl,(shb11.mono S13.tups),j9,hl,λH14 t14 s14 sh14=>?_⟩;have S14:=S13.trans s14;rw[xe4 ds s u j9] at sh14;obtain⟨tp,rows,ta,tb,cn,hb⟩:=sh14.two (sho11.mono S14.tups);refine⟨_,rfl,_,_,qe2 ta,qe2 tb,qk1 _ _ _,qk1 _ _ _,qg5 _ _ _,_,rfl,?_⟩;rw[qG2];clear ta tb cn hb;have e3:putT (putT s ds u) ds (subT s ds)=s:=by rw[xe6 ds s u _ j9,xe5 ds red1 j9]
   refine iteF ⟨_,rfl,_,rfl,_,rfl,_,_,n,_,_,ds,rfl,(shb11.mono S14.tups),(shth11.mono S14.tups),j9,hl,by rw[e3];lia,λH15 t15 s15 sh15=>?_⟩;have S15:=S14.trans s15;rw[e3] at sh15;obtain⟨tp,rows,ta,tb,cn,hb⟩:=sh15.two (sht11.mono S15.tups);refine⟨_,rfl,_,_,qe2 ta,qe2 tb,qk1 _ _ _,qk1 _ _ _,qg5 _ _ _,_,rfl,?_⟩;rw[qG2];clear ta tb cn hb;refine iteF ?_;have hp15:=hp11.same S15;have hR15:=hR11.same S15;have sht15:=sht11.mono S15.tups;have sho15:=sho11.mono S15.tups;have shb15:=shb11.mono S15.tups;have S15':=S11.trans S15;clear sh12 sh13 sh14 sh15 hp11 hR11 sht11 sho11 shb11 shth11;refine⟨λσ' H'=>∃v,σ'=[some (.ref a),some (.int (0+(i:Int))),some (.ref p),some (.int (n:Nat)),some (.ref l),some (.ref t),some (.str (txt ds)),some (.ref o),some (.ref th),some (.ref bo),some v]/\But p H15 H'/\PurseAt H' p/\(v=.non\/∃pre a as b bs',v=.str (txt (pre++b::bs'))/\ds=pre++a::as/\a≠b/\(∀e∈pre++b::bs',e<4)/\(pre++b::bs').length<=n),?_,?_⟩
   ·exact⟨_,rfl,_,rfl,_,rfl,p,n,ds,rfl,hp15,hn,j9,hl,λ_=>⟨_,rfl,λ_ _ z _=>z,hp15,.inl rfl⟩,λH16 pre a as b bs' b16 hp16 e1 ab h4 hl'=>⟨_,rfl,b16,hp16,.inr ⟨pre,a,as,b,bs',rfl,e1,ab,h4,hl'⟩⟩⟩
   rintro σ' H16 ⟨v,rfl,b16,hp16,cs⟩;have k16:=qI7 hp15 b16;have hR16:RowsL H16 l bs:=by
    obtain⟨a6,b6',e6,_⟩:=id hp15;exact hR15.but b16 nlp e6 (λu z=>nomatch z)
   have S16:Same H H16:=qn2 S15' hpH b16;have sht16:=sht15.mono k16;have sho16:=sho15.mono k16;have shb16:=shb15.mono k16;clear hp15 hR15 sht15 sho15 shb15 k16;refine⟨λσ' H'=>σ'=[some (.ref a),some (.int (0+(i:Int))),some (.ref p),some (.int (n:Nat)),some (.ref l),some (.ref t),some (.str (txt ds)),some (.ref o),some (.ref th),some (.ref bo),some v]/\Same H16 H',?_,?_⟩
   ·refine⟨_,rfl,rfl,_,rfl,?_⟩;rcases cs with rfl|⟨pre,a',as,b,bs',rfl,e1,ab,h4,hl'⟩
    ·exact iteF (iteF ⟨rfl,Same.refl _⟩)
    ·refine iteT ⟨_,rfl,_,rfl,_,n,_,_,rfl,shb16,h4,hl',λH17 t17 s17 sh17=>?_⟩;refine⟨_,rfl,_,rfl,_,rfl,l,n,_,bs,rfl,hR16.same s17,vL,hn,h4,hl',λH18 t18 s18 sh18=>?_⟩;rw[hs] at sh18;have e4:subT (putT s ds u) (pre++b::bs')=subT s (pre++b::bs'):=by
      rw[e1];refine qN8 pre a' b as bs' s u ab (λd hd=>h4 d (YV _ hd)) (j9 a' ?_) (h4 b ?_)
      ·rw[e1];exact ZN _ Zh
      ·exact ZN _ Zh
     rw[e4] at sh17;obtain⟨tp,rows,ta,tb,cn,hb⟩:=(sh17.mono s18.tups).two sh18;refine⟨_,_,qe2 ta,qe2 tb,qk1 _ _ _,qk1 _ _ _,qg5 _ _ _,_,rfl,?_⟩;rw[qG2];exact iteF ⟨rfl,s17.trans s18⟩
   ·rintro σ' H17 ⟨rfl,s17⟩;refine⟨_,rfl,_,rfl,_,rfl,_,rfl,p,t,o,n,ds,s,u,rfl,hp16.same s17,j9,hl,sht16.mono s17.tups,sho16.mono s17.tups,λH18 b18=>⟨_,rfl,?_⟩⟩;exact iteF ⟨by lia,qn2 (S16.trans s17) hpH b18,_,_,_,_,_,_,_,_,_,_,rfl⟩
  ·rintro σ H2 ⟨_,_,v1,v2,v3,v4,v5,v6,v7,v8,v9,v10,rfl⟩;exact q _
end
def qd3 (K:PySem.W.Frag) (x:Str) (st:Stmt):Prop:=∃(f:Addr) (fd:FuncData),PySem.W.nsIn K mainGlobals x=some (some (.ref f))/\Fun K x x st f fd
theorem d_mk {K:PySem.W.Frag}{x:Str}{st:Stmt}{f:Addr}{od an:Option Addr}{sl:Array (Option Value)}{oc kV dc pm cd ct:Value}(a:PySem.W.nsIn K mainGlobals x=some (some (.ref f)))
  (l:K.lookup f=some ⟨oc,od,.func (PySem.W.fnOf x x (qh6 st) (qf6 st) (qa3 st) .none kV dc pm an cd ct),sl⟩) (c:PySem.W.codeIn K cd x=true) (k:PySem.W.keepIn K (.ref f)=true):qd3 K x st:=⟨f,_,a,q76 l c k⟩
def qc5 (K:PySem.W.Frag) (x:Str):Prop:=PySem.W.nsIn K mainGlobals x=some none
def q07 (K:PySem.W.Frag) (C:Addr) (m qn:Str) (st:Stmt):Prop:=∃(f:Addr) (fd:FuncData),PySem.W.findIn K (.ref C) m=some (some (.ref f))/\PySem.W.isFn K (.ref f)=true/\Fun K m qn st f fd
theorem m_mk {K:PySem.W.Frag}{C:Addr}{m qn:Str}{st:Stmt}{f:Addr}{od an:Option Addr}{sl:Array (Option Value)}{oc kV dc pm cd ct:Value}(a:PySem.W.findIn K (.ref C) m=some (some (.ref f))) (i:PySem.W.isFn K (.ref f)=true)
  (l:K.lookup f=some ⟨oc,od,.func (PySem.W.fnOf m qn (qh6 st) (qf6 st) (qa3 st) .none kV dc pm an cd ct),sl⟩) (c:PySem.W.codeIn K cd qn=true) (k:PySem.W.keepIn K (.ref f)=true):q07 K C m qn st:=⟨f,_,a,i,q76 l c k⟩
theorem us1 {α:Type}{P:List α->Prop}(h:∀a:α,P [a]):∀us:List α,us.length=1->P us
 |[a],_=>h a
theorem us2 {α:Type}{P:List α->Prop}(h:∀a b:α,P [a,b]):∀us:List α,us.length=2->P us
 |[a,b],_=>h a b
theorem us3 {α:Type}{P:List α->Prop}(h:∀a b c:α,P [a,b,c]):∀us:List α,us.length=3->P us
 |[a,b,c],_=>h a b c
theorem us4 {α:Type}{P:List α->Prop}(h:∀a b c d:α,P [a,b,c,d]):∀us:List α,us.length=4->P us
 |[a,b,c,d],_=>h a b c d
theorem us5 {α:Type}{P:List α->Prop}(h:∀a b c d e:α,P [a,b,c,d,e]):∀us:List α,us.length=5->P us
 |[a,b,c,d,e],_=>h a b c d e
theorem us6 {α:Type}{P:List α->Prop}(h:∀a b c d e f:α,P [a,b,c,d,e,f]):∀us:List α,us.length=6->P us
 |[a,b,c,d,e,f],_=>h a b c d e f
theorem e_mk {K:PySem.W.Frag}{C:Addr}(hga:PySem.W.findIn K (.ref C) "__getattribute__" = some (some (.builtin "BaseException.__getattribute__"))) (hgt:PySem.W.findIn K (.ref C) "__getattr__" = some none)
  (ha:PySem.W.findIn K (.ref C) "__class__" = some (some (.builtin "object.__class__"))) (hn:PySem.W.specialIn K (.builtin "object.__class__") "__get__" = some (some (.builtin "getset_descriptor.__get__")))
  (htk:PySem.W.takesIn K (.builtin "object.__class__")=some true) (hm:PySem.W.mroIn K C (.type "object")=some true) (hb:PySem.W.mroIn K C (.type "BaseException")=some true){x:_}(hc:PySem.W.clsIn K C=some x):ExcCls K C:=⟨hga,hgt,ha,hn,htk,hm,hb,by rw[hc];rfl⟩
def kitC (K:PySem.W.Frag) (c S A O E o0 o1:Addr) (b0 b1 b2:Bool):Bool:=PySem.W.excIn K c bmV "ValueError.__new__" && decide (PySem.W.kitOne K (.ref c) (.type "ValueError")=some true/\PySem.W.kitAny K (.ref c) [.ref o0,.ref o1]=some false/\PySem.W.kitOne K (.ref c) (.ref S)=some b0/\PySem.W.kitOne K (.ref c) (.ref A)=some b1/\PySem.W.kitOne K (.ref c) (.ref O)=some b2/\PySem.W.exmOne K (.ref c) (.ref E)=some true)
def xN3 (K:PySem.W.Frag) (S A O E o0 o1:Addr):Bool:=kitC K S S A O E o0 o1 true false false&&(kitC K A S A O E o0 o1 false true false&&kitC K O S A O E o0 o1 false false true)
theorem qU4 {K:PySem.W.Frag}{c S A O E o0 o1:Addr}{b0 b1 b2:Bool}(h:kitC K c S A O E o0 o1 b0 b1 b2=true) (ec:ExcCls K c):Kin2 K c S A O o0 o1 b0 b1 b2/\PySem.W.excIn K c bmV "ValueError.__new__" = true/\PySem.W.exmOne K (.ref c) (.ref E)=some true:=by
 obtain⟨h1,h2⟩:=Ye.mp h;obtain⟨h2,h3,h4,h5,h6,h7⟩:=Zq h2;exact⟨⟨ec,h2,h3,h4,h5,h6⟩,h1,h7⟩
theorem xH6 {l:PySem.W.OpenLaw}{w:World}{K:PySem.W.Frag}{h:Heap}{mg:Str->Option Value}{fa fL C0 X0 X1 X2 X3 X4 X5:Addr}(X:K.In h) (G:h.Ns mainGlobals mg) (hfa:mg "law" = some (.ref fa)){odL anL:Option Addr}{slL:Array (Option Value)}{ocL kVL dcL pmL cdL ctL:Value}{t0 t1 t2 t3:Tok}
  (aL:PySem.W.nsIn K mainGlobals "law" = some (some (.ref fL))) (lL:K.lookup fL=some ⟨ocL,odL,.func (PySem.W.fnOf "law" "law" (qh6 lLaw) (qf6 lLaw) (qa3 lLaw) .none kVL dcL pmL anL cdL ctL),slL⟩) (cL:PySem.W.codeIn K cdL "law" = true) (kL:PySem.W.keepIn K (.ref fL)=true)
  (g0:PySem.W.nsIn K mainGlobals "FIRST" = some (some (.int 2 t0))) (g1:PySem.W.nsIn K mainGlobals "FULL" = some (some (.int 1 t1))) (g2:PySem.W.nsIn K mainGlobals "GREATEST_SIZE" = some (some (.int 12 t2))) (g3:PySem.W.nsIn K mainGlobals "EMPTY" = some (some (.int 0 t3)))
  (d0:qd3 K "is_whole" qt8) (d1:qd3 K "is_plain" qy3) (d2:qd3 K "quarters_of" qM0) (d3:qd3 K "number_at" qW5) (d4:qd3 K "depths_of" q31) (d5:qd3 K "end_rows" sEnd) (d6:qd3 K "places_as_ended" qy4) (d7:qd3 K "renumbered" qt9) (d8:qd3 K "shape_of" qq0) (d9:qd3 K "is_size" q32) (d10:qd3 K "is_address" xb4) (d11:qd3 K "want_address" qM2) (d12:qd3 K "is_number" ql5) (d13:qd3 K "is_row" sRow) (d14:qd3 K "are_rows" qM3) (d15:qd3 K "is_telling" qm5) (d16:qd3 K "is_shape" qB5) (d17:qd3 K "want_shape" qM4) (d18:qd3 K "square_at" xm2) (d19:qd3 K "put_in" qW6) (d20:qd3 K "with_square" qF5) (d21:qd3 K "_law_pot" lPot) (d22:qd3 K "_law_digit" qk6) (d23:qd3 K "_law_cells" qM5) (d24:qd3 K "_law_box" lBox) (d25:qd3 K "_law_boxes" qM6) (d26:qd3 K "_law_meets" qy5) (d27:qd3 K "_law_has" lHas) (d28:qd3 K "_law_number" ql6) (d29:qd3 K "_law_shape" qB6) (d30:qd3 K "_law_address" qq1) (d31:qd3 K "_law_square" qF6) (d32:qd3 K "_law_left_there" qF7) (d33:qd3 K "_law_kept" xb5) (d34:qd3 K "_law_taken" qM7) (d35:qd3 K "_law_mixed" qW7) (d36:qd3 K "_law_put_together" qF8) (d37:qd3 K "_law_apart" qM8) (d38:qd3 K "_law_odd_shape" qW8) (d39:qd3 K "_law_odd_address" qW9) (d40:qd3 K "_law_word" q33) (d41:qd3 K "_law_at" lAt) (d42:qd3 K "_law_with" xb6) (d43:qd3 K "_law_refused" qv1)
  (z0:qc5 K "isinstance") (z1:qc5 K "int") (z2:qc5 K "bool") (z3:qc5 K "tuple") (z4:qc5 K "list") (z5:qc5 K "set") (z6:qc5 K "len") (z7:qc5 K "all") (z8:qc5 K "any") (z9:qc5 K "enumerate") (z10:qc5 K "range") (z11:qc5 K "max") (z12:qc5 K "min") (z13:qc5 K "abs") (z14:qc5 K "repr") (z15:qc5 K "str") (z16:qc5 K "ValueError") (z17:qc5 K "sum")
  (ac0:PySem.W.nsIn K mainGlobals "Book" = some (some (.ref C0))) (cl0:Cls K C0) (mk0:PySem.W.makesIn K C0=true) (kc0:PySem.W.keepIn K (.ref C0)=true) (na0_0:NoAttr K C0 "kept") (na0_1:NoAttr K C0 "numbers") (md0_0:q07 K C0 "__init__" "Book.__init__" qF3) (md0_1:q07 K C0 "number_for" "Book.number_for" qM1) (md0_2:q07 K C0 "numbers_for" "Book.numbers_for" qF4)
  (xn0:PySem.W.nsIn K mainGlobals "NoShape" = some (some (.ref X0)))
  (xn1:PySem.W.nsIn K mainGlobals "NoAddress" = some (some (.ref X1)))
  (xn2:PySem.W.nsIn K mainGlobals "OtherFloor" = some (some (.ref X2)))
  (xn3:PySem.W.nsIn K mainGlobals "FloorError" = some (some (.ref X3)))
  (xn4:PySem.W.nsIn K mainGlobals "NoCell" = some (some (.ref X4)))
  (xn5:PySem.W.nsIn K mainGlobals "NoFloor" = some (some (.ref X5)))
  (xc0:ExcCls K X0)
  (xc1:ExcCls K X1)
  (xc2:ExcCls K X2)
  (xk:xN3 K X0 X1 X2 X3 X4 X5=true) :
  ∃fd:FuncData,(∀(s:Shared) (v:Value),BindsTo s fd ⟨[v],[]⟩ [("_law_script",v)])/\∀base:Heap,K.In base->base.Ns mainGlobals mg->FnOk l.prog w K mg base CX0 29 fa fd ["_law_script"] (xq3 K):=by
 have e:=hfa.symm.trans (Zn X G aL);cases e;have nn:∀{x:Str},qc5 K x->mg x=none:=λz=>PySem.W.mg_none_of X G z;have B:Blt mg:=⟨nn z0,nn z1,nn z2,nn z3,nn z4,nn z5,nn z6,nn z7,nn z8,nn z9,nn z10,nn z11,nn z12⟩;have C:Blt2 mg:=⟨nn z13,nn z14,nn z15⟩;have T:Cst mg:=⟨⟨t0,Zn X G g0⟩,⟨t1,Zn X G g1⟩,⟨t2,Zn X G g2⟩⟩;have FL:=q76 (st:=lLaw) lL cL kL;obtain⟨f0,fd0,a0,F0⟩:=d0;have h0:=Zn X G a0;have b0:=F0.binds (ps:=["thing"]) λ_ _ _ _ _ _=>us1 λ_=>rfl;obtain⟨f1,fd1,a1,F1⟩:=d1;have h1:=Zn X G a1;have b1:=F1.binds (ps:=["row"]) λ_ _ _ _ _ _=>us1 λ_=>rfl;obtain⟨f2,fd2,a2,F2⟩:=d2;have h2:=Zn X G a2;have b2:=F2.binds (ps:=["rows", "number"]) λ_ _ _ _ _ _=>us2 λ_ _=>rfl;obtain⟨f3,fd3,a3,F3⟩:=d3;have h3:=Zn X G a3;have b3:=F3.binds (ps:=["rows", "top", "address"]) λ_ _ _ _ _ _=>us3 λ_ _ _=>rfl;obtain⟨f4,fd4,a4,F4⟩:=d4;have h4:=Zn X G a4;have b4:=F4.binds (ps:=["rows"]) λ_ _ _ _ _ _=>us1 λ_=>rfl;obtain⟨f5,fd5,a5,F5⟩:=d5;have h5:=Zn X G a5;have b5:=F5.binds (ps:=["rows", "number", "ended"]) λ_ _ _ _ _ _=>us3 λ_ _ _=>rfl;obtain⟨f6,fd6,a6,F6⟩:=d6;have h6:=Zn X G a6;have b6:=F6.binds (ps:=["rows", "top"]) λ_ _ _ _ _ _=>us2 λ_ _=>rfl;obtain⟨f7,fd7,a7,F7⟩:=d7;have h7:=Zn X G a7;have b7:=F7.binds (ps:=["row", "numbers"]) λ_ _ _ _ _ _=>us2 λ_ _=>rfl;obtain⟨f8,fd8,a8,F8⟩:=d8;have h8:=Zn X G a8;have b8:=F8.binds (ps:=["n", "top", "rows"]) λ_ _ _ _ _ _=>us3 λ_ _ _=>rfl;obtain⟨f9,fd9,a9,F9⟩:=d9;have h9:=Zn X G a9;have b9:=F9.binds (ps:=["thing"]) λ_ _ _ _ _ _=>us1 λ_=>rfl;obtain⟨f10,fd10,a10,F10⟩:=d10;have h10:=Zn X G a10;have b10:=F10.binds (ps:=["n", "thing"]) λ_ _ _ _ _ _=>us2 λ_ _=>rfl;obtain⟨f11,fd11,a11,F11⟩:=d11;have h11:=Zn X G a11;have b11:=F11.binds (ps:=["n", "address"]) λ_ _ _ _ _ _=>us2 λ_ _=>rfl;obtain⟨f12,fd12,a12,F12⟩:=d12;have h12:=Zn X G a12;have b12:=F12.binds (ps:=["thing", "many"]) λ_ _ _ _ _ _=>us2 λ_ _=>rfl;obtain⟨f13,fd13,a13,F13⟩:=d13;have h13:=Zn X G a13;have b13:=F13.binds (ps:=["thing", "before"]) λ_ _ _ _ _ _=>us2 λ_ _=>rfl;obtain⟨f14,fd14,a14,F14⟩:=d14;have h14:=Zn X G a14;have b14:=F14.binds (ps:=["thing"]) λ_ _ _ _ _ _=>us1 λ_=>rfl;obtain⟨f15,fd15,a15,F15⟩:=d15;have h15:=Zn X G a15;have b15:=F15.binds (ps:=["thing"]) λ_ _ _ _ _ _=>us1 λ_=>rfl;obtain⟨f16,fd16,a16,F16⟩:=d16;have h16:=Zn X G a16;have b16:=F16.binds (ps:=["thing"]) λ_ _ _ _ _ _=>us1 λ_=>rfl;obtain⟨f17,fd17,a17,F17⟩:=d17;have h17:=Zn X G a17;have b17:=F17.binds (ps:=["shape"]) λ_ _ _ _ _ _=>us1 λ_=>rfl;obtain⟨f18,fd18,a18,F18⟩:=d18;have h18:=Zn X G a18;have b18:=F18.binds (ps:=["shape", "address"]) λ_ _ _ _ _ _=>us2 λ_ _=>rfl;obtain⟨f19,fd19,a19,F19⟩:=d19;have h19:=Zn X G a19;have b19:=F19.binds (ps:=["book", "number", "address", "new"]) λ_ _ _ _ _ _=>us4 λ_ _ _ _=>rfl;obtain⟨f20,fd20,a20,F20⟩:=d20;have h20:=Zn X G a20;have b20:=F20.binds (ps:=["shape", "address", "other"]) λ_ _ _ _ _ _=>us3 λ_ _ _=>rfl;obtain⟨f21,fd21,a21,F21⟩:=d21;have h21:=Zn X G a21;have b21:=F21.binds (ps:=["_law_script", "_law_k"]) λ_ _ _ _ _ _=>us2 λ_ _=>rfl;obtain⟨f22,fd22,a22,F22⟩:=d22;have h22:=Zn X G a22;have b22:=F22.binds (ps:=["_law_pot_here", "_law_many"]) λ_ _ _ _ _ _=>us2 λ_ _=>rfl;obtain⟨f23,fd23,a23,F23⟩:=d23;have h23:=Zn X G a23;have b23:=F23.binds (ps:=["_law_pot_here", "_law_n"]) λ_ _ _ _ _ _=>us2 λ_ _=>rfl;obtain⟨f24,fd24,a24,F24⟩:=d24;have h24:=Zn X G a24;have b24:=F24.binds (ps:=["_law_pot_here", "_law_n", "_law_most"]) λ_ _ _ _ _ _=>us3 λ_ _ _=>rfl;obtain⟨f25,fd25,a25,F25⟩:=d25;have h25:=Zn X G a25;have b25:=F25.binds (ps:=["_law_pot_here", "_law_n"]) λ_ _ _ _ _ _=>us2 λ_ _=>rfl;obtain⟨f26,fd26,a26,F26⟩:=d26;have h26:=Zn X G a26;have b26:=F26.binds (ps:=["_law_box_here", "_law_row", "_law_column", "_law_side"]) λ_ _ _ _ _ _=>us4 λ_ _ _ _=>rfl;obtain⟨f27,fd27,a27,F27⟩:=d27;have h27:=Zn X G a27;have b27:=F27.binds (ps:=["_law_box_here", "_law_row", "_law_column", "_law_side"]) λ_ _ _ _ _ _=>us4 λ_ _ _ _=>rfl;obtain⟨f28,fd28,a28,F28⟩:=d28;have h28:=Zn X G a28;have b28:=F28.binds (ps:=["_law_rows", "_law_boxes_here", "_law_row", "_law_column", "_law_side"]) λ_ _ _ _ _ _=>us5 λ_ _ _ _ _=>rfl;obtain⟨f29,fd29,a29,F29⟩:=d29;have h29:=Zn X G a29;have b29:=F29.binds (ps:=["_law_n", "_law_boxes_here"]) λ_ _ _ _ _ _=>us2 λ_ _=>rfl;obtain⟨f30,fd30,a30,F30⟩:=d30;have h30:=Zn X G a30;have b30:=F30.binds (ps:=["_law_pot_here", "_law_n"]) λ_ _ _ _ _ _=>us2 λ_ _=>rfl;obtain⟨f31,fd31,a31,F31⟩:=d31;have h31:=Zn X G a31;have b31:=F31.binds (ps:=["_law_n", "_law_address_here"]) λ_ _ _ _ _ _=>us2 λ_ _=>rfl;obtain⟨f32,fd32,a32,F32⟩:=d32;have h32:=Zn X G a32;have b32:=F32.binds (ps:=["_law_n", "_law_boxes_here", "_law_address_here"]) λ_ _ _ _ _ _=>us3 λ_ _ _=>rfl;obtain⟨f33,fd33,a33,F33⟩:=d33;have h33:=Zn X G a33;have b33:=F33.binds (ps:=["_law_rows", "_law_quarters"]) λ_ _ _ _ _ _=>us2 λ_ _=>rfl;obtain⟨f34,fd34,a34,F34⟩:=d34;have h34:=Zn X G a34;have b34:=F34.binds (ps:=["_law_rows", "_law_shape_here", "_law_number_here", "_law_known"]) λ_ _ _ _ _ _=>us4 λ_ _ _ _=>rfl;obtain⟨f35,fd35,a35,F35⟩:=d35;have h35:=Zn X G a35;have b35:=F35.binds (ps:=["_law_rows", "_law_shape_here", "_law_number_here", "_law_address_here", "_law_other", "_law_known"]) λ_ _ _ _ _ _=>us6 λ_ _ _ _ _ _=>rfl;obtain⟨f36,fd36,a36,F36⟩:=d36;have h36:=Zn X G a36;have b36:=F36.binds (ps:=["_law_shape_here", "_law_address_here", "_law_other"]) λ_ _ _ _ _ _=>us3 λ_ _ _=>rfl;obtain⟨f37,fd37,a37,F37⟩:=d37;have h37:=Zn X G a37;have b37:=F37.binds (ps:=["_law_pot_here", "_law_n", "_law_address_here"]) λ_ _ _ _ _ _=>us3 λ_ _ _=>rfl;obtain⟨f38,fd38,a38,F38⟩:=d38;have h38:=Zn X G a38;have b38:=F38.binds (ps:=["_law_pot_here"]) λ_ _ _ _ _ _=>us1 λ_=>rfl;obtain⟨f39,fd39,a39,F39⟩:=d39;have h39:=Zn X G a39;have b39:=F39.binds (ps:=["_law_pot_here", "_law_n"]) λ_ _ _ _ _ _=>us2 λ_ _=>rfl;obtain⟨f40,fd40,a40,F40⟩:=d40;have h40:=Zn X G a40;have b40:=F40.binds (ps:=["_law_e"]) λ_ _ _ _ _ _=>us1 λ_=>rfl;obtain⟨f41,fd41,a41,F41⟩:=d41;have h41:=Zn X G a41;have b41:=F41.binds (ps:=["_law_shape_here", "_law_address_here"]) λ_ _ _ _ _ _=>us2 λ_ _=>rfl;obtain⟨f42,fd42,a42,F42⟩:=d42;have h42:=Zn X G a42;have b42:=F42.binds (ps:=["_law_shape_here", "_law_address_here", "_law_other"]) λ_ _ _ _ _ _=>us3 λ_ _ _=>rfl;obtain⟨f43,fd43,a43,F43⟩:=d43;have h43:=Zn X G a43;have b43:=F43.binds (ps:=["_law_pot_here", "_law_shape_here", "_law_address_here", "_law_other"]) λ_ _ _ _ _ _=>us4 λ_ _ _ _=>rfl;obtain⟨mf0_0,mfd0_0,ma0_0,mi0_0,MF0_0⟩:=md0_0;have me0_0:Meth K C0 "__init__" mf0_0:=⟨ma0_0,mi0_0,MF0_0.kp⟩;have mb0_0:=MF0_0.binds (ps:=["self"]) λ_ _ _ _ _ _=>us1 λ_=>rfl;obtain⟨mf0_1,mfd0_1,ma0_1,mi0_1,MF0_1⟩:=md0_1;have me0_1:Meth K C0 "number_for" mf0_1:=⟨ma0_1,mi0_1,MF0_1.kp⟩;have mb0_1:=MF0_1.binds (ps:=["self", "row"]) λ_ _ _ _ _ _=>us2 λ_ _=>rfl;obtain⟨mf0_2,mfd0_2,ma0_2,mi0_2,MF0_2⟩:=md0_2;have me0_2:Meth K C0 "numbers_for" mf0_2:=⟨ma0_2,mi0_2,MF0_2.kp⟩;have mb0_2:=MF0_2.binds (ps:=["self", "rows"]) λ_ _ _ _ _ _=>us2 λ_ _=>rfl;have mm0:Mk K C0 mf0_0:=⟨mk0,ma0_0,mi0_0,kc0⟩;refine⟨PySem.W.fnOf "law" "law" (qh6 lLaw) (qf6 lLaw) (qa3 lLaw) .none kVL dcL pmL anL cdL ctL,λs v=>.of_eq rfl,λbase _ _=>?_⟩;have hem0:∃t,mg "EMPTY" = some (.int 0 t):=⟨t3,Zn X G g3⟩;obtain⟨xk0,xkr⟩:=Ye.mp xk;obtain⟨xk1,xk2⟩:=Ye.mp xkr;obtain⟨kS,eS,mS⟩:=qU4 xk0 xc0;obtain⟨kA,eA,mA⟩:=qU4 xk1 xc1;obtain⟨kO,eO,mO⟩:=qU4 xk2 xc2;have XT:Kx K mg X0 X1 X2 X3 X4 X5:=⟨Zn X G xn0,Zn X G xn1,Zn X G xn2,Zn X G xn3,Zn X G xn4,Zn X G xn5,nn z16⟩;have XF:Kf K X0 X1 X2 X3:=⟨mS,mA,mO⟩;have gSize:FnOk l.prog w K mg base CX0 2 _ _ _ _:=xx1 F9 B T h0 F0 b0;have gNum:FnOk l.prog w K mg base CX0 2 _ _ _ _:=xb8 F12 B T h0 F0 b0;have gRow:FnOk l.prog w K mg base CX0 3 _ _ _ _:=xE1 F13 B h12 F12 b12 gNum;have gRows:FnOk l.prog w K mg base CX0 4 _ _ _ _:=xx6 F14 B h13 F13 b13 gRow;have gTell2:FnOk l.prog w K mg base CX0 5 _ _ _ qt1:=qT3 F15 B h9 F9 b9 gSize h14 F14 b14 gRows h12 F12 b12 gNum h4 F4 b4;have gPl:∀d,FnOk l.prog w K mg base CX0 (d+2) _ _ _ (qv2 d):=λd=>qM9 F6 B T h5 F5 b5 d;have gShape2:FnOk l.prog w K mg base CX0 15 _ _ _ qH0:=xf5 F16 B T h15 F15 b15 gTell2 h1 F1 b1 h6 F6 b6 gPl;have gSize3:FnOk l.prog w K mg base CX0 2 _ _ _ qT4:=xo7 F9 B T h0 F0 b0;have gNum3:FnOk l.prog w K mg base CX0 2 _ _ _ qr0:=q44 F12 B T h0 F0 b0;have gRow3:FnOk l.prog w K mg base CX0 3 _ _ _ xf7:=xy7 F13 B h12 F12 b12 gNum3;have gRows3:FnOk l.prog w K mg base CX0 4 _ _ _ qT5:=xo8 F14 B h13 F13 b13 gRow3;have gTellNo:FnOk l.prog w K mg base CX0 5 _ _ _ qH3:=xf8 F15 B h9 F9 b9 gSize3 h14 F14 b14 gRows3 h12 F12 b12 gNum3 h4 F4 b4;have gShape3:FnOk l.prog w K mg base CX0 15 _ _ _ qH4:=xf9 gShape2 (q45 F16 h15 F15 b15 gTellNo);have gWS:FnOk l.prog w K mg base (CX1 l.prog w) 16 _ _ _ (qv9 X0):=xg8 F17 XT.s eS h16 F16 b16 gShape3;have gAd:FnOk l.prog w K mg base CX0 2 _ _ _ qT7:=xp1 F10 B C.str;have gWA:FnOk l.prog w K mg base (CX1 l.prog w) 3 _ _ _ (qv8 X1):=xg7 F11 XT.a eA h10 F10 b10 gAd;have gNa:FnOk l.prog w K mg base CX0 2 _ _ _ spNa:=xK2 F3 B T h2 F2 b2;have gSO:FnOk l.prog w K mg base CX0 15 _ _ _ spSO:=xK8 F8 B T hem0 h6 F6 b6 h5 F5 b5 h7 F7 b7;have gSa:FnOk l.prog w K mg base (CX1 l.prog w) 17 _ _ _ (spSa X0 X1):=xL2 F18 B h17 F17 b17 gWS h11 F11 b11 gWA h3 F3 b3 gNa h8 F8 b8 gSO;have TB:BookIn K mg C0:=⟨cl0,na0_0,na0_1,Zn X G ac0⟩;have gBN:FnOk l.prog w K mg base CX0 4 _ _ _ (xz7 C0):=xF8 MF0_2 B T hem0 TB me0_1 MF0_1 mb0_1 h7 F7 b7 h1 F1 b1;have gPi:∀k,FnOk l.prog w K mg base CX0 (k+4) _ _ _ (spPi C0 k):=xG0 F19 B T TB h19 b19 h2 F2 b2 me0_1 MF0_1 mb0_1 h1 F1 b1;have gWs:FnOk l.prog w K mg base (CX1 l.prog w) 17 _ _ _ (spWs X0 X1 X2):=xL4 F20 B TB XT.o eO h17 F17 b17 gWS h11 F11 b11 gWA mm0 MF0_0 mb0_0 me0_2 MF0_2 mb0_2 gBN h19 F19 b19 gPi h8 F8 b8 gSO;have gBx:FnOk l.prog w K mg base CX0 3 _ _ _ qT8:=xp5 F25 B h22 F22 b22 h23 F23 b23 h24 F24 b24;have gSh:FnOk l.prog w K mg base CX0 15 _ _ _ xi7:=xG5 F29 B h28 F28 b28 h26 F26 b26 h27 F27 b27;have gLt:FnOk l.prog w K mg base CX0 16 _ _ _ spLt:=xM0 F32 B h31 F31 b31 h26 F26 b26 h29 F29 b29 gSh;have gTk:∀d,d<=12->FnOk l.prog w K mg base CX0 (d+2) _ _ _ (spTk d):=xG9 F34 B h34 b34 h33 F33 b33;have gMx:∀k,FnOk l.prog w K mg base CX0 (k+15) _ _ _ (spMx k):=xH2 F35 B h35 b35 h34 F34 b34 gTk h33 F33 b33;have gPt:FnOk l.prog w K mg base CX0 28 _ _ _ spPt:=xM2 F36 B h35 F35 b35 gMx;have gWd:∀x,FnOkH l.prog w K mg base 1 x _ _ _ (qI4 X0 X1 X2 x):=λx=>xq2 F40 B C.str (nn z17) XT kS kA kO;have gAt:FnOk l.prog w K mg base CX0 18 _ _ _ spAt:=xM6 F41 XT.fe XF h18 F18 b18 gSa h40 F40 b40 gWd;have gWi:FnOk l.prog w K mg base CX0 18 _ _ _ spWi:=xM7 F42 XT.fe XF h20 F20 b20 gWs h40 F40 b40 gWd;have gRf:FnOk l.prog w K mg base CX0 19 _ _ _ spRf:=xM8 F43 B h22 F22 b22 h38 F38 b38 h39 F39 b39 h29 F29 b29 gSh h41 F41 b41 gAt h42 F42 b42 gWi;exact xH5 FL B C h21 F21 b21 h22 F22 b22 h25 F25 b25 gBx h29 F29 b29 gSh h30 F30 b30 h32 F32 b32 gLt h36 F36 b36 gPt h41 F41 b41 gAt h42 F42 b42 gWi h37 F37 b37 h43 F43 b43 gRf
theorem walk {l:PySem.W.OpenLaw}{q:Program}{loose:List Str}{XP:(Str->Option Value)->Heap->Prop}{YP:World->Heap->Prop}{d:DefRec}{K:Params->PySem.W.Frag}(hn:l.most=some 63) (hdf:d.params.defaults=[])
  (hY:∀(w:World) (h:Heap),YP w h->(K w.params).In h)
  (F:∀(w:World) (mg:Str->Option Value) (fa:Addr) (h:Heap),(K w.params).In h->h.Ns mainGlobals mg->mg d.name=some (.ref fa) ->
   ∃fd:FuncData,(∀(s:Shared) (u:Value),BindsTo s fd ⟨[u],[]⟩ [("_law_script",u)])/\∀base:Heap,(K w.params).In base->base.Ns mainGlobals mg->FnOk l.prog w (K w.params) mg base CX0 29 fa fd ["_law_script"] (xq3 (K w.params))) :
  PySem.W.WalkO q loose XP YP l.row.toRowW d [] (λf vs=>PySem.call f vs):=
 L2.xv4 (n:=63) (k:=29) (x:= "_law_script") (CX:=λ_=>CX0) (sp:=λw=>xq3 (K w.params)) hn (by decide) hdf ⟨rfl,by decide,by decide,rfl⟩ hY F (λ_ _ a ns hl _ hS=>⟨a,ns,rfl,hS,hl,λ_=>rfl⟩) λ_ _ _ _ _ z=>z
end Pr
open PySem PySem.W PyProof.Rows
set_option maxRecDepth 100000 in
set_option maxHeartbeats 0 in
theorem PySem.Challenge.cw_quarterfold_k26_squares_taken_and_put_holds : PySem.Challenge.rw_quarterfold_k26_squares_taken_and_put.Holds := by
 w_on;o_law
 refine holds_open (q:=Hd.q0) (loose:=[]) (Xt:=Hd.X0) (XP:=XL Hd.q0 []) (YP:=Hook.says (kHook Hd.K0 Hd.as0 Hd.as_K)) (N:=Hd.N0) Hd.xH7
  (Hook.of (kHook Hd.K0 Hd.as0 Hd.as_K)) (Hook.keeps (kHook Hd.K0 Hd.as0 Hd.as_K)) (λs e=>xl_of s (Ye.mp e).1) XL.keeps
  (by rfl) (by rfl) (by rfl) (λs e=>recFacts_of (Ye.mp e).2)
  (by rfl) (by first|assumption|decide +kernel) (by decide +kernel) ⟨rfl,rfl,rfl,rfl,rfl,by decide +kernel⟩ ?hw ?hc
 case hw=>w_witness2
 k_fill
 refine Pr.walk (l:=PySem.Challenge.rw_quarterfold_k26_squares_taken_and_put) rfl rfl (λw h Y=>PySem.W.kIn_of Y) ?F
 case F=>
  intro w mg fa h KX G hmg;refine' Pr.xH6 KX G hmg ?aL ?lL ?cL ?kL ?gc0 ?gc1 ?gc2 ?gc3 ?d0 ?d1 ?d2 ?d3 ?d4 ?d5 ?d6 ?d7 ?d8 ?d9 ?d10 ?d11 ?d12 ?d13 ?d14 ?d15 ?d16 ?d17 ?d18 ?d19 ?d20 ?d21 ?d22 ?d23 ?d24 ?d25 ?d26 ?d27 ?d28 ?d29 ?d30 ?d31 ?d32 ?d33 ?d34 ?d35 ?d36 ?d37 ?d38 ?d39 ?d40 ?d41 ?d42 ?d43 ?z0 ?z1 ?z2 ?z3 ?z4 ?z5 ?z6 ?z7 ?z8 ?z9 ?z10 ?z11 ?z12 ?z13 ?z14 ?z15 ?z16 ?z17 ?ac0 ?cl0 ?mk0 ?kc0 ?na0_0 ?na0_1 ?md0_0 ?md0_1 ?md0_2 ?xn0 ?xn1 ?xn2 ?xn3 ?xn4 ?xn5 ?xc0 ?xc1 ?xc2 ?xk
  (case aL=>k_is);(case lL=>k_is);(case cL=>k_is);(case kL=>k_is)
  (case gc0=>k_is)
  (case gc1=>k_is)
  (case gc2=>k_is)
  (case gc3=>k_is)
  (case z0=>unfold Pr.qc5;k_is)
  (case z1=>unfold Pr.qc5;k_is)
  (case z2=>unfold Pr.qc5;k_is)
  (case z3=>unfold Pr.qc5;k_is)
  (case z4=>unfold Pr.qc5;k_is)
  (case z5=>unfold Pr.qc5;k_is)
  (case z6=>unfold Pr.qc5;k_is)
  (case z7=>unfold Pr.qc5;k_is)
  (case z8=>unfold Pr.qc5;k_is)
  (case z9=>unfold Pr.qc5;k_is)
  (case z10=>unfold Pr.qc5;k_is)
  (case z11=>unfold Pr.qc5;k_is)
  (case z12=>unfold Pr.qc5;k_is)
  (case z13=>unfold Pr.qc5;k_is)
  (case z14=>unfold Pr.qc5;k_is)
  (case z15=>unfold Pr.qc5;k_is)
  (case z16=>unfold Pr.qc5;k_is)
  (case z17=>unfold Pr.qc5;k_is)
  (case ac0=>k_is)
  (case cl0=>refine' ⟨?pa,?pb,?pc,?pd⟩;(case pa=>k_is);(case pb=>k_is);(case pc=>k_is);(case pd=>k_is))
  (case mk0=>k_is);(case kc0=>k_is)
  (case na0_0=>unfold L2.NoAttr;k_is)
  (case na0_1=>unfold L2.NoAttr;k_is)
  (case md0_0=>refine' Pr.m_mk ?qa ?qi ?ql ?qc ?qk;(case qa=>k_is);(case qi=>k_is);(case ql=>k_is);(case qc=>k_is);(case qk=>k_is))
  (case md0_1=>refine' Pr.m_mk ?qa ?qi ?ql ?qc ?qk;(case qa=>k_is);(case qi=>k_is);(case ql=>k_is);(case qc=>k_is);(case qk=>k_is))
  (case md0_2=>refine' Pr.m_mk ?qa ?qi ?ql ?qc ?qk;(case qa=>k_is);(case qi=>k_is);(case ql=>k_is);(case qc=>k_is);(case qk=>k_is))
  (case xn0=>k_is)
  (case xn1=>k_is)
  (case xn2=>k_is)
  (case xn3=>k_is)
  (case xn4=>k_is)
  (case xn5=>k_is)
  (case xc0=>refine' Pr.e_mk ?q1 ?q2 ?q3 ?q4 ?q5 ?q6 ?q7 ?q8;(case q1=>k_is);(case q2=>k_is);(case q3=>k_is);(case q4=>k_is);(case q5=>k_is);(case q6=>k_is);(case q7=>k_is);(case q8=>k_is))
  (case xc1=>refine' Pr.e_mk ?q1 ?q2 ?q3 ?q4 ?q5 ?q6 ?q7 ?q8;(case q1=>k_is);(case q2=>k_is);(case q3=>k_is);(case q4=>k_is);(case q5=>k_is);(case q6=>k_is);(case q7=>k_is);(case q8=>k_is))
  (case xc2=>refine' Pr.e_mk ?q1 ?q2 ?q3 ?q4 ?q5 ?q6 ?q7 ?q8;(case q1=>k_is);(case q2=>k_is);(case q3=>k_is);(case q4=>k_is);(case q5=>k_is);(case q6=>k_is);(case q7=>k_is);(case q8=>k_is))
  (case xk=>kernel_rfl)
  all_goals (refine' Pr.d_mk ?qa ?ql ?qc ?qk;(case qa=>k_is);(case ql=>k_is);(case qc=>k_is);(case qk=>k_is))
