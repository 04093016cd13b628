import PyProof.Rows.All
import Wide.All
import OpenK.AllK
import Wide.FinOn
import Lean
import PyProof.EqAt
import PyProof.EqKinds
import PyProof.TupleCall
import Open.Row
import PySem.SetOps
import PyProof.SetRoads
import PyProof.Rows.SetFrom
import PyProof.FactsAll.subtypes_4
import PyProof.WalksMore
import OpenK.KOwn
import PyProof.NeData
import PyProof.ReprRoads
import PyProof.WalksEnum
import PyProof.EnumMake
import PyProof.Rows.EnumRows
import KE.KTryMore
import KE.KIntText
import KE.KDictList
import PyProof.ConsumeS
import PyProof.ListRange
import PyProof.ListMulRoad
import PyProof.CompUse
import PyProof.CompFree
import PyProof.DictUpdate
import PyProof.Rows.TupDisplay
import PyProof.DictWalks
import PyProof.TupleOfGen
import PyProof.Rows.SortRunsK
import PyProof.Rows.SortShellK
import PyProof.Rows.SortKeyStr
import PyProof.Rows.SortWalk
import PyProof.Rows.StrInSeq
import PyProof.P3Eq
import PyProof.DictKinds
import PyProof.StrOps
import PyProof.ReprBulk
import PySem.Challenge.RW_quarterfold_k23_no_steps_no_tellings
set_option Elab.async false
set_option linter.all false
set_option maxRecDepth 100000
set_option maxHeartbeats 8000000
def Za:=@PySem.wpAny_bind
def Zb:=@List.length_map
def Zc:=@PySem.Heap.get?_push_of_some
def Zd:=@List.getElem?_map
def Ze:=@Nat.le_refl
def Zf:=@List.getElem?_eq_getElem
def Zg:=@List.getElem?_append_left
def Zh:=@List.getElem?_append_right
def Zi:=@decide_eq_true
def Zj:=@List.length_append
def Zk:=@decide_eq_false
def Zl:=@PySem.Heap.lt_size
def Zm:=@PySem.wpAny_pure
def Zn:=@PySem.Heap.get?_push_size
def Zo:=@if_neg
def Zp:=@PyProof.Rows.wpS_bind
def Zq:=@PySem.W.mg_of
def Zr:=@if_pos
def Zs:=@List.mem_cons_of_mem
def Zt:=@PyProof.Rows.boot_isinstance
def Zu:=@Bool.false_ne_true
def Zv:=@PyProof.Rows.wpS_pure
def Zw:=@Option.map_eq_some_iff
def Zx:=@List.mem_of_getElem?
def Zy:=@List.mem_cons
def Zz:=@Nat.ne_of_lt
def ZA:=@List.size_toArray
def ZB:=@Nat.le_of_ble_eq_true
def ZC:=@List.mem_cons_self
def ZD:=@Option.some.inj
def ZE:=@PyProof.Rows.boot_tuple
def ZF:=@PySem.Heap.get?_update_other
def ZG:=@List.getD_eq_getElem?_getD
def ZH:=@List.map_cons
def ZI:=@PySem.F.plainAttrs_list
def ZJ:=@PySem.boot_len
def ZK:=@Nat.le_trans
def ZL:=@getElem?_pos
def ZM:=@Nat.lt_of_lt_of_le
def ZN:=@Nat.zero_le
def ZO:=@List.mem_map
def ZP:=@PyProof.Rows.KeyOrd.kle_trans
def ZQ:=@List.length_cons
def ZR:=@List.mem_append_right
def ZS:=@PySem.F.slot_list_append
def ZT:=@PySem.F.type_list_append
def ZU:=@of_decide_eq_true
def ZV:=@List.mem_iff_getElem
def ZW:=@List.length_take
def ZX:=@Nat.le_of_lt
def ZY:=@PyProof.Rows.KeyOrd.kle_of_klt
def ZZ:=@List.getElem?_eq_none
def Z0:=@List.map_append
def Z1:=@Array.toList_append
def Z2:=@List.mem_append
def Z3:=@List.append_assoc
def Z4:=@List.mem_range
def Z5:=@List.getElem?_range
def Z6:=@List.all_eq_true
def Z7:=@PySem.wpAny_field
def Z8:=@PyProof.Rows.slot_tuple_getitem
def Z9:=@PySem.mem_of_lookup
def Yb:=@PySem.PassesOwn.never
def Yc:=@PySem.wpAny_callSpecial?_slot
def Ye:=@PySem.PyData.tuple.inj
def Yg:=@PySem.wpAny_newObj_type
def Yh:=@Bool.false_eq_true
def Yi:=@PySem.Heap.size_push
def Yj:=@List.getElem?_take_of_lt
def Yk:=@beq_eq_false_iff_ne
def Ym:=@List.map_congr_left
def Yn:=@Ne.symm
def Yo:=@List.take_succ_eq_append_getElem
def Yp:=@List.map_map
def Yq:=@PySem.wpAny_mono
def Yr:=@congrArg
def Ys:=@PySem.W.kia_one
def Yt:=@List.lookup_cons
def Yu:=@List.getElem_mem
def Yv:=@List.take_of_length_le
def Yw:=@decide_eq_decide
def Yx:=@List.getElem_of_mem
def Yy:=@PySem.wpAny_truthy_bool
def Yz:=@List.take_append_drop
def YA:=@PyProof.Rows.KeyOrd.kle_refl
def YB:=@List.length_drop
def YC:=@PySem.wpAny_call_entry
def YD:=@Bool.and_eq_true
def YE:=@List.take_length
def YF:=@Nat.lt_irrefl
def YG:=@beq_iff_eq
def YH:=@List.filterMap_cons
def YI:=@Array.length_toList
def YJ:=@Bool.eq_iff_iff
def YK:=@List.append_nil
def YL:=@PySem.Heap.get?_update_self
def YM:=@PySem.F.slot_enumerate_next
def YN:=@List.length_filter_le
def YO:=@PyProof.Rows.boot_all
def YQ:=@PySem.Obj.data_mapFields
def YR:=@PySem.wpAny_holding
def YS:=@PySem.AutoSeq1.wpAny_loadPart'
def YT:=@List.take_append_getElem
def YU:=@forall_congr'
def YV:=@PyProof.Rows.wpS_forRange
def YW:=@PySem.PyData.int.inj
def YX:=@Nat.lt_succ_of_lt
def YY:=@Bool.not_eq_true'
def YZ:=@List.ext_getElem?
def Y0:=@List.nodup_cons
def Y1:=@PySem.wpAny_rule
def Y2:=@List.range_succ
def Y3:=@List.length_pos_iff
def Y4:=@PyProof.Rows.callWith_type1
def Y5:=@PyProof.Rows.boot_list
def Y6:=@Int.ofNat.inj
def Y7:=@PySem.F.slot_tuple_iterator_next
def Y8:=@List.pairwise_cons
def Y9:=@Array.getElem?_toList
def Xa:=@List.cons_lt_cons_iff
def Xb:=@List.pairwise_iff_getElem
def Xc:=@List.mem_filter
def Xd:=@List.foldl_cons
def Xe:=@List.mem_append_left
def Xf:=@List.length_range
def Xg:=@Array.toList_extract
def Xh:=@PySem.Heap.get?_push_ne
def Xi:=@Option.isSome_iff_exists
def Xj:=@List.any_cons
def Xk:=@PyProof.Rows.wpS_modify
def Xl:=@PySem.Heap.SameBut.update
def Xm:=@List.replicate_succ
def Xn:=@List.reverse_append
def Xo:=@List.getElem?_replicate
def Xp:=@PySem.wpAny_setField
def Xq:=@List.filter_cons
def Xr:=@PySem.wpAny_Call_Name_kw
def Xs:=@PySem.tupleKind_room_in1
def Xu:=@PySem.wpAny_setField_rec
def Xv:=@List.filter_append
def Xw:=@List.map_inj_right
def Xx:=@List.find?_cons
def Xy:=@PySem.wpAny_ite_split
def Xz:=@List.cons.injEq
def XA:=@List.length_replicate
def XB:=@List.length_singleton
def XC:=@PySem.Obj.isFreed_of_fields
def XD:=@PyProof.Rows.boot_max
def XE:=@PySem.wpAny_pyIter_list
def XG:=@List.nodup_append
def XH:=@List.idxOf_lt_length_of_mem
def XI:=@Array.toList_push
def XJ:=@PySem.sizeLine_eq
def XM:=@Array.getElem?_eq_some_iff
def XN:=@PySem.lookup_relabel_local
def XO:=@Array.perm_iff_toList_perm
def XQ:=@List.pairwise_append
def XR:=@Array.toList_reverse
def XS:=@List.not_lt
def XU:=@Bool.and_eq_true_iff
def XV:=@Nat.le_of_eq
def XW:=@Nat.lt_succ_self
def XX:=@Nat.le_of_not_lt
def XY:=@PySem.Heap.size_update
def XZ:=@List.drop_eq_getElem_cons
def X9:=@PySem.F.args_tuple_add_2
def Wa:=@if_false
def Wb:=@PySem.wpAny_attempt
def Wc:=@PyProof.Rows.wpS_mono
def Wd:=@PyProof.Rows.KeyOrd.klt_of_klt_of_kle
def We:=@PySem.F.slot_list_extend
def Wf:=@PySem.F.type_list_extend
def Wg:=@PySem.wpAny_passesOwn
def Wh:=@PySem.W.of_hideAll
def Wi:=@PySem.wpAny_pyIter_tuple
def Wj:=@Nat.lt_of_le_of_lt
def Wk:=@Int.emod_lt_of_pos
def Wl:=@Sum.inl.inj
def Wm:=@Nat.le_succ
def Wn:=@PySem.F.entry_tuple_add
def Wo:=@PySem.F.args_enumerate_next_1
def Wp:=@List.length_eq_zero_iff
def Wq:=@decide_eq_false_iff_not
def Wr:=@List.getElem?_set_self
def Ws:=@PySem.codeAny_mono
def Wt:=@PySem.W.cellsFrom_some
def Wu:=@PySem.F.slot_tuple_add
def Wv:=@Int.toNat_natCast
def Ww:=@Nat.lt_trans
def Wx:=@PySem.F.entry_enumerate_next
def Wy:=@Nat.le_of_lt_succ
def Wz:=@PySem.wpAny_pyIter_enum
def WA:=@Nat.sub_self
def WB:=@decide_eq_true_eq
def WC:=@List.reverse_perm
def WD:=@List.Perm.append_left
def WE:=@PyProof.Rows.KeyOrd.not_klt_of_kle
def WF:=@PyProof.Rows.boot_str
def WG:=@beq_self_eq_true
def WH:=@PyProof.Rows.wpS_get
def WI:=@List.getElem?_set_ne
def WJ:=@PySem.wpAny_execs_nil
def WK:=@List.of_mem_zip
def WL:=@List.forIn_cons
def WM:=@Option.map_some
def WN:=@Nat.le_antisymm
def WO:=@and_congr_right
def WP:=@PySem.F.slot_dict_setdefault
def WQ:=@Array.getElem?_setIfInBounds
def WR:=@Int.emod_nonneg
def WS:=@PySem.W.hideAll_get
def WT:=@PySem.W.plainGet_of
def WU:=@List.IsPrefix.trans
def WV:=@List.map_eq_nil_iff
def WW:=@PyProof.Rows.boot_enumerate
def WX:=@LawfulMonad.pure_bind
def WY:=@List.mem_filterMap
def WZ:=@PySem.W.callWith_K
def W0:=@PySem.call_meets
def W1:=@Nat.add_sub_cancel
def W2:=@List.prefix_append
def W3:=@List.getElem?_drop
def W4:=@Nat.mul_le_mul
def W5:=@Option.isSome_map
def W6:=@PySem.Obj.cls_mapFields
def W7:=@Bool.eq_false_iff
def W8:=@Array.size_append
def W9:=@List.idxOf_append
def Va:=@PySem.Paired.length
def Vb:=@List.all_cons
def Vc:=@Nat.le_add_right
def Vd:=@List.any_eq_true
def Ve:=@PyProof.Rows.wpS_lift
def Vf:=@Nat.ne_of_gt
def Vg:=@PySem.wpAny_typeOf
def Vh:=@bind_congr
def Vi:=@List.all_map
def Vj:=@Nat.min_eq_left
def Vk:=@Bool.false_and
def Vl:=@Bool.and_false
def Vm:=@List.nodup_nil
def Vn:=@List.forIn_nil
def Vo:=@List.drop_drop
def Vp:=@List.lt_irrefl
def Vq:=@List.map_id
def Vr:=@if_true
def Vs:=@and_true
def Vt:=@or_comm
theorem gS_{α:Type}{l:List α}{i:Nat}{a:α}(h:l[i]?=some a):∃h:i<l.length,l[i]=a:=List.getElem?_eq_some_iff.mp h
namespace L2
open PySem
def qi6 (s:Stmt) (j:Nat):Stmt:=match s with
 |.ClassDef _ _ _ body _ _ _ _ _ _ _=>body.getD j (.Pass ⟨0,0,0,0⟩)
 |_=>.Pass ⟨0,0,0,0⟩
def qj7 (s:Stmt):Arguments:=match s with
 |.FunctionDef _ a _ _ _ _ _ _ _ _=>a
 |_=>{ posonlyargs:=[],args:=[],vararg:=none,kwonlyargs:=[],kw_defaults:=[],kwarg:=none,defaults:=[] }
def qh2 (s:Stmt):List Stmt:=match s with
 |.FunctionDef _ _ b _ _ _ _ _ _ _=>b
 |_=>[]
def qa4 (s:Stmt):Scope:=match s with
 |.FunctionDef _ _ _ _ _ _ sc _ _ _=>sc
 |_=>{ kind:=.function,names:=[],isGenerator:=false,isCoroutine:=false }
end L2
namespace Pr
open PySem
def top (i:Nat):Stmt:=PySem.Challenge.pw_quarterfold_k23_no_steps_no_tellings.main.body.getD i (.Pass ⟨0,0,0,0⟩)
end Pr
namespace Hd
open PySem PySem.W
abbrev pw:Program:=PySem.Challenge.pw_quarterfold_k23_no_steps_no_tellings
abbrev u0_:Value:=.str "quarterfold.rows" 335
abbrev u1_:Value:=.str "law_quarterfold_k23_no_steps_no_tellings" 558
abbrev u2_:Value:=.str "quarterfold.steps" 497
abbrev u3_:Value:=.str "quarterfold.tellings" 458
def kh (P:Params) (x:Str):Int:=PySem.PyData.keyHash P x
def oM (n q:Str) (st:Stmt) (m:Value) (c:Nat):Obj:=⟨.type "function",none,.func (fnOf n q (L2.qj7 st) (L2.qh2 st) (L2.qa4 st) .none .none .none m none (.ref c) .none),#[]⟩
def oF (n:Str) (st:Stmt) (m:Value) (c:Nat):Obj:=⟨.type "function",none,.func (fnOf n n (L2.qj7 st) (L2.qh2 st) (L2.qa4 st) .none .none .none m none (.ref c) .none),#[]⟩
def oT (n q:Str) (st:Stmt):Obj:=⟨.none,none,.func { fnOf n q (L2.qj7 st) (L2.qh2 st) (L2.qa4 st) .none .none .none .none none .none .none with globals:=0 },#[]⟩
def oC (n q:Str) (t1 t2 t3 l a r1 r2:Nat) (y z:Value) (r6 k t5:Nat):Obj:=⟨.type "code",none,.fields #[.str n t1,.str q t2,.str "/claim/cut.py" t3,.int l 0,.int a 0,.int 0 0,.int 0 0,.int 3 0,.ref r1,.bool true,.int 181 0,.ref r2,.none,y,z,.ref r6,.int k 0,.int l 0,.str "/claim/cut.py" t5],#[]⟩
abbrev e0_:PySem.Obj:=⟨.type "tuple",none,(.seq #[] 0),#[]⟩
abbrev e1_:PySem.Obj:=⟨.none,none,(.fields #[]),#[]⟩
abbrev e2_ (a:Array PySem.Value):PySem.Obj:=⟨.type "tuple",none,(.seq a 0),#[]⟩
abbrev e3_ (P:Params) (x:Str) (n:Tok) (v:Value):DictEntry:=⟨kh P x,.str x n,v⟩
def K0 (P:Params):Frag:=
(nat_lit 2,⟨.none,none,(.dict #[] 0),#[]⟩) ::
(nat_lit 3,⟨.type "dict",none,(.dict #[e3_ P "__name__" 165 (.str "law_quarterfold_k23_no_steps_no_tellings" 558),e3_ P "__doc__" 166 .none,e3_ P "__package__" 167 .none,e3_ P "__loader__" 168 (.builtin "__main__.__loader__#opaque"),e3_ P "__spec__" 169 .none,e3_ P "__annotations__" 170 (.ref 6),e3_ P "__builtins__" 171 (.ref 4),e3_ P "__file__" 173 (.str "/claim/cut.py" 172),e3_ P "__cached__" 174 .none,e3_ P "FloorError" 206 (.ref 24),e3_ P "NoFloor" 222 (.ref 37),e3_ P "NoAddress" 238 (.ref 49),e3_ P "NoCell" 254 (.ref 61),e3_ P "NoShape" 270 (.ref 73),e3_ P "NoTelling" 286 (.ref 85),e3_ P "NoText" 302 (.ref 97),e3_ P "NoStep" 318 (.ref 109),e3_ P "NoNumber" 334 (.ref 121),e3_ P "EMPTY" 338 (.int 0 337),e3_ P "FULL" 340 (.int 1 339),e3_ P "FIRST" 342 (.int 2 341),e3_ P "is_whole" 349 (.ref 130),e3_ P "is_plain" 356 (.ref 137),e3_ P "depths_of" 362 (.ref 142),e3_ P "end_rows" 372 (.ref 149),e3_ P "places_as_ended" 381 (.ref 156),e3_ P "renumbered" 387 (.ref 161),e3_ P "shape_of" 399 (.ref 168),e3_ P "Book" 446 (.ref 199),e3_ P "GREATEST_SIZE" 450 (.int 12 449),e3_ P "is_size" 457 (.ref 210),e3_ P "is_number" 467 (.ref 217),e3_ P "is_row" 473 (.ref 222),e3_ P "are_rows" 479 (.ref 227),e3_ P "is_telling" 489 (.ref 234),e3_ P "want_telling" 496 (.ref 241),e3_ P "same_steps" 504 (.ref 246),e3_ P "plain_steps" 510 (.ref 251),e3_ P "gone_steps" 516 (.ref 256),e3_ P "steps_of" 525 (.ref 263),e3_ P "is_step" 531 (.ref 268),e3_ P "number_behind" 539 (.ref 275),e3_ P "stepped" 545 (.ref 280),e3_ P "one_telling" 557 (.ref 287),e3_ P "_law_pot" 568 (.ref 294),e3_ P "_law_digit" 577 (.ref 301),e3_ P "_law_row" 583 (.ref 306),e3_ P "_law_depths" 589 (.ref 311),e3_ P "_law_telling" 595 (.ref 316),e3_ P "_law_steps" 601 (.ref 321),e3_ P "_law_no_step" 615 (.ref 328),e3_ P "_law_no_telling" 628 (.ref 335),e3_ P "_law_word" 636 (.ref 342),e3_ P "_law_done" 646 (.ref 349),e3_ P "_law_listed" 655 (.ref 356),e3_ P "_law_made_one" 664 (.ref 363),e3_ P "_law_is_one" 670 (.ref 368),e3_ P "law" 685 (.ref 375)] 58),#[]⟩) ::
(nat_lit 15,(e2_ #[.type "ValueError"])) ::
(nat_lit 22,e0_) ::
(nat_lit 23,⟨.type "dict",none,(.dict #[e3_ P "__module__" 196 (.str "quarterfold.errors" 187),e3_ P "__firstlineno__" 200 (.int 2 199),e3_ P "__static_attributes__" 201 (.ref 22),e3_ P "__weakref__" 203 (.ref 25),e3_ P "__doc__" 204 .none] 3),#[]⟩) ::
(nat_lit 24,⟨.type "type",none,(.cls ⟨"FloorError",[.type "ValueError"],[.ref 24,.type "ValueError",.type "Exception",.type "BaseException",.type "object"],23, "FloorError",true,[],[.ref 37,.ref 49,.ref 61,.ref 73,.ref 85,.ref 97,.ref 109,.ref 121],false,none,false⟩),#[some (.ref 15),none,some (.str "FloorError" 189),some (.str "FloorError" 197),some (.builtin "ValueError.__new__"),some (.bool true)]⟩) ::
(nat_lit 25,⟨.type "getset_descriptor",none,(.fields #[.str "__weakref__" 202,.ref 24,.builtin "ExceptionGroup.__weakref__",.none]),#[]⟩) ::
(nat_lit 28,(e2_ #[.ref 24])) ::
(nat_lit 35,e0_) ::
(nat_lit 36,⟨.type "dict",none,(.dict #[e3_ P "__module__" 214 (.str "quarterfold.errors" 187),e3_ P "__firstlineno__" 218 (.int 4 217),e3_ P "__static_attributes__" 219 (.ref 35),e3_ P "__doc__" 220 .none] 2),#[]⟩) ::
(nat_lit 37,⟨.type "type",none,(.cls ⟨"NoFloor",[.ref 24],[.ref 37,.ref 24,.type "ValueError",.type "Exception",.type "BaseException",.type "object"],36, "NoFloor",true,[],[],false,none,false⟩),#[some (.ref 28),none,some (.str "NoFloor" 207),some (.str "NoFloor" 215),some (.builtin "ValueError.__new__"),some (.bool true)]⟩) ::
(nat_lit 40,(e2_ #[.ref 24])) ::
(nat_lit 47,e0_) ::
(nat_lit 48,⟨.type "dict",none,(.dict #[e3_ P "__module__" 230 (.str "quarterfold.errors" 187),e3_ P "__firstlineno__" 234 (.int 6 233),e3_ P "__static_attributes__" 235 (.ref 47),e3_ P "__doc__" 236 .none] 2),#[]⟩) ::
(nat_lit 49,⟨.type "type",none,(.cls ⟨"NoAddress",[.ref 24],[.ref 49,.ref 24,.type "ValueError",.type "Exception",.type "BaseException",.type "object"],48, "NoAddress",true,[],[],false,none,false⟩),#[some (.ref 40),none,some (.str "NoAddress" 223),some (.str "NoAddress" 231),some (.builtin "ValueError.__new__"),some (.bool true)]⟩) ::
(nat_lit 52,(e2_ #[.ref 24])) ::
(nat_lit 59,e0_) ::
(nat_lit 60,⟨.type "dict",none,(.dict #[e3_ P "__module__" 246 (.str "quarterfold.errors" 187),e3_ P "__firstlineno__" 250 (.int 8 249),e3_ P "__static_attributes__" 251 (.ref 59),e3_ P "__doc__" 252 .none] 2),#[]⟩) ::
(nat_lit 61,⟨.type "type",none,(.cls ⟨"NoCell",[.ref 24],[.ref 61,.ref 24,.type "ValueError",.type "Exception",.type "BaseException",.type "object"],60, "NoCell",true,[],[],false,none,false⟩),#[some (.ref 52),none,some (.str "NoCell" 239),some (.str "NoCell" 247),some (.builtin "ValueError.__new__"),some (.bool true)]⟩) ::
(nat_lit 64,(e2_ #[.ref 24])) ::
(nat_lit 71,e0_) ::
(nat_lit 72,⟨.type "dict",none,(.dict #[e3_ P "__module__" 262 (.str "quarterfold.errors" 187),e3_ P "__firstlineno__" 266 (.int 10 265),e3_ P "__static_attributes__" 267 (.ref 71),e3_ P "__doc__" 268 .none] 2),#[]⟩) ::
(nat_lit 73,⟨.type "type",none,(.cls ⟨"NoShape",[.ref 24],[.ref 73,.ref 24,.type "ValueError",.type "Exception",.type "BaseException",.type "object"],72, "NoShape",true,[],[],false,none,false⟩),#[some (.ref 64),none,some (.str "NoShape" 255),some (.str "NoShape" 263),some (.builtin "ValueError.__new__"),some (.bool true)]⟩) ::
(nat_lit 76,(e2_ #[.ref 24])) ::
(nat_lit 83,e0_) ::
(nat_lit 84,⟨.type "dict",none,(.dict #[e3_ P "__module__" 278 (.str "quarterfold.errors" 187),e3_ P "__firstlineno__" 282 (.int 12 281),e3_ P "__static_attributes__" 283 (.ref 83),e3_ P "__doc__" 284 .none] 2),#[]⟩) ::
(nat_lit 85,⟨.type "type",none,(.cls ⟨"NoTelling",[.ref 24],[.ref 85,.ref 24,.type "ValueError",.type "Exception",.type "BaseException",.type "object"],84, "NoTelling",true,[],[],false,none,false⟩),#[some (.ref 76),none,some (.str "NoTelling" 271),some (.str "NoTelling" 279),some (.builtin "ValueError.__new__"),some (.bool true)]⟩) ::
(nat_lit 88,(e2_ #[.ref 24])) ::
(nat_lit 95,e0_) ::
(nat_lit 96,⟨.type "dict",none,(.dict #[e3_ P "__module__" 294 (.str "quarterfold.errors" 187),e3_ P "__firstlineno__" 298 (.int 14 297),e3_ P "__static_attributes__" 299 (.ref 95),e3_ P "__doc__" 300 .none] 2),#[]⟩) ::
(nat_lit 97,⟨.type "type",none,(.cls ⟨"NoText",[.ref 24],[.ref 97,.ref 24,.type "ValueError",.type "Exception",.type "BaseException",.type "object"],96, "NoText",true,[],[],false,none,false⟩),#[some (.ref 88),none,some (.str "NoText" 287),some (.str "NoText" 295),some (.builtin "ValueError.__new__"),some (.bool true)]⟩) ::
(nat_lit 100,(e2_ #[.ref 24])) ::
(nat_lit 107,e0_) ::
(nat_lit 108,⟨.type "dict",none,(.dict #[e3_ P "__module__" 310 (.str "quarterfold.errors" 187),e3_ P "__firstlineno__" 314 (.int 16 313),e3_ P "__static_attributes__" 315 (.ref 107),e3_ P "__doc__" 316 .none] 2),#[]⟩) ::
(nat_lit 109,⟨.type "type",none,(.cls ⟨"NoStep",[.ref 24],[.ref 109,.ref 24,.type "ValueError",.type "Exception",.type "BaseException",.type "object"],108, "NoStep",true,[],[],false,none,false⟩),#[some (.ref 100),none,some (.str "NoStep" 303),some (.str "NoStep" 311),some (.builtin "ValueError.__new__"),some (.bool true)]⟩) ::
(nat_lit 112,(e2_ #[.ref 24])) ::
(nat_lit 119,e0_) ::
(nat_lit 120,⟨.type "dict",none,(.dict #[e3_ P "__module__" 326 (.str "quarterfold.errors" 187),e3_ P "__firstlineno__" 330 (.int 18 329),e3_ P "__static_attributes__" 331 (.ref 119),e3_ P "__doc__" 332 .none] 2),#[]⟩) ::
(nat_lit 121,⟨.type "type",none,(.cls ⟨"NoNumber",[.ref 24],[.ref 121,.ref 24,.type "ValueError",.type "Exception",.type "BaseException",.type "object"],120, "NoNumber",true,[],[],false,none,false⟩),#[some (.ref 112),none,some (.str "NoNumber" 319),some (.str "NoNumber" 327),some (.builtin "ValueError.__new__"),some (.bool true)]⟩) ::
(nat_lit 124,e0_) ::
(nat_lit 126,(e2_ #[.str "thing" 346])) ::
(nat_lit 127,e0_) ::
(nat_lit 129,oC "is_whole" "is_whole" 343 344 345 24 1 124 125 (.ref 126) (.ref 127) 128 347 348) ::
(nat_lit 130,oF "is_whole" (Pr.top 14) u0_ 129) ::
(nat_lit 131,e0_) ::
(nat_lit 133,(e2_ #[.str "row" 353])) ::
(nat_lit 134,e0_) ::
(nat_lit 136,oC "is_plain" "is_plain" 350 351 352 26 1 131 132 (.ref 133) (.ref 134) 135 354 355) ::
(nat_lit 137,oF "is_plain" (Pr.top 15) u0_ 136) ::
(nat_lit 138,e0_) ::
(nat_lit 141,oC "depths_of" "depths_of" 357 358 359 28 1 138 139 .none .none 140 360 361) ::
(nat_lit 142,oF "depths_of" (Pr.top 16) u0_ 141) ::
(nat_lit 143,e0_) ::
(nat_lit 145,(e2_ #[.str "rows" 366,.str "number" 367,.str "ended" 368,.str "quarter" 369])) ::
(nat_lit 146,e0_) ::
(nat_lit 148,oC "end_rows" "end_rows" 363 364 365 33 3 143 144 (.ref 145) (.ref 146) 147 370 371) ::
(nat_lit 149,oF "end_rows" (Pr.top 17) u0_ 148) ::
(nat_lit 150,e0_) ::
(nat_lit 152,(e2_ #[.str "rows" 376,.str "top" 377,.str "ended" 378])) ::
(nat_lit 153,e0_) ::
(nat_lit 155,oC "places_as_ended" "places_as_ended" 373 374 375 39 2 150 151 (.ref 152) (.ref 153) 154 379 380) ::
(nat_lit 156,oF "places_as_ended" (Pr.top 18) u0_ 155) ::
(nat_lit 157,e0_) ::
(nat_lit 160,oC "renumbered" "renumbered" 382 383 384 43 2 157 158 .none .none 159 385 386) ::
(nat_lit 161,oF "renumbered" (Pr.top 19) u0_ 160) ::
(nat_lit 162,e0_) ::
(nat_lit 164,(e2_ #[.str "n" 391,.str "top" 392,.str "rows" 393,.str "numbers" 394,.str "told" 395,.str "place" 396])) ::
(nat_lit 165,e0_) ::
(nat_lit 167,oC "shape_of" "shape_of" 388 389 390 45 3 162 163 (.ref 164) (.ref 165) 166 397 398) ::
(nat_lit 168,oF "shape_of" (Pr.top 20) u0_ 167) ::
(nat_lit 176,e0_) ::
(nat_lit 178,(e2_ #[.str "self" 415])) ::
(nat_lit 179,e0_) ::
(nat_lit 181,oC "__init__" "Book.__init__" 412 413 414 54 1 176 177 (.ref 178) (.ref 179) 180 416 417) ::
(nat_lit 182,oM "__init__" "Book.__init__" (L2.qi6 (Pr.top 21) 0) u0_ 181) ::
(nat_lit 183,e0_) ::
(nat_lit 185,(e2_ #[.str "self" 422,.str "row" 423])) ::
(nat_lit 186,e0_) ::
(nat_lit 188,oC "number_for" "Book.number_for" 419 420 421 58 2 183 184 (.ref 185) (.ref 186) 187 424 425) ::
(nat_lit 189,oM "number_for" "Book.number_for" (L2.qi6 (Pr.top 21) 1) u0_ 188) ::
(nat_lit 190,e0_) ::
(nat_lit 192,(e2_ #[.str "self" 430,.str "rows" 431,.str "numbers" 432,.str "row" 433])) ::
(nat_lit 193,e0_) ::
(nat_lit 195,oC "numbers_for" "Book.numbers_for" 427 428 429 66 2 190 191 (.ref 192) (.ref 193) 194 434 435) ::
(nat_lit 196,oM "numbers_for" "Book.numbers_for" (L2.qi6 (Pr.top 21) 2) u0_ 195) ::
(nat_lit 197,(e2_ #[.str "kept" 437,.str "numbers" 438])) ::
(nat_lit 198,⟨.type "dict",none,(.dict #[e3_ P "__module__" 407 (.str "quarterfold.rows" 335),e3_ P "__firstlineno__" 411 (.int 52 410),e3_ P "__init__" 418 (.ref 182),e3_ P "number_for" 426 (.ref 189),e3_ P "numbers_for" 436 (.ref 196),e3_ P "__static_attributes__" 439 (.ref 197),e3_ P "__dict__" 441 (.ref 200),e3_ P "__weakref__" 443 (.ref 201),e3_ P "__doc__" 444 .none] 4),#[]⟩) ::
(nat_lit 199,⟨.type "type",none,(.cls ⟨"Book",[.type "object"],[.ref 199,.type "object"],198, "Book",true,[],[],false,none,false⟩),#[none,none,some (.str "Book" 400),some (.str "Book" 408),some (.builtin "object.__new__"),some (.bool true)]⟩) ::
(nat_lit 200,⟨.type "getset_descriptor",none,(.fields #[.str "__dict__" 440,.ref 199,.builtin "function.__dict__",.builtin "function.__dict__#set"]),#[]⟩) ::
(nat_lit 201,⟨.type "getset_descriptor",none,(.fields #[.str "__weakref__" 442,.ref 199,.builtin "ExceptionGroup.__weakref__",.none]),#[]⟩) ::
(nat_lit 204,e0_) ::
(nat_lit 206,(e2_ #[.str "thing" 454])) ::
(nat_lit 207,e0_) ::
(nat_lit 209,oC "is_size" "is_size" 451 452 453 73 1 204 205 (.ref 206) (.ref 207) 208 455 456) ::
(nat_lit 210,oF "is_size" (Pr.top 24) (.str "quarterfold.floors" 447) 209) ::
(nat_lit 211,e0_) ::
(nat_lit 213,(e2_ #[.str "thing" 463,.str "many" 464])) ::
(nat_lit 214,e0_) ::
(nat_lit 216,oC "is_number" "is_number" 460 461 462 76 2 211 212 (.ref 213) (.ref 214) 215 465 466) ::
(nat_lit 217,oF "is_number" (Pr.top 26) u3_ 216) ::
(nat_lit 218,e0_) ::
(nat_lit 221,oC "is_row" "is_row" 468 469 470 78 2 218 219 .none .none 220 471 472) ::
(nat_lit 222,oF "is_row" (Pr.top 27) u3_ 221) ::
(nat_lit 223,e0_) ::
(nat_lit 226,oC "are_rows" "are_rows" 474 475 476 82 1 223 224 .none .none 225 477 478) ::
(nat_lit 227,oF "are_rows" (Pr.top 28) u3_ 226) ::
(nat_lit 228,e0_) ::
(nat_lit 230,(e2_ #[.str "thing" 483,.str "n" 484,.str "top" 485,.str "rows" 486])) ::
(nat_lit 231,e0_) ::
(nat_lit 233,oC "is_telling" "is_telling" 480 481 482 84 1 228 229 (.ref 230) (.ref 231) 232 487 488) ::
(nat_lit 234,oF "is_telling" (Pr.top 29) u3_ 233) ::
(nat_lit 235,e0_) ::
(nat_lit 237,(e2_ #[.str "telling" 493])) ::
(nat_lit 238,e0_) ::
(nat_lit 240,oC "want_telling" "want_telling" 490 491 492 91 1 235 236 (.ref 237) (.ref 238) 239 494 495) ::
(nat_lit 241,oF "want_telling" (Pr.top 30) u3_ 240) ::
(nat_lit 242,e0_) ::
(nat_lit 245,oC "same_steps" "same_steps" 499 500 501 95 1 242 243 .none .none 244 502 503) ::
(nat_lit 246,oF "same_steps" (Pr.top 32) u2_ 245) ::
(nat_lit 247,e0_) ::
(nat_lit 250,oC "plain_steps" "plain_steps" 505 506 507 103 1 247 248 .none .none 249 508 509) ::
(nat_lit 251,oF "plain_steps" (Pr.top 33) u2_ 250) ::
(nat_lit 252,e0_) ::
(nat_lit 255,oC "gone_steps" "gone_steps" 511 512 513 105 2 252 253 .none .none 254 514 515) ::
(nat_lit 256,oF "gone_steps" (Pr.top 34) u2_ 255) ::
(nat_lit 257,e0_) ::
(nat_lit 259,(e2_ #[.str "telling" 520,.str "top" 521,.str "rows" 522])) ::
(nat_lit 260,e0_) ::
(nat_lit 262,oC "steps_of" "steps_of" 517 518 519 111 1 257 258 (.ref 259) (.ref 260) 261 523 524) ::
(nat_lit 263,oF "steps_of" (Pr.top 35) u2_ 262) ::
(nat_lit 264,e0_) ::
(nat_lit 267,oC "is_step" "is_step" 526 527 528 115 2 264 265 .none .none 266 529 530) ::
(nat_lit 268,oF "is_step" (Pr.top 36) u2_ 267) ::
(nat_lit 269,e0_) ::
(nat_lit 271,(e2_ #[.str "rows" 535,.str "step" 536])) ::
(nat_lit 272,e0_) ::
(nat_lit 274,oC "number_behind" "number_behind" 532 533 534 121 2 269 270 (.ref 271) (.ref 272) 273 537 538) ::
(nat_lit 275,oF "number_behind" (Pr.top 37) u2_ 274) ::
(nat_lit 276,e0_) ::
(nat_lit 279,oC "stepped" "stepped" 540 541 542 125 2 276 277 .none .none 278 543 544) ::
(nat_lit 280,oF "stepped" (Pr.top 38) u2_ 279) ::
(nat_lit 281,e0_) ::
(nat_lit 283,(e2_ #[.str "telling" 549,.str "n" 550,.str "top" 551,.str "rows" 552,.str "book" 553,.str "numbers" 554])) ::
(nat_lit 284,e0_) ::
(nat_lit 286,oC "one_telling" "one_telling" 546 547 548 134 1 281 282 (.ref 283) (.ref 284) 285 555 556) ::
(nat_lit 287,oF "one_telling" (Pr.top 39) u2_ 286) ::
(nat_lit 288,e0_) ::
(nat_lit 290,(e2_ #[.str "_law_script" 563,.str "_law_k" 564,.str "_law_cell" 565])) ::
(nat_lit 291,e0_) ::
(nat_lit 293,oC "_law_pot" "_law_pot" 560 561 562 141 2 288 289 (.ref 290) (.ref 291) 292 566 567) ::
(nat_lit 294,oF "_law_pot" (Pr.top 41) u1_ 293) ::
(nat_lit 295,e0_) ::
(nat_lit 297,(e2_ #[.str "_law_pot_here" 572,.str "_law_many" 573,.str "_law_digit_here" 574])) ::
(nat_lit 298,e0_) ::
(nat_lit 300,oC "_law_digit" "_law_digit" 569 570 571 146 2 295 296 (.ref 297) (.ref 298) 299 575 576) ::
(nat_lit 301,oF "_law_digit" (Pr.top 42) u1_ 300) ::
(nat_lit 302,e0_) ::
(nat_lit 305,oC "_law_row" "_law_row" 578 579 580 153 2 302 303 .none .none 304 581 582) ::
(nat_lit 306,oF "_law_row" (Pr.top 43) u1_ 305) ::
(nat_lit 307,e0_) ::
(nat_lit 310,oC "_law_depths" "_law_depths" 584 585 586 162 1 307 308 .none .none 309 587 588) ::
(nat_lit 311,oF "_law_depths" (Pr.top 44) u1_ 310) ::
(nat_lit 312,e0_) ::
(nat_lit 315,oC "_law_telling" "_law_telling" 590 591 592 167 3 312 313 .none .none 314 593 594) ::
(nat_lit 316,oF "_law_telling" (Pr.top 45) u1_ 315) ::
(nat_lit 317,e0_) ::
(nat_lit 320,oC "_law_steps" "_law_steps" 596 597 598 174 1 317 318 .none .none 319 599 600) ::
(nat_lit 321,oF "_law_steps" (Pr.top 46) u1_ 320) ::
(nat_lit 322,e0_) ::
(nat_lit 324,(e2_ #[.str "_law_pot_here" 605,.str "_law_telling_here" 606,.str "_law_steps_here" 607,.str "_law_many" 608,.str "_law_k" 609,.str "_law_j" 610,.str "_law_some" 611,.str "_law_step" 612])) ::
(nat_lit 325,e0_) ::
(nat_lit 327,oC "_law_no_step" "_law_no_step" 602 603 604 187 3 322 323 (.ref 324) (.ref 325) 326 613 614) ::
(nat_lit 328,oF "_law_no_step" (Pr.top 47) u1_ 327) ::
(nat_lit 329,e0_) ::
(nat_lit 331,(e2_ #[.str "_law_pot_here" 619,.str "_law_telling_here" 620,.str "_law_n" 621,.str "_law_top" 622,.str "_law_rows" 623,.str "_law_many" 624,.str "_law_some" 625])) ::
(nat_lit 332,e0_) ::
(nat_lit 334,oC "_law_no_telling" "_law_no_telling" 616 617 618 201 2 329 330 (.ref 331) (.ref 332) 333 626 627) ::
(nat_lit 335,oF "_law_no_telling" (Pr.top 48) u1_ 334) ::
(nat_lit 336,e0_) ::
(nat_lit 338,(e2_ #[.str "_law_e" 632,.str "_law_some" 633])) ::
(nat_lit 339,e0_) ::
(nat_lit 341,oC "_law_word" "_law_word" 629 630 631 211 1 336 337 (.ref 338) (.ref 339) 340 634 635) ::
(nat_lit 342,oF "_law_word" (Pr.top 49) u1_ 341) ::
(nat_lit 343,e0_) ::
(nat_lit 345,(e2_ #[.str "_law_telling_here" 640,.str "_law_step" 641,.str "_law_told" 642,.str "_law_e" 643])) ::
(nat_lit 346,e0_) ::
(nat_lit 348,oC "_law_done" "_law_done" 637 638 639 216 2 343 344 (.ref 345) (.ref 346) 347 644 645) ::
(nat_lit 349,oF "_law_done" (Pr.top 50) u1_ 348) ::
(nat_lit 350,e0_) ::
(nat_lit 352,(e2_ #[.str "_law_telling_here" 650,.str "_law_told" 651,.str "_law_e" 652])) ::
(nat_lit 353,e0_) ::
(nat_lit 355,oC "_law_listed" "_law_listed" 647 648 649 223 1 350 351 (.ref 352) (.ref 353) 354 653 654) ::
(nat_lit 356,oF "_law_listed" (Pr.top 51) u1_ 355) ::
(nat_lit 357,e0_) ::
(nat_lit 359,(e2_ #[.str "_law_telling_here" 659,.str "_law_told" 660,.str "_law_e" 661])) ::
(nat_lit 360,e0_) ::
(nat_lit 362,oC "_law_made_one" "_law_made_one" 656 657 658 230 1 357 358 (.ref 359) (.ref 360) 361 662 663) ::
(nat_lit 363,oF "_law_made_one" (Pr.top 52) u1_ 362) ::
(nat_lit 364,e0_) ::
(nat_lit 367,oC "_law_is_one" "_law_is_one" 665 666 667 237 2 364 365 .none .none 366 668 669) ::
(nat_lit 368,oF "_law_is_one" (Pr.top 53) u1_ 367) ::
(nat_lit 369,e0_) ::
(nat_lit 371,(e2_ #[.str "_law_script" 674,.str "_law_k" 675,.str "_law_pot_here" 676,.str "_law_telling_here" 677,.str "_law_steps_here" 678,.str "_law_turn" 679,.str "_law_thing" 680,.str "_law_broken" 681,.str "_law_step" 682])) ::
(nat_lit 372,e0_) ::
(nat_lit 374,oC "law" "law" 671 672 673 239 1 369 370 (.ref 371) (.ref 372) 373 683 684) ::
(nat_lit 375,oF "law" (Pr.top 54) u1_ 374)::[]
def as0:List Addr:=[2,3,15,22,23,24,25,28,35,36,37,40,47,48,49,52,59,60,61,64,71,72,73,76,83,84,85,88,95,96,97,100,107,108,109,112,119,120,121,124,126,127,129,130,131,133,134,136,137,138,141,142,143,145,146,148,149,150,152,153,155,156,157,160,161,162,164,165,167,168,176,178,179,181,182,183,185,186,188,189,190,192,193,195,196,197,198,199,200,201,204,206,207,209,210,211,213,214,216,217,218,221,222,223,226,227,228,230,231,233,234,235,237,238,240,241,242,245,246,247,250,251,252,255,256,257,259,260,262,263,264,267,268,269,271,272,274,275,276,279,280,281,283,284,286,287,288,290,291,293,294,295,297,298,300,301,302,305,306,307,310,311,312,315,316,317,320,321,322,324,325,327,328,329,331,332,334,335,336,338,339,341,342,343,345,346,348,349,350,352,353,355,356,357,359,360,362,363,364,367,368,369,371,372,374,375]
def keep0:List Nat:=[1,2,3,4,5,6,7,8,9,11,12,13,14,15,16,17,18,19,20,21,23,24,26,27,28,29,30,32,33,34,35,36,37,38,39,41,42,43,44,45,46,47,48,49,50,51,52,53,54]
def N0:Nat:=6718
noncomputable def bx (P:Params) (a t l:Nat) (x:Str):List Obj:=[(e2_ #[.ref 24]),
⟨.type "builtin_function_or_method",none,(.fields #[.builtin "type.__prepare__",.type "type"]),#[]⟩,
⟨.type "dict",none,(.dict #[⟨kh P "__module__",.str "__module__" (t+7),.str "quarterfold.errors" 187⟩,⟨kh P "__qualname__",.str "__qualname__" (t+9),.str x (t+8)⟩,⟨kh P "__firstlineno__",.str "__firstlineno__" (t+11),.int l (t+10)⟩,⟨kh P "__static_attributes__",.str "__static_attributes__" (t+12),.ref (a+7)⟩] 4),#[]⟩,
e0_,
e1_,
⟨.type "code",none,(.fields #[.str x (t+2),.str x (t+3),.str "/claim/cut.py" (t+4),.int l 0,.int 0 0,.int 0 0,.int 0 0,.int 0 0,.ref (a+3),.bool false,.int 181 0,.ref (a+4),.none,.none,.none,.none,.int (t+5) 0,.int l 0,.str "/claim/cut.py" (t+6)]),#[]⟩,
⟨.type "frame",none,.plain,#[some (.ref (a+5)),some (.ref 3),some (.ref (a+2)),none,some (.str "quarterfold.errors" 187),none,some (.ref 0)]⟩,
e0_,
⟨.type "dict",none,(.dict #[⟨kh P "__module__",.str "__module__" (t+7),.str "quarterfold.errors" 187⟩,⟨kh P "__firstlineno__",.str "__firstlineno__" (t+11),.int l (t+10)⟩,⟨kh P "__static_attributes__",.str "__static_attributes__" (t+12),.ref (a+7)⟩,⟨kh P "__doc__",.str "__doc__" (t+13),.none⟩] 2),#[]⟩,
⟨.type "type",none,(.cls ⟨x,[.ref 24],[.ref (a+9),.ref 24,.type "ValueError",.type "Exception",.type "BaseException",.type "object"],(a+8),x,true,[],[],false,none,false⟩),#[some (.ref a),none,some (.str x t),some (.str x (t+8)),some (.builtin "ValueError.__new__"),some (.bool true)]⟩,
⟨.type "super",none,(.fields #[.ref (a+9),.ref (a+9),.ref (a+9)]),#[]⟩,
⟨.type "builtin_function_or_method",none,(.fields #[.builtin "object.__init_subclass__",.ref (a+9)]),#[]⟩]
noncomputable def ob (P:Params):List Obj:=[boot_o_0 P,boot_o_1 P,boot_o_2 P,⟨.type "dict",none,(.dict #[e3_ P "__name__" 165 (.str "quarterfold.rows" 335),e3_ P "__doc__" 166 .none,e3_ P "__package__" 167 .none,e3_ P "__loader__" 168 (.builtin "__main__.__loader__#opaque"),e3_ P "__spec__" 169 .none,e3_ P "__annotations__" 170 (.ref 6),e3_ P "__builtins__" 171 (.ref 4),e3_ P "__file__" 173 (.str "/claim/cut.py" 172),e3_ P "__cached__" 174 .none,e3_ P "FloorError" 206 (.ref 24),e3_ P "NoFloor" 222 (.ref 37),e3_ P "NoAddress" 238 (.ref 49),e3_ P "NoCell" 254 (.ref 61),e3_ P "NoShape" 270 (.ref 73),e3_ P "NoTelling" 286 (.ref 85),e3_ P "NoText" 302 (.ref 97),e3_ P "NoStep" 318 (.ref 109),e3_ P "NoNumber" 334 (.ref 121),e3_ P "EMPTY" 338 (.int 0 337),e3_ P "FULL" 340 (.int 1 339),e3_ P "FIRST" 342 (.int 2 341),e3_ P "is_whole" 349 (.ref 130),e3_ P "is_plain" 356 (.ref 137),e3_ P "depths_of" 362 (.ref 142),e3_ P "end_rows" 372 (.ref 149),e3_ P "places_as_ended" 381 (.ref 156),e3_ P "renumbered" 387 (.ref 161),e3_ P "shape_of" 399 (.ref 168),e3_ P "Book" 446 (.ref 199)] 29),#[]⟩,boot_o_4 P,boot_o_5 P,boot_o_6 P,boot_o_7 P,boot_o_8 P,boot_o_9 P,boot_o_10 P,e0_,⟨.none,none,(.fields #[.int 2 0,.int 0 0,.ref 20,.int 4 0,.int 0 0,.ref 33,.int 6 0,.int 0 0,.ref 45,.int 8 0,.int 0 0,.ref 57,.int 10 0,.int 0 0,.ref 69,.int 12 0,.int 0 0,.ref 81,.int 14 0,.int 0 0,.ref 93,.int 16 0,.int 0 0,.ref 105,.int 18 0,.int 0 0,.ref 117,.int 24 0,.int 0 0,.ref 129,.int 26 0,.int 0 0,.ref 136,.int 28 0,.int 0 0,.ref 141,.int 33 0,.int 0 0,.ref 148,.int 39 0,.int 0 0,.ref 155,.int 43 0,.int 0 0,.ref 160,.int 45 0,.int 0 0,.ref 167,.int 52 0,.int 0 0,.ref 174]),#[]⟩,⟨.type "code",none,(.fields #[.str "<module>" 182,.str "<module>" 183,.str "/claim/cut.py" 184,.int 1 0,.int 0 0,.int 0 0,.int 0 0,.int 0 0,.ref 11,.bool false,.int 181 0,.ref 12,.none,.none,.none,.none,.int 185 0,.int 1 0,.str "/claim/cut.py" 186]),#[]⟩,⟨.type "frame",none,.plain,#[some (.ref 13),some (.ref 3),some (.ref 3),none,some (.str "__main__" 164),none,some (.ref 0)]⟩,(e2_ #[.type "ValueError"]),⟨.type "builtin_function_or_method",none,(.fields #[.builtin "type.__prepare__",.type "type"]),#[]⟩,⟨.type "dict",none,(.dict #[e3_ P "__module__" 196 (.str "quarterfold.errors" 187),e3_ P "__qualname__" 198 (.str "FloorError" 197),e3_ P "__firstlineno__" 200 (.int 2 199),e3_ P "__static_attributes__" 201 (.ref 22)] 4),#[]⟩,e0_,e1_,⟨.type "code",none,(.fields #[.str "FloorError" 191,.str "FloorError" 192,.str "/claim/cut.py" 193,.int 2 0,.int 0 0,.int 0 0,.int 0 0,.int 0 0,.ref 18,.bool false,.int 181 0,.ref 19,.none,.none,.none,.none,.int 194 0,.int 2 0,.str "/claim/cut.py" 195]),#[]⟩,⟨.type "frame",none,.plain,#[some (.ref 20),some (.ref 3),some (.ref 17),none,some (.str "quarterfold.errors" 187),none,some (.ref 0)]⟩,e0_,⟨.type "dict",none,(.dict #[e3_ P "__module__" 196 (.str "quarterfold.errors" 187),e3_ P "__firstlineno__" 200 (.int 2 199),e3_ P "__static_attributes__" 201 (.ref 22),e3_ P "__weakref__" 203 (.ref 25),e3_ P "__doc__" 204 .none] 3),#[]⟩,⟨.type "type",none,(.cls ⟨"FloorError",[.type "ValueError"],[.ref 24,.type "ValueError",.type "Exception",.type "BaseException",.type "object"],23, "FloorError",true,[],[.ref 37,.ref 49,.ref 61,.ref 73,.ref 85,.ref 97,.ref 109,.ref 121],false,none,false⟩),#[some (.ref 15),none,some (.str "FloorError" 189),some (.str "FloorError" 197),some (.builtin "ValueError.__new__"),some (.bool true)]⟩,⟨.type "getset_descriptor",none,(.fields #[.str "__weakref__" 202,.ref 24,.builtin "ExceptionGroup.__weakref__",.none]),#[]⟩,⟨.type "super",none,(.fields #[.ref 24,.ref 24,.ref 24]),#[]⟩,⟨.type "builtin_function_or_method",none,(.fields #[.builtin "object.__init_subclass__",.ref 24]),#[]⟩]++(bx P 28 207 4 "NoFloor" ++ (bx P 40 223 6 "NoAddress" ++ (bx P 52 239 8 "NoCell" ++ (bx P 64 255 10 "NoShape" ++ (bx P 76 271 12 "NoTelling" ++ (bx P 88 287 14 "NoText" ++ (bx P 100 303 16 "NoStep" ++ (bx P 112 319 18 "NoNumber" ++ ([e0_,e1_,(e2_ #[.str "thing" 346]),e0_,oT "is_whole" "is_whole" (Pr.top 14),oC "is_whole" "is_whole" 343 344 345 24 1 124 125 (.ref 126) (.ref 127) 128 347 348,oF "is_whole" (Pr.top 14) u0_ 129,e0_,e1_,(e2_ #[.str "row" 353]),e0_,oT "is_plain" "is_plain" (Pr.top 15),oC "is_plain" "is_plain" 350 351 352 26 1 131 132 (.ref 133) (.ref 134) 135 354 355,oF "is_plain" (Pr.top 15) u0_ 136,e0_,e1_,oT "depths_of" "depths_of" (Pr.top 16),oC "depths_of" "depths_of" 357 358 359 28 1 138 139 .none .none 140 360 361,oF "depths_of" (Pr.top 16) u0_ 141,e0_,e1_,(e2_ #[.str "rows" 366,.str "number" 367,.str "ended" 368,.str "quarter" 369]),e0_,oT "end_rows" "end_rows" (Pr.top 17),oC "end_rows" "end_rows" 363 364 365 33 3 143 144 (.ref 145) (.ref 146) 147 370 371,oF "end_rows" (Pr.top 17) u0_ 148,e0_,e1_,(e2_ #[.str "rows" 376,.str "top" 377,.str "ended" 378]),e0_,oT "places_as_ended" "places_as_ended" (Pr.top 18),oC "places_as_ended" "places_as_ended" 373 374 375 39 2 150 151 (.ref 152) (.ref 153) 154 379 380,oF "places_as_ended" (Pr.top 18) u0_ 155,e0_,e1_,oT "renumbered" "renumbered" (Pr.top 19),oC "renumbered" "renumbered" 382 383 384 43 2 157 158 .none .none 159 385 386,oF "renumbered" (Pr.top 19) u0_ 160,e0_,e1_,(e2_ #[.str "n" 391,.str "top" 392,.str "rows" 393,.str "numbers" 394,.str "told" 395,.str "place" 396]),e0_,oT "shape_of" "shape_of" (Pr.top 20),oC "shape_of" "shape_of" 388 389 390 45 3 162 163 (.ref 164) (.ref 165) 166 397 398,oF "shape_of" (Pr.top 20) u0_ 167,e0_,⟨.type "builtin_function_or_method",none,(.fields #[.builtin "type.__prepare__",.type "type"]),#[]⟩,⟨.type "dict",none,(.dict #[e3_ P "__module__" 407 (.str "quarterfold.rows" 335),e3_ P "__qualname__" 409 (.str "Book" 408),e3_ P "__firstlineno__" 411 (.int 52 410),e3_ P "__init__" 418 (.ref 182),e3_ P "number_for" 426 (.ref 189),e3_ P "numbers_for" 436 (.ref 196),e3_ P "__static_attributes__" 439 (.ref 197)] 7),#[]⟩,e0_,⟨.none,none,(.fields #[.int 54 0,.int 4 0,.ref 181,.int 58 0,.int 4 0,.ref 188,.int 66 0,.int 4 0,.ref 195]),#[]⟩,⟨.type "code",none,(.fields #[.str "Book" 402,.str "Book" 403,.str "/claim/cut.py" 404,.int 52 0,.int 0 0,.int 0 0,.int 0 0,.int 0 0,.ref 172,.bool false,.int 181 0,.ref 173,.none,.none,.none,.none,.int 405 0,.int 52 0,.str "/claim/cut.py" 406]),#[]⟩,⟨.type "frame",none,.plain,#[some (.ref 174),some (.ref 3),some (.ref 171),none,some u0_,none,some (.ref 0)]⟩,e0_,e1_,(e2_ #[.str "self" 415]),e0_,oT "__init__" "Book.__init__" (L2.qi6 (Pr.top 21) 0),oC "__init__" "Book.__init__" 412 413 414 54 1 176 177 (.ref 178) (.ref 179) 180 416 417,oM "__init__" "Book.__init__" (L2.qi6 (Pr.top 21) 0) u0_ 181,e0_,e1_,(e2_ #[.str "self" 422,.str "row" 423]),e0_,oT "number_for" "Book.number_for" (L2.qi6 (Pr.top 21) 1),oC "number_for" "Book.number_for" 419 420 421 58 2 183 184 (.ref 185) (.ref 186) 187 424 425,oM "number_for" "Book.number_for" (L2.qi6 (Pr.top 21) 1) u0_ 188,e0_,e1_,(e2_ #[.str "self" 430,.str "rows" 431,.str "numbers" 432,.str "row" 433]),e0_,oT "numbers_for" "Book.numbers_for" (L2.qi6 (Pr.top 21) 2),oC "numbers_for" "Book.numbers_for" 427 428 429 66 2 190 191 (.ref 192) (.ref 193) 194 434 435,oM "numbers_for" "Book.numbers_for" (L2.qi6 (Pr.top 21) 2) u0_ 195,(e2_ #[.str "kept" 437,.str "numbers" 438]),⟨.type "dict",none,(.dict #[e3_ P "__module__" 407 (.str "quarterfold.rows" 335),e3_ P "__firstlineno__" 411 (.int 52 410),e3_ P "__init__" 418 (.ref 182),e3_ P "number_for" 426 (.ref 189),e3_ P "numbers_for" 436 (.ref 196),e3_ P "__static_attributes__" 439 (.ref 197),e3_ P "__dict__" 441 (.ref 200),e3_ P "__weakref__" 443 (.ref 201),e3_ P "__doc__" 444 .none] 4),#[]⟩,⟨.type "type",none,(.cls ⟨"Book",[.type "object"],[.ref 199,.type "object"],198, "Book",true,[],[],false,none,false⟩),#[none,none,some (.str "Book" 400),some (.str "Book" 408),some (.builtin "object.__new__"),some (.bool true)]⟩,⟨.type "getset_descriptor",none,(.fields #[.str "__dict__" 440,.ref 199,.builtin "function.__dict__",.builtin "function.__dict__#set"]),#[]⟩,⟨.type "getset_descriptor",none,(.fields #[.str "__weakref__" 442,.ref 199,.builtin "ExceptionGroup.__weakref__",.none]),#[]⟩,⟨.type "super",none,(.fields #[.ref 199,.ref 199,.ref 199]),#[]⟩,⟨.type "builtin_function_or_method",none,(.fields #[.builtin "object.__init_subclass__",.ref 199]),#[]⟩])))))))))
noncomputable def hA (P:Params):Heap:=⟨⟨((((ob P).take 15).set 3 (boot_o_3 P)).set 12 (e1_))⟩,(boot_heap P).life⟩
noncomputable def h1 (P:Params):Heap:=⟨⟨(((((ob P).take 88).set 3 (⟨.type "dict",none,(.dict #[e3_ P "__name__" 165 (.str "quarterfold.errors" 187),e3_ P "__doc__" 166 .none,e3_ P "__package__" 167 .none,e3_ P "__loader__" 168 (.builtin "__main__.__loader__#opaque"),e3_ P "__spec__" 169 .none,e3_ P "__annotations__" 170 (.ref 6),e3_ P "__builtins__" 171 (.ref 4),e3_ P "__file__" 173 (.str "/claim/cut.py" 172),e3_ P "__cached__" 174 .none,e3_ P "FloorError" 206 (.ref 24),e3_ P "NoFloor" 222 (.ref 37),e3_ P "NoAddress" 238 (.ref 49),e3_ P "NoCell" 254 (.ref 61),e3_ P "NoShape" 270 (.ref 73),e3_ P "NoTelling" 286 (.ref 85)] 15),#[]⟩)).set 12 (⟨.none,none,(.fields #[.int 2 0,.int 0 0,.ref 20,.int 4 0,.int 0 0,.ref 33,.int 6 0,.int 0 0,.ref 45,.int 8 0,.int 0 0,.ref 57,.int 10 0,.int 0 0,.ref 69,.int 12 0,.int 0 0,.ref 81]),#[]⟩)).set 24 (⟨.type "type",none,(.cls ⟨"FloorError",[.type "ValueError"],[.ref 24,.type "ValueError",.type "Exception",.type "BaseException",.type "object"],23, "FloorError",true,[],[.ref 37,.ref 49,.ref 61,.ref 73,.ref 85],false,none,false⟩),#[some (.ref 15),none,some (.str "FloorError" 189),some (.str "FloorError" 197),some (.builtin "ValueError.__new__"),some (.bool true)]⟩))⟩,(boot_heap P).life⟩
noncomputable def h2 (P:Params):Heap:=⟨⟨(ob P)⟩,(boot_heap P).life⟩
noncomputable def bd:List Stmt:=behindTheImports pw
noncomputable def ev:Env:={ scope:=pw.main.scope,locals:=mainNs,globals:=mainNs,cells:=[],code:=.ref 13,frame:=some 14 }
noncomputable def cE:Code:=.body bd ev
noncomputable abbrev sh (h:Params->Heap) (k:Nat) (w:World) (os:OsState):Shared:=⟨h w.params,Array.mk [],boot_drawn,k,os⟩
noncomputable abbrev fr:List Frame:=[topFrame ⟨0,0,0,0⟩]
theorem pre0 (w:World) (os:OsState):topGo treeTable pw w 11 (some (.ref 6)) 12 (sh boot_heap boot_toks w os) (topStub pw)=some (sh hA 187 w os,⟨denote treeTable cE,cE,⟨0,0,0,0⟩,fr⟩):=by kernel_rfl
theorem blk0 (w:World) (os:OsState):segRun treeTable pw w 11 (some (.ref 6)) 1 1 (sh hA 187 w os) (blockOf bd ev cE ⟨0,0,0,0⟩ fr)=some (.next,sh hA 187 w os,cE,⟨0,0,0,0⟩):=by kernel_rfl
theorem qy5 {tb:String->Option Builtin}{p:Program}{w:World}{n₀:Nat}{ann:Option Value}{env:Env}{q:Pos}{n N j:Nat}{s s' r:Shared}{l:List Stmt}{c:Code}{pos p':Pos}(h:segRun tb p w n₀ ann 1 n s (piecesOf (l.take j) env c pos [topFrame q])=some (.next,s',c,p'))
  (k:topRun tb p w n₀ ann N s' (restOf (l.drop j) env c p' [topFrame q])=some r):topRun tb p w n₀ ann (n+N) s (restOf l env c pos [topFrame q])=some r:=by
 have:=piece_app (l:=l.take j) (rest:=l.drop j) h k
 rwa [Yz] at this
theorem xh3 {p q:Program}{loose:List Str}{Xt:Shared->Bool}{α:Type}{Yf:Shared->α}{Ya:World->α}{N:Nat}{g0:Bool}{H₀:Params->Heap}{gs₀:Array GenState}{d₀:Drawn}{k₀ m₀ M N2:Nat}{ann:Option Value}{Z:World->OsState->Shared}{T:Thread}
  (open_:∀w:World,(fencedOpening treeTable p w N).map (λs=>(s.heap,s.gens,s.drawn,s.toks))=some (H₀ w.params,gs₀,d₀,k₀))
  (size:∀w:World,((H₀ w.params).isNs mainGlobals&&gs₀.size==0,(H₀ w.params).objs.size,(H₀ w.params).nsMap mainGlobals "__annotations__")=(true,m₀,ann))
  (run:∀(w:World) (os:OsState) (r:Shared),topRun treeTable p w m₀ ann N2 (Z w os) T=some r->topRun treeTable p w m₀ ann M ⟨H₀ w.params,gs₀,d₀,k₀,os⟩ (topStub p)=some r) (le:Nat.ble M N=true)
  (fin:∀(w:World) (os:OsState),(topRun treeTable p w m₀ ann N2 (Z w os) T).map (λs=>(staticsOk (importedModules p.main.body) (H₀ w.params) s.heap&&namesBound p s.heap&&gensDone s&&laidKept (H₀ w.params) s.heap,openSeen q loose (importedModules p.main.body) Xt g0 s,Yf s))=some (true,openGood q loose,Ya w)):LeftO p q loose Xt Yf Ya N g0:=λw=>by
 obtain⟨⟨h,gs,d,k,os⟩,e,e'⟩:=Zw.mp (open_ w);obtain⟨rfl,rfl,rfl,rfl⟩:h=H₀ w.params/\gs=gs₀/\d=d₀/\k=k₀:=by simpa using e'
 obtain⟨z1,z2,z3⟩:_/\_/\_:=by simpa only [Prod.mk.injEq] using size w
 obtain⟨r,hr,e2⟩:=Zw.mp (fin w os);obtain⟨l1,l2,l3⟩:_/\_/\_:=by simpa only [Prod.mk.injEq] using e2
 have r1:=topRun_mono (N-M) _ _ _ _ (run w os r hr);rw[show M+(N-M)=N by have:=ZB le;lia] at r1;have t:topFrom treeTable p w N ⟨H₀ w.params,gs,d,k,os⟩=some r:=by
  unfold topFrom;dsimp only;rw[z1,z2,z3,r1];show (match staticsOk (importedModules p.main.body) (H₀ w.params) r.heap&&namesBound p r.heap&&gensDone r&&laidKept (H₀ w.params) r.heap with|true=>_|false=>_)=_;rw[l1]
 unfold openEnds;rw[e];show (topFrom treeTable p w N ⟨H₀ w.params,gs,d,k,os⟩).map _=_;rw[t];show some (_,_)=some (_,_);rw[l2,l3]
theorem seg1 (w:World) (os:OsState):segRun treeTable pw w 11 (some (.ref 6)) 1 1310 (sh hA 187 w os) (piecesOf (bd.take 7) ev cE ⟨0,0,0,0⟩ fr)=some (.next,sh h1 287 w os,cE,⟨12,0,13,8⟩):=by kernel_rfl
theorem seg2 (w:World) (os:OsState):segRun treeTable pw w 11 (some (.ref 6)) 1 1220 (sh h1 287 w os) (piecesOf ((bd.drop 7).take 15) ev cE ⟨12,0,13,8⟩ fr)=some (.next,sh h2 447 w os,cE,⟨52,0,70,22⟩):=by kernel_rfl
theorem run0 (w:World) (os:OsState) (r:Shared) (h:topRun treeTable pw w 11 (some (.ref 6)) 927 (sh h2 447 w os) (restOf ((bd.drop 7).drop 15) ev cE ⟨52,0,70,22⟩ fr)=some r):topRun treeTable pw w 11 (some (.ref 6)) (12+(1+(1310+(1220+927)))) (sh boot_heap boot_toks w os) (topStub pw)=some r:=go_top (pre0 w os) (piece_block (blk0 w os) (qy5 (seg1 w os) (qy5 (seg2 w os) h)))
theorem opn0:opening pw=plainProg pw.main.scope.names:=by kernel_rfl
theorem fen0 (s:Shared):fenceModules? pw s=some s:=by kernel_rfl
def q0:Program:={ pw with main:={ pw.main with body:=keep0.map Pr.top } }
theorem as_K:∀P,as0=(K0 P).map (·.1):=λ_=>by kernel_rfl
abbrev X0:Shared->Bool:=λs=>xlAt q0 [] s&&recOk (RowW.records (OpenRow.toRowW (OpenLaw.row PySem.Challenge.rw_quarterfold_k23_no_steps_no_tellings))) s
set_option maxHeartbeats 0 in
theorem fin0 (w:World) (os:OsState):(topRun treeTable pw w 11 (some (.ref 6)) 927 (sh h2 447 w os) (restOf ((bd.drop 7).drop 15) ev cE ⟨52,0,70,22⟩ fr)).map (λs=>(staticsOk (importedModules pw.main.body) (boot_heap w.params) s.heap&&namesBound pw s.heap&&gensDone s&&laidKept (boot_heap w.params) s.heap,openSeen q0 [] (importedModules pw.main.body) X0 true s,Hook.obs (kHook Hd.K0 Hd.as0 Hd.as_K) s))=some (true,openGood q0 [],Hook.val (kHook Hd.K0 Hd.as0 Hd.as_K) w):=by kernel_rfl
theorem xI7:LeftO pw q0 [] X0 (Hook.obs (kHook Hd.K0 Hd.as0 Hd.as_K)) (Hook.val (kHook Hd.K0 Hd.as0 Hd.as_K)) N0:=xh3 (boot_open opn0 rfl fen0) (λw=>by kernel_rfl) run0 (by rfl) fin0
end Hd
namespace L2
open PySem PySem.Spec PyProof.Rows
abbrev Key:=Sum Int Str
def qP7:Key->Value->Bool
 |.inl k,v=>Value.isInt k v
 |.inr x,v=>Value.isStrOf x v
def keyH (w:World):Key->Int
 |.inl k=>hashInt k
 |.inr x=>hashStr w x
theorem qe2:∀{k:Key}{v:Value},qP7 k v=true->(∃i t,k=Sum.inl i/\v=Value.int i t)\/(∃x t,k=Sum.inr x/\v=Value.str x t)
 |.inl i,v,h=>by
  obtain⟨t,e⟩:=Value.isInt_shape (k:=i) (v:=v) h;exact .inl ⟨i,t,rfl,e⟩
 |.inr x,v,h=>by
  obtain⟨t,e⟩:=Value.isStrOf_shape (x:=x) (v:=v) h;exact .inr ⟨x,t,rfl,e⟩
theorem q50 (i:Int) (t:Tok):qP7 (.inl i) (.int i t)=true:=by simp[qP7,Value.isInt]
theorem q51 (x:Str) (t:Tok):qP7 (.inr x) (.str x t)=true:=by simp[qP7,Value.isStrOf]
theorem xB7 (a b:Int):decide ((Sum.inl a:Key)=Sum.inl b)=(a==b):=by
 by_cases e:a=b
 ·subst e;simp
 ·have h:¬(Sum.inl a:Key)=Sum.inl b:=λq=>e (Wl q);rw[Zk h];exact (Yk.mpr e).symm
theorem xB8 (a b:Str):decide ((Sum.inr a:Key)=Sum.inr b)=decide (a=b):=by
 by_cases e:a=b
 ·subst e;simp
 ·have h:¬(Sum.inr a:Key)=Sum.inr b:=λq=>e (Sum.inr.inj q);rw[Zk h,Zk e]
theorem xB9 (a:Int) (b:Str):decide ((Sum.inl a:Key)=Sum.inr b)=false:=Zk (λq=>nomatch q)
theorem xC0 (a:Str) (b:Int):decide ((Sum.inr a:Key)=Sum.inl b)=false:=Zk (λq=>nomatch q)
def qd6 (prog:Program) (w:World):PySem.KeyKind prog w Key where
 is:=qP7
 hash:=keyH w
 inj:=λv a b ha hb=>by
  rcases qe2 ha with ⟨i,t,rfl,rfl⟩|⟨x,t,rfl,rfl⟩
  ·rcases qe2 hb with ⟨j,u,rfl,e⟩|⟨y,u,rfl,e⟩
   ·injection e with e1 _;rw[e1]
   ·exact nomatch e
  ·rcases qe2 hb with ⟨j,u,rfl,e⟩|⟨y,u,rfl,e⟩
   ·exact nomatch e
   ·injection e with e1 _;rw[e1]
 byValue:=λk v h=>by
  rcases qe2 h with ⟨i,t,rfl,rfl⟩|⟨x,t,rfl,rfl⟩<;>rfl
 pyHash:=λhv h=>by
  rcases qe2 hv with ⟨i,t,rfl,rfl⟩|⟨x,t,rfl,rfl⟩
  ·exact wpAny_pyHash_int h
  ·exact wpAny_pyHash_str h
 eqBool:=λhu hv h=>by
  rcases qe2 hu with ⟨i,t,rfl,rfl⟩|⟨x,t,rfl,rfl⟩
  ·rcases qe2 hv with ⟨j,u,rfl,rfl⟩|⟨y,u,rfl,rfl⟩
   ·rw[xB7] at h;exact wpAny_eqBool_int h
   ·rw[xB9] at h;exact SeqAt.EqAt.int_str i t y u _ _ _ _ h
  ·rcases qe2 hv with ⟨j,u,rfl,rfl⟩|⟨y,u,rfl,rfl⟩
   ·rw[xC0] at h;exact SeqAt.EqAt.str_int x t j u _ _ _ _ h
   ·rw[xB8] at h;exact wpAny_eqBool_str h
 «strs»:=λk x t v h=>by
  rcases qe2 h with ⟨i,u,rfl,e⟩|⟨y,u,rfl,e⟩
  ·exact nomatch e
  ·injection e with e1 _
   subst e1;cases v<;>rfl
theorem qP8 (prog:Program) (w:World) (i:Int) (t:Tok):(qd6 prog w).is (.inl i) (.int i t)=true:=q50 i t
theorem qP9 (prog:Program) (w:World) (x:Str) (t:Tok):(qd6 prog w).is (.inr x) (.str x t)=true:=q51 x t
inductive V where
 |non|bl (b:Bool)|int (i:Int)|str (x:Str)|byt (b:Array UInt8)|flt (b:UInt64)|ref (a:Addr)|ty (n:String)
 deriving DecidableEq
def RelV:V->Value->Prop
 |.non,u=>u=Value.none
 |.bl b,u=>u=Value.bool b
 |.int i,u=>∃t,u=Value.int i t
 |.str x,u=>∃t,u=Value.str x t
 |.byt b,u=>∃t,u=Value.bytes b t
 |.flt b,u=>∃t,u=Value.float b t
 |.ref a,u=>u=Value.ref a
 |.ty n,u=>u=Value.type n
abbrev Vals:List V->List Value->Prop:=Paired RelV
theorem Vals.length {xs:List V}{us:List Value}(r:Vals xs us):xs.length=us.length:=Va r
theorem Vals.get:∀{xs:List V}{us:List Value}{i:Nat}{x:V},Vals xs us->xs[i]?=some x->∃u,us[i]?=some u/\RelV x u
 |_,_,_,_,.nil,e=>by simp at e
 |_,_,0,_,.cons r _,e=>by simp at e;subst e;exact⟨_,rfl,r⟩
 |_,_,i+1,x,.cons _ t,e=>by
  obtain⟨u,h1,h2⟩:=Vals.get (i:=i) (x:=x) t (by simpa using e);exact⟨u,by simpa using h1,h2⟩
theorem Vals.set {x:V}{u:Value}(r:RelV x u):∀{xs:List V}{us:List Value}(i:Nat),Vals xs us->Vals (xs.set i x) (us.set i u)
 |_,_,_,.nil=>.nil
 |_,_,0,.cons _ t=>.cons r t
 |_,_,i+1,.cons q t=>.cons q (Vals.set r i t)
theorem Vals.append:∀{xs ys:List V}{us ws:List Value},Vals xs us->Vals ys ws->Vals (xs++ys) (us++ws)
 |_,_,_,_,.nil,s=>s
 |_,_,_,_,.cons r t,s=>.cons r (Vals.append t s)
theorem Vals.take:∀{xs:List V}{us:List Value}(n:Nat),Vals xs us->Vals (xs.take n) (us.take n)
 |_,_,0,_=>.nil
 |_,_,_+1,.nil=>.nil
 |_,_,n+1,.cons r t=>.cons r (Vals.take n t)
theorem Vals.drop:∀{xs:List V}{us:List Value}(n:Nat),Vals xs us->Vals (xs.drop n) (us.drop n)
 |_,_,0,r=>r
 |_,_,_+1,.nil=>.nil
 |_,_,n+1,.cons _ t=>Vals.drop n t
def RelO:Option V->Option Value->Prop
 |some v,some u=>RelV v u
 |none,none=>True
 |_,_=>False
def KV {κ:Type}:List (κ×V)->List (κ×Value)->Prop:=Paired λ(p:κ×V) (q:κ×Value)=>p.1=q.1/\RelV p.2 q.2
def kV:Key->V
 |.inl i=>.int i
 |.inr x=>.str x
inductive HO where
 |lst (xs:List V)
 |tup (xs:List V)
 |dK (kvs:List (Key×V))|dT (kvs:List (List Key×V))
 |set (S:Int->Bool) (n:Nat)
 |ins (C dx:Addr) (fs:List (Str×V))
 |own (x:Addr)
 |xd (fs:List (Str×V))
 |met (f x:Addr)
 |rng (lo hi:Int)
 |frz (o:Obj) (u:HO)
 |tbl (ps:Array Value)
 |ext (φ:Heap->Prop)
abbrev Hp:=Addr->Option HO
def upd (H:Hp) (a:Addr) (o:HO):Hp:=λb=>if b=a then some o else H b
theorem qa2 {H:Hp}{a:Addr}{o:HO}:upd H a o a=some o:=by unfold upd;rw[Zr rfl]
theorem qa6 {H:Hp}{a b:Addr}{o:HO}(h:b≠a):upd H a o b=H b:=by unfold upd;rw[Zo h]
theorem xu2 {H:Hp}{a:Addr}{o u:HO}:upd (upd H a o) a u=upd H a u:=by
 funext b;unfold upd;split<;>rfl
theorem qp9 {H:Hp}{a b:Addr}{o u:HO}(h:H a=some o) (h':H b=some u) (d:o≠u):a≠b:=by
 intro e;subst e;rw[h] at h';exact d (ZD h')
theorem qa5 {H:Hp}{a b:Addr}{o:HO}(h:H a=some o) (h':H b=none):a≠b:=by
 intro e;subst e;rw[h] at h';cases h'
def IsTupX (h:Heap) (a:Addr) (items:Array Value):Prop:=∃o,h.get? a=some o/\o.cls=.type "tuple" /\ ∃n:{n:Nat // o.dict=none},o.data=.seq items n.1
theorem IsTupX.is {h:Heap}{a:Addr}{items:Array Value}(x:IsTupX h a items):IsTup h a items:=let ⟨o,h1,h2,n,h3⟩:=x;⟨o,h1,h2,n.1,h3⟩
theorem IsTupX.new (h:Heap) (items:Array Value):IsTupX (h.push { cls:=.type "tuple",data:=.seq items }) h.objs.size items:=⟨_,Zn _ rfl,rfl,⟨_,rfl⟩,rfl⟩
instance {h:Heap}{a:Addr}{items:Array Value}:Coe (IsTupX h a items) (IsTup h a items):=⟨IsTupX.is⟩
instance {h:Heap}{a:Addr}{items:Array Value}:Coe (IsTupX h a items) (h.IsTuple a items):=⟨IsTupX.is⟩
section
variable (P:Program) (w:World)
def ObjOk (H:Hp) (h:Heap) (a:Addr):HO->Prop
 |.lst xs=>xs.length<=sizeLine/\∃(its:List Value) (n:Nat),Vals xs its/\h.get? a=some { cls:=.type "list",data:=.seq its.toArray n }
 |.tup xs=>xs.length<=sizeLine/\∃its:List Value,Vals xs its/\IsTupX h a its.toArray
 |.dK kvs=>kvs.length<=sizeLine/\(a==sysModules)=false/\∃vs,KV kvs vs/\h.DictOf (qd6 P w) a vs
 |.dT kvs=>kvs.length<=sizeLine/\(a==sysModules)=false/\∃xs:List (List Key×Addr×Value),
   Paired (λ(p:List Key×V) (q:List Key×Addr×Value)=>p.1=q.1/\H q.2.1=some (.tup (p.1.map kV))/\RelV p.2 q.2.2) kvs xs /\
   ∃o es ep,h.get? a=some o/\o.ExactDict/\o.data=.dict es ep/\es.toList=xs.map (entryOfKey (tupleKind (qd6 P w)))/\(xs.map (·.1)).Nodup
 |.set S n=>h.SetOf (intKind P w) a S n
 |.ins C dx fs=>H dx=some (.own a)/\fs.length<=1000/\dx≠a/\h.get? a=some (PySem.W.instObj C dx) /\
   ∃mA,h.Ns1 dx mA/\(∀f,RelO (fs.lookup f) (mA f))/\PySem.Within mA (fs.map (·.1))
 |.own _=>∃o,h.get? a=some o
 |.xd fs=>∃mA,h.Ns1 a mA/\∀f,RelO (fs.lookup f) (mA f)
 |.rng lo hi=>∃t u v,h.get? a=some { cls:=.type "range",data:=.fields #[.int lo t,.int hi u,.int 1 v] }
 |.frz o u=>h.get? a=some o/\ObjOk H h a u
 |.tbl ps=>h.get? a=some { cls:=.none,data:=.fields ps }
 |.met f x=>h.get? a=some (PySem.W.methodObj (.ref f) (.ref x))
 |.ext φ=>φ h/\(∃o,h.get? a=some o)/\∀h1 h2:Heap,φ h1->(∀o,h1.get? a=some o->h2.get? a=some o)->φ h2
def HOk (H:Hp) (h:Heap):Prop:=∀a o,H a=some o->ObjOk P w H h a o
end
section
variable {P:Program}{w:World}{H H':Hp}{h h':Heap}{a:Addr}{o:HO}
theorem ObjOk.lt (x:ObjOk P w H h a o):a<h.objs.size:=by
 cases o with
 |lst xs=>obtain⟨_,_,_,_,e⟩:=x;exact Zl e
 |tup xs=>obtain⟨_,_,_,p⟩:=x;exact (IsTupX.is p).lt
 |dK kvs=>obtain⟨_,_,_,_,o,_,_,e,_⟩:=x;exact Zl e
 |dT kvs=>obtain⟨_,_,_,_,o,_,_,e,_⟩:=x;exact Zl e
 |set S n=>obtain⟨o,_,_,_,e,_⟩:=x;exact Zl e
 |ins C dx fs=>obtain⟨_,_,_,e,_⟩:=x;exact Zl e
 |own y=>obtain⟨_,e⟩:=x;exact Zl e
 |xd fs=>obtain⟨_,⟨_,_,_,e,_⟩,_⟩:=x;exact Zl e
 |rng lo hi=>obtain⟨_,_,_,e⟩:=x;exact Zl e
 |frz ob u=>obtain⟨e,_⟩:=x;exact Zl e
 |tbl ps=>exact Zl (show h.get? a=some _ from x)
 |met f y=>exact Zl (show h.get? a=some _ from x)
 |ext φ=>obtain⟨_,⟨_,e⟩,_⟩:=x;exact Zl e
theorem Paired.mapP {α β:Type}{F G:α->β->Prop}:∀{l₁:List α}{l₂:List β},Paired F l₁ l₂->(∀a b,F a b->G a b)->Paired G l₁ l₂
 |_,_,.nil,_=>.nil
 |_,_,.cons r t,f=>.cons (f _ _ r) (Paired.mapP t f)
theorem ObjOk.stay (x:ObjOk P w H h a o) (k:∀b u,(b=a\/H b=some (.own a))->h.get? b=some u->h'.get? b=some u)
  (ho:∀b,H b=some (.own a)->H' b=some (.own a)) (ht:∀b xs,H b=some (.tup xs)->H' b=some (.tup xs)):ObjOk P w H' h' a o:=by
 induction o with
 |lst xs=>obtain⟨z,its,n,r,e⟩:=x;exact⟨z,its,n,r,k _ _ (.inl rfl) e⟩
 |tup xs=>obtain⟨z,its,r,ob,e,c⟩:=x;exact⟨z,its,r,ob,k _ _ (.inl rfl) e,c⟩
 |dK kvs=>obtain⟨z,y,vs,r,ob,es,ep,e,c⟩:=x;exact⟨z,y,vs,r,ob,es,ep,k _ _ (.inl rfl) e,c⟩
 |dT kvs=>
  obtain⟨z,y,xs,r,ob,es,ep,e,c⟩:=x;exact⟨z,y,xs,Paired.mapP r λp q z=>⟨z.1,ht _ _ z.2.1,z.2.2⟩,ob,es,ep,k _ _ (.inl rfl) e,c⟩
 |set S n=>obtain⟨ob,es,ep,t,e,c⟩:=x;exact⟨ob,es,ep,t,k _ _ (.inl rfl) e,c⟩
 |ins C dx fs=>
  obtain⟨d,z,ne,e,mA,⟨od,es,ep,e2,c⟩,r⟩:=x;exact⟨ho _ d,z,ne,k _ _ (.inl rfl) e,mA,⟨od,es,ep,k _ _ (.inr d) e2,c⟩,r⟩
 |own y=>obtain⟨ob,e⟩:=x;exact⟨ob,k _ _ (.inl rfl) e⟩
 |xd fs=>obtain⟨mA,⟨od,es,ep,e,c⟩,r⟩:=x;exact⟨mA,⟨od,es,ep,k _ _ (.inl rfl) e,c⟩,r⟩
 |rng lo hi=>obtain⟨t,u,v,e⟩:=x;exact⟨t,u,v,k _ _ (.inl rfl) e⟩
 |frz ob u ih=>obtain⟨e,q⟩:=x;exact⟨k _ _ (.inl rfl) e,ih q⟩
 |tbl ps=>
  have e:h.get? a=some { cls:=.none,data:=.fields ps }:=x;show h'.get? a=some { cls:=.none,data:=.fields ps };exact k a _ (.inl rfl) e
 |met f y=>
  have e:h.get? a=some (PySem.W.methodObj (.ref f) (.ref y)):=x;show h'.get? a=some (PySem.W.methodObj (.ref f) (.ref y));exact k a _ (.inl rfl) e
 |ext φ=>obtain⟨p,⟨o,e⟩,st⟩:=x;exact⟨st _ _ p λo q=>k _ _ (.inl rfl) q,⟨o,k _ _ (.inl rfl) e⟩,st⟩
theorem HOk.lt (x:HOk P w H h) (e:H a=some o):a<h.objs.size:=(x a o e).lt
theorem HOk.fresh (x:HOk P w H h) (e:h.objs.size<=a):H a=none:=by
 cases q:H a with
 |none=>rfl
 |some u=>exact absurd (ZM (x.lt q) e) (YF _)
theorem HOk.kept (x:HOk P w H h) (k:∀b u,h.get? b=some u->h'.get? b=some u):HOk P w H h':=λa o e=>
 (x a o e).stay (λb u _ q=>k b u q) (λ_ q=>q) λ_ _ q=>q
theorem HOk.laid (x:HOk P w H h) (k:∀b u,h.get? b=some u->h'.get? b=some u) (hp:h.objs.size<=a) (new:ObjOk P w (upd H a o) h' a o):HOk P w (upd H a o) h':=λb u e=>by
 have hn:=x.fresh hp;by_cases hb:b=a
 ·subst hb;rw[qa2] at e;cases e;exact new
 ·rw[qa6 hb] at e;exact (x b u e).stay (λc v _ q=>k c v q) (λc q=>by rw[qa6 (qa5 q hn)];exact q) λc xs q=>by rw[qa6 (qa5 q hn)];exact q
end
def Rd (H:Hp) (a:Addr) (u:HO):Prop:=H a=some u\/∃o,H a=some (.frz o u)
theorem Rd.ok {P:Program}{w:World}{H:Hp}{h:Heap}{a:Addr}{u:HO}(r:Rd H a u) (x:HOk P w H h):ObjOk P w H h a u:=by
 rcases r with r|⟨o,r⟩
 ·exact x a u r
 ·obtain⟨_,q⟩:=x a _ r;exact q
def Mut:Option HO->Prop
 |some (.lst _)=>True
 |some (.dK _)=>True
 |some (.dT _)=>True
 |some (.set _ _)=>True
 |some (.ins _ _ _)=>True
 |some (.ext _)=>True
 |_=>False
section
variable {P:Program}{w:World}{H:Hp}{h h':Heap}{x e:Addr}{o':HO}
theorem HOk.write (ok:HOk P w H h) (mu:Mut (H x)) (he:e=x\/H e=some (.own x)) (k:∀b u,b≠e->h.get? b=some u->h'.get? b=some u) (heo:∃u,h'.get? e=some u)
  (new:ObjOk P w (upd H x o') h' x o'):HOk P w (upd H x o') h':=λb u q=>by
 have nown:∀c y,H c=some (.own y)->c≠x:=λc y r z=>by subst z;rw[r] at mu;exact mu
 have ntup:∀c xs,H c=some (.tup xs)->c≠x:=λc xs r z=>by subst z;rw[r] at mu;exact mu
 by_cases hb:b=x
 ·subst hb;rw[qa2] at q;cases q;exact new
 ·rw[qa6 hb] at q;by_cases hbe:b=e
  ·have q':H b=some (.own x):=by
    rcases he with z|z
    ·exact absurd (hbe.trans z) hb
    ·rw[hbe];exact z
   rw[q] at q';cases q';obtain⟨v,hv⟩:=heo;exact⟨v,by rw[hbe];exact hv⟩
  ·refine (ok b u q).stay (λc v hc r=>k c v ?_ r) (λc r=>by rw[qa6 (nown c b r)];exact r) λc xs r=>by rw[qa6 (ntup c xs r)];exact r
   rcases hc with rfl|hc
   ·exact hbe
   ·rintro rfl;rcases he with z|z
    ·exact nown c b hc z
    ·rw[hc] at z;cases z;exact hb rfl
end
structure Un (fs ex:List Addr) (H H':Hp) (h h':Heap):Prop where
 keep:∀b o,h.get? b=some o->H b=none->b∉fs->b∉ex->h'.get? b=some o
 slot:∀b o,h.get? b=some o->H b=none->b∈fs->b∉ex->∃sl,h'.get? b=some { o with slots:=sl }
 free:∀b o,h.get? b=some o->H b=none->b∉ex->H' b=none
 there:∀b o,h.get? b=some o->b∉ex->∃o',h'.get? b=some o'
 tups:∀b xs,H b=some (.tup xs)->H' b=some (.tup xs)
 frzs:∀b o u,H b=some (.frz o u)->H' b=some (.frz o u)
 tbls:∀b ps,H b=some (.tbl ps)->∃more,H' b=some (.tbl (ps++more))
section
variable {fs fs' ex ex':List Addr}{H H1 H2:Hp}{h h1 h2 h':Heap}{a x e:Addr}{o:HO}
theorem Un.any (u:Un fs ex H H1 h h1){b:Addr}{ob:Obj}(q:h.get? b=some ob) (n:H b=none) (hx:b∉ex):∃sl,h1.get? b=some { ob with slots:=sl }:=by
 by_cases hb:b∈fs
 ·exact u.slot b ob q n hb hx
 ·exact⟨ob.slots,u.keep b ob q n hb hx⟩
theorem Un.kept (k:∀b u,h.get? b=some u->h'.get? b=some u):Un fs ex H H h h':=
 ⟨λb ob q _ _ _=>k b ob q,λb ob q _ _ _=>⟨ob.slots,k b ob q⟩,λ_ _ _ n _=>n,λb ob q _=>⟨ob,k b ob q⟩,λ_ _ q=>q,λ_ _ _ q=>q,λ_ ps q=>⟨#[],by rw[q];simp⟩⟩
theorem Un.refl:Un fs ex H H h h:=Un.kept λ_ _ q=>q
theorem Un.laid (k:∀b u,h.get? b=some u->h'.get? b=some u) (hp:h.objs.size<=a) (hn:H a=none):Un fs ex H (upd H a o) h h' where
 keep:=λb u q _ _ _=>k b u q
 slot:=λb u q _ _ _=>⟨u.slots,k b u q⟩
 free:=λb u q n _=>by rw[qa6 (Zz (ZM (Zl q) hp))];exact n
 there:=λb u q _=>⟨u,k b u q⟩
 tups:=λb xs q=>by rw[qa6 (qa5 q hn)];exact q
 frzs:=λb u xs q=>by rw[qa6 (qa5 q hn)];exact q
 tbls:=λb ps q=>⟨#[],by rw[qa6 (qa5 q hn),q];simp⟩
theorem Un.write (mu:Mut (H x)) (he:e=x\/H e=some (.own x)) (k:∀b u,b≠e->h.get? b=some u->h'.get? b=some u) (heo:∃u,h'.get? e=some u):Un fs ex H (upd H x o) h h':=by
 have hx:∀b,H b=none->b≠x:=λb n z=>by subst z;rw[n] at mu;exact mu
 have hb:∀b,H b=none->b≠e:=λb n z=>by
  subst z;rcases he with r|r
  ·exact hx b n r
  ·rw[n] at r;cases r
 have hm:∀b u,H b=some u->¬Mut (some u)->b≠x:=λb u q nm z=>by subst z;rw[q] at mu;exact nm mu
 refine⟨λb u q n _ _=>k b u (hb b n) q,λb u q n _ _=>⟨u.slots,k b u (hb b n) q⟩,λb u q n _=>by rw[qa6 (hx b n)];exact n,λb u q _=>?_,
  λb xs q=>by rw[qa6 (hm b _ q λz=>z)];exact q,λb u xs q=>by rw[qa6 (hm b _ q λz=>z)];exact q,λb ps q=>⟨#[],by rw[qa6 (hm b _ q λz=>z),q];simp⟩⟩
 by_cases hbe:b=e
 ·subst hbe;exact heo
 ·exact⟨u,k b u hbe q⟩
end
def trk (h:Heap) (H:Hp):List Addr:=(List.range h.objs.size).filter λa=>(H a).isSome
def hidT (h:Heap) (H:Hp):Heap:=PySem.W.hideAll h (trk h H)
theorem q52 (h:Heap) (H:Hp):(hidT h H).objs.size=h.objs.size:=PySem.W.hideAll_size _ _
theorem xh4 {h:Heap}{H:Hp}{b:Addr}{o:Obj}(e:h.get? b=some o) (n:H b=none):(hidT h H).get? b=some o:=
 WS _ e λhm=>by
  have q:(H b).isSome=true:=(Xc.mp hm).2;rw[n] at q;simp at q
theorem xu3 {h:Heap}{H:Hp}{b:Addr}{o:Obj}(e:(hidT h H).get? b=some o):h.get? b=some o/\H b=none:=by
 have e':h.get? b=some o:=Wh (trk h H) e;refine⟨e',?_⟩;cases q:H b with
 |none=>rfl
 |some x=>
  have hm:b∈trk h H:=Xc.mpr ⟨Z4.mpr (Zl e'),by simp[q]⟩;have z:(hidT h H).get? b=none:=PySem.W.hideAll_none (trk h H) hm;rw[z] at e;cases e
structure Mod (K:PySem.W.Frag) (mg:Str->Option Value) (base:Heap):Prop where
 kin:K.In base
 glob:base.Ns mainGlobals mg
 blt:∃mb,base.Ns builtinsNs mb/\∀x:Str,x ≠ "__name__" -> mb x=bootBuiltins x
 nolimit:base.NoLimit
structure Cx where
 prog:Program
 w:World
 K:PySem.W.Frag
 mg:Str->Option Value
 base:Heap
 A:Around
 N:List Str
 s₀:Shared
 H₀:Hp
 env:Env
 outer:List Env
 stack:List Env
 ex:List Addr
 fn:Str->Bool
 calm:Bool
 pn:List (Addr×Obj)
 xe:Value->Shared->Prop
def frs (l:List Env):List Addr:=l.filterMap (·.frame)
abbrev Cx.fs (X:Cx):List Addr:=frs X.outer
def Vis (sc:Scope) (x:Str):Prop:=sc.names.lookup x=some .local\/sc.names.lookup x=some .cell\/sc.names.lookup x=some .free
def Loc (sc:Scope) (x:Str):Prop:=sc.names.lookup x=some .local\/sc.names.lookup x=some .cell
def Look (env:Env) (h:Heap) (m:Str->Option Value) (x:Str) (u:Value):Prop:=
 (env.kindOf x=some .local/\m x=some u)\/((env.kindOf x=some .cell\/env.kindOf x=some .free)/\∃c,env.cells.lookup x=some c/\h.IsCell c (some u))
structure Cx.Ok (X:Cx):Prop where
 mod:Mod X.K X.mg X.base
 kind:X.env.scope.kind=.function
 glob:X.env.globals=mainGlobals
 blt:X.env.builtins=builtinsNs
 above:X.s₀.heap.objs.size<=X.env.locals
 inj:∀x y c,X.env.cells.lookup x=some c->X.env.cells.lookup y=some c->x=y
 has:∀x,(X.env.kindOf x=some .cell\/X.env.kindOf x=some .free)->∃c,X.env.cells.lookup x=some c
 cab:∀x c,X.fn x=true->X.env.cells.lookup x=some c->X.s₀.heap.objs.size<=c
 hd:X.calm=true->X.A.handled=none
 frames:X.A.frames=some X.stack
 stk:X.stack=X.outer\/(X.stack=X.env::X.outer/\X.env.frame=some X.env.locals)
 exf:∀b∈X.ex,b≠X.env.locals/\∀x c,X.env.cells.lookup x=some c->c≠b
 bs:∀b o,X.base.get? b=some o->X.s₀.heap.get? b=some o/\X.H₀ b=none
 bsz:X.base.objs.size<=X.s₀.heap.objs.size
 noex:∀b o,X.base.get? b=some o->b∉X.ex
 exfs:∀b∈X.ex,b∉X.fs
 funs:X.s₀.heap.FunFrames X.base X.outer
 frf:∀b∈X.fs,X.H₀ b=none
structure Inv (X:Cx) (j8:List (Addr×Obj)) (σ:List (Option V)) (H:Hp) (s:Shared):Prop where
 ok:X.Ok
 os:s.os=X.s₀.os
 bare:AllBare s.gens
 base:Un X.fs X.ex X.H₀ H X.s₀.heap s.heap
 loc:∃m,s.heap.Ns X.env.locals m/\∀(i:Nat) (x:Str) (v:V),X.N[i]?=some x->σ[i]?=some (some v)->Vis X.env.scope x->∃u,RelV v u/\Look X.env s.heap m x u
 cell:∀x c,X.env.cells.lookup x=some c->∃v,s.heap.IsCell c v
 free:H X.env.locals=none
 freeC:∀x c,X.env.cells.lookup x=some c->H c=none
 pin:∀p∈X.pn++j8,s.heap.get? p.1=some p.2/\H p.1=none/\p.1≠X.env.locals/\p.1∉X.fs/\∀v,p.2.data≠.cell v
 hok:HOk X.prog X.w H s.heap
 len:σ.length=X.N.length
section
variable {X:Cx}{j8:List (Addr×Obj)}{σ:List (Option V)}{H H':Hp}{s:Shared}{h':Heap}
theorem Cx.Ok.nofr (ok:X.Ok){b:Addr}{o:Obj}(e:X.base.get? b=some o):b∉X.fs:=λhb=>by
 have:=(ok.funs.mem hb).1;rw[e] at this;cases this
theorem Inv.bs (I:Inv X j8 σ H s):∀b o,X.base.get? b=some o->s.heap.get? b=some o/\H b=none:=λb o e=>
 ⟨I.base.keep b o (I.ok.bs b o e).1 (I.ok.bs b o e).2 (I.ok.nofr e) (I.ok.noex b o e),I.base.free b o (I.ok.bs b o e).1 (I.ok.bs b o e).2 (I.ok.noex b o e)⟩
theorem Inv.bk (I:Inv X j8 σ H s):∀b o,X.base.get? b=some o->s.heap.get? b=some o:=λb o e=>(I.bs b o e).1
theorem Inv.mod (I:Inv X j8 σ H s):Mod X.K X.mg X.base:=I.ok.mod
theorem Inv.kIn (I:Inv X j8 σ H s):X.K.In s.heap:=I.ok.mod.kin.keeps I.bk
theorem Inv.fr (I:Inv X j8 σ H s):∃m,Fr X.base X.env.locals s.heap m:=
 let ⟨m,hn,_⟩:=I.loc
 ⟨m,hn,I.bk,ZK I.ok.bsz I.ok.above⟩
theorem Inv.lt (I:Inv X j8 σ H s):X.env.locals<s.heap.objs.size:=let ⟨_,hn,_⟩:=I.loc;hn.lt
theorem Inv.sz (I:Inv X j8 σ H s):X.s₀.heap.objs.size<=s.heap.objs.size:=ZK I.ok.above (ZX I.lt)
theorem Inv.nofs (I:Inv X j8 σ H s){a:Addr}(h:s.heap.objs.size<=a):a∉X.fs:=λhb=>by
 obtain⟨_,o,ho,_⟩:=I.ok.funs.mem hb;exact absurd (ZM (Zl ho) (ZK I.sz h)) (YF _)
theorem Inv.cne (I:Inv X j8 σ H s):∀x c,X.env.cells.lookup x=some c->c≠X.env.locals:=λx c e z=>by
 obtain⟨v,o,ho,hd⟩:=I.cell x c e;obtain⟨m,⟨o',es,ep,ho',hd',_⟩,_⟩:=I.loc;rw[z,ho'] at ho;cases ho;rw[hd'] at hd;cases hd
theorem Inv.funs (I:Inv X j8 σ H s):s.heap.FunFrames X.base X.outer:=by
 have all:∀(l:List Env),(∀b∈frs l,b∈X.fs)->X.s₀.heap.FunFrames X.base l->s.heap.FunFrames X.base l:=by
  intro l
  induction l with
  |nil=>intro _ _;trivial
  |cons env r ih=>
   intro hs hl;obtain⟨hk,⟨L,o,hf,hn,ho,hd⟩,hr⟩:=hl;have hL:L∈X.fs:=hs L (by unfold frs;rw[YH,hf];exact ZC);obtain⟨sl,e⟩:=I.base.slot L o ho (I.ok.frf L hL) hL λz=>I.ok.exfs L z hL;exact⟨hk,⟨L,_,hf,hn,e,hd⟩,ih (λb hb=>hs b (by unfold frs;rw[YH,hf];exact Zs _ hb)) hr⟩
 exact all X.outer (λ_ hb=>hb) I.ok.funs
theorem Inv.stack (I:Inv X j8 σ H s):s.heap.FunFrames X.base X.stack:=by
 rcases I.ok.stk with e|⟨e,hf⟩
 ·rw[e];exact I.funs
 ·rw[e];obtain⟨m,hn,_⟩:=I.loc;refine .cons (by rw[I.ok.kind];decide) hf hn ?_ I.funs;exact Heap.get?_none_of_le (ZK I.ok.bsz I.ok.above)
theorem Inv.stkSub (I:Inv X j8 σ H s):∀b∈frs X.stack,b∈X.env.locals::X.fs:=λb hb=>by
 rcases I.ok.stk with e|⟨e,hf⟩
 ·rw[e] at hb;exact Zs _ hb
 ·rw[e] at hb;unfold frs at hb;rw[YH,hf] at hb;exact hb
theorem Inv.stkFree (I:Inv X j8 σ H s):∀b∈frs X.stack,H b=none:=λb hb=>by
 rcases Zy.mp (I.stkSub b hb) with e|hb
 ·rw[e];exact I.free
 ·obtain⟨_,o,ho,_⟩:=I.ok.funs.mem hb;exact I.base.free b o ho (I.ok.frf b hb) λz=>I.ok.exfs b z hb
theorem Inv.step {g':Array GenState}{t':Nat}{d':Drawn}{ch:List Addr}(I:Inv X j8 σ H s)
  (vF:∀b∈ch,(b∈X.ex\/X.s₀.heap.objs.size<=b)/\b≠X.env.locals/\(∀x c,X.env.cells.lookup x=some c->c≠b)/\∀p∈X.pn++j8,p.1≠b)
  (keep:∀b o,b≠X.env.locals->b∉X.fs->b∉ch->s.heap.get? b=some o->H b=none->h'.get? b=some o)
  (slot:∀b o,b≠X.env.locals->b∈X.fs->b∉ch->s.heap.get? b=some o->H b=none->∃sl,h'.get? b=some { o with slots:=sl }) (free:∀b o,b∉ch->s.heap.get? b=some o->H b=none->H' b=none)
  (there:∀b o,b∉ch->s.heap.get? b=some o->∃o',h'.get? b=some o')
  (tups:∀b xs,H b=some (.tup xs)->H' b=some (.tup xs)) (frzs:∀b o u,H b=some (.frz o u)->H' b=some (.frz o u)) (tbls:∀b ps,H b=some (.tbl ps)->∃more,H' b=some (.tbl (ps++more)))
  (ns:∀m,s.heap.Ns X.env.locals m->h'.Ns X.env.locals m) (hok:HOk X.prog X.w H' h') (hg:AllBare g') :
  Inv X j8 σ H' { s with heap:=h',gens:=g',drawn:=d',toks:=t' }:=by
 have neL:∀b o,X.s₀.heap.get? b=some o->b≠X.env.locals:=λb o e=>Zz (ZM (Zl e) I.ok.above);have neC:∀b o,X.s₀.heap.get? b=some o->b∉X.ex->b∉ch:=λb o e hx hb=>by
  rcases (vF b hb).1 with z|z
  ·exact hx z
  ·exact absurd (ZM (Zl e) z) (YF _)
 have cellK:∀x c,X.env.cells.lookup x=some c->∀v,s.heap.IsCell c v->h'.IsCell c v:=λx c e v ⟨o,ho,hd⟩=>by
  have nch:c∉ch:=λz=>(vF c z).2.2.1 x c e rfl;by_cases hc:c∈X.fs
  ·obtain⟨sl,q⟩:=slot c o (I.cne x c e) hc nch ho (I.freeC x c e);exact⟨_,q,hd⟩
  ·exact⟨o,keep c o (I.cne x c e) hc nch ho (I.freeC x c e),hd⟩
 refine⟨I.ok,I.os,hg,⟨λb o e n hb hx=>?_,λb o e n hb hx=>?_,λb o e n hx=>?_,λb o e hx=>?_,λb xs e=>tups b xs (I.base.tups b xs e),λb o xs e=>frzs b o xs (I.base.frzs b o xs e),λb ps e=>?_⟩,?_,λx c e=>?_,?_,λx c e=>?_,λp hp=>?_,hok,I.len⟩
 ·exact keep b o (neL b o e) hb (neC b o e hx) (I.base.keep b o e n hb hx) (I.base.free b o e n hx)
 ·obtain⟨sl,e1⟩:=I.base.slot b o e n hb hx;obtain⟨sl',e2⟩:=slot b _ (neL b o e) hb (neC b o e hx) e1 (I.base.free b o e n hx);exact⟨sl',e2⟩
 ·obtain⟨o',e1⟩:=I.base.there b o e hx;exact free b o' (neC b o e hx) e1 (I.base.free b o e n hx)
 ·obtain⟨o',e1⟩:=I.base.there b o e hx;exact there b o' (neC b o e hx) e1
 ·obtain⟨m1,e1⟩:=I.base.tbls b ps e;obtain⟨m2,e2⟩:=tbls b _ e1;exact⟨m1++m2,by rw[e2,Array.append_assoc]⟩
 ·obtain⟨m,hn,hl⟩:=I.loc;refine⟨m,ns m hn,λi x v e1 e2 e3=>?_⟩;obtain⟨u,r,l⟩:=hl i x v e1 e2 e3;refine⟨u,r,?_⟩;rcases l with l|⟨k,c,e,z⟩
  ·exact .inl l
  ·exact .inr ⟨k,c,e,cellK x c e _ z⟩
 ·obtain⟨v,z⟩:=I.cell x c e;exact⟨v,cellK x c e v z⟩
 ·obtain⟨m,⟨o,_,_,ho,_⟩,_⟩:=I.loc;exact free _ o (λz=>(vF _ z).2.1 rfl) ho I.free
 ·obtain⟨v,o,ho,hd⟩:=I.cell x c e;exact free c o (λz=>(vF c z).2.2.1 x c e rfl) ho (I.freeC x c e)
 ·obtain⟨e,n,ne,nf,d⟩:=I.pin p hp;have nch:p.1∉ch:=λz=>(vF p.1 z).2.2.2 p hp rfl;exact⟨keep p.1 p.2 ne nf nch e n,free p.1 p.2 nch e n,ne,nf,d⟩
theorem Inv.un {t':Nat}(I:Inv X j8 σ H s) (u:Un X.fs [] H H' s.heap h') (hok:HOk X.prog X.w H' h'):Inv X j8 σ H' { s with heap:=h',toks:=t' }:=by
 obtain⟨m,⟨o,es,ep,ho,r⟩,_⟩:=id I.loc;obtain⟨sl,hL⟩:=u.any ho I.free (by simp);exact I.step (g':=s.gens) (d':=s.drawn) (ch:=[]) (λ_ z=>nomatch z) (λb o _ hb _ e n=>u.keep b o e n hb (by simp)) (λb o _ hb _ e n=>u.slot b o e n hb (by simp)) (λb o _ e n=>u.free b o e n (by simp)) (λb o _ e=>u.there b o e (by simp)) u.tups u.frzs u.tbls (λm' hm=>by
  obtain⟨o',es',ep',ho',r'⟩:=hm;rw[ho] at ho';cases ho';exact⟨_,es',ep',hL,r'⟩) hok I.bare
theorem Inv.call {g':Array GenState}{t':Nat}{d':Drawn}{ch:List Addr}(I:Inv X j8 σ H s) (u:Un (frs X.stack) ch H H' s.heap h') (hok:HOk X.prog X.w H' h') (hg:AllBare g')
  (vF:∀b∈ch,(b∈X.ex\/X.s₀.heap.objs.size<=b)/\b≠X.env.locals/\(∀x c,X.env.cells.lookup x=some c->c≠b)/\∀p∈X.pn++j8,p.1≠b) :
  Inv X j8 σ H' { s with heap:=h',gens:=g',drawn:=d',toks:=t' }:=by
 obtain⟨m,⟨o,es,ep,ho,r⟩,_⟩:=id I.loc;obtain⟨sl,hL⟩:=u.any ho I.free λz=>(vF _ z).2.1 rfl;exact I.step (ch:=ch) vF (λb o hL hb hc e n=>u.keep b o e n (λz=>(Zy.mp (I.stkSub b z)).elim hL hb) hc) (λb o _ _ hc e n=>u.any e n hc) (λb o hc e n=>u.free b o e n hc) (λb o hc e=>u.there b o e hc) u.tups u.frzs u.tbls (λm' hm=>by
  obtain⟨o',es',ep',ho',r'⟩:=hm;rw[ho] at ho';cases ho';exact⟨_,es',ep',hL,r'⟩) hok hg
theorem Inv.turned {t':Nat}{it:Addr}(I:Inv X j8 σ H s) (k:∀b o,b≠it->s.heap.get? b=some o->h'.get? b=some o) (hn:H it=none) (hL:it≠X.env.locals)
  (h1:it∈X.ex\/X.s₀.heap.objs.size<=it) (h2:∀x c,X.env.cells.lookup x=some c->c≠it) (h3:∀p∈X.pn++j8,p.1≠it):Inv X j8 σ H { s with heap:=h',toks:=t' }:=by
 have nit:∀b u,H b=some u->b≠it:=λb u e z=>by rw[z,hn] at e;cases e
 refine I.step (g':=s.gens) (d':=s.drawn) (ch:=[it]) (λb hb=>?_) (λb o _ _ hc e _=>k b o (λz=>hc (by simp[z])) e) (λb o _ _ hc e _=>⟨o.slots,k b o (λz=>hc (by simp[z])) e⟩) (λ_ _ _ _ n=>n)
  (λb o hc e=>⟨o,k b o (λz=>hc (by simp[z])) e⟩) (λ_ _ e=>e) (λ_ _ _ e=>e) (λb ps e=>⟨#[],by rw[e];simp⟩) (λm hm=>?_) (λb u e=>?_) I.bare
 ·have e:b=it:=by simpa using hb
  subst e;exact⟨h1,hL,h2,h3⟩
 ·obtain⟨o,es,ep,ho,r⟩:=hm;exact⟨o,es,ep,k _ o (Yn hL) ho,r⟩
 ·refine (I.hok b u e).stay (λc v hc q=>k c v ?_ q) (λ_ q=>q) λ_ _ q=>q;rcases hc with z|z
  ·rw[z];exact nit b u e
  ·exact nit c _ z
theorem Inv.tok (I:Inv X j8 σ H s) (t:Nat):Inv X j8 σ H { s with toks:=t }:=I.un (h':=s.heap) (t':=t) Un.refl I.hok
theorem Inv.kept {t':Nat}(I:Inv X j8 σ H s) (k:∀b u,s.heap.get? b=some u->h'.get? b=some u):Inv X j8 σ H { s with heap:=h',toks:=t' }:=I.un (Un.kept k) (I.hok.kept k)
theorem Inv.laid {a:Addr}{o:HO}{t':Nat}(I:Inv X j8 σ H s) (k:∀b u,s.heap.get? b=some u->h'.get? b=some u) (hp:s.heap.objs.size<=a) (new:ObjOk X.prog X.w (upd H a o) h' a o) :
  Inv X j8 σ (upd H a o) { s with heap:=h',toks:=t' }:=I.un (Un.laid k hp (I.hok.fresh hp)) (I.hok.laid k hp new)
theorem Inv.write {x e:Addr}{o:HO}{t':Nat}(I:Inv X j8 σ H s) (mu:Mut (H x)) (he:e=x\/H e=some (.own x)) (k:∀b u,b≠e->s.heap.get? b=some u->h'.get? b=some u) (heo:∃u,h'.get? e=some u)
  (new:ObjOk X.prog X.w (upd H x o) h' x o):Inv X j8 σ (upd H x o) { s with heap:=h',toks:=t' }:=I.un (Un.write mu he k heo) (I.hok.write mu he k heo new)
theorem Inv.weak {σ':List (Option V)}(I:Inv X j8 σ H s) (hl:σ'.length=σ.length) (w:∀(i:Nat) v,σ'[i]?=some (some v)->σ[i]?=some (some v)):Inv X j8 σ' H s:=
 ⟨I.ok,I.os,I.bare,I.base,let ⟨m,hn,hl'⟩:=I.loc;⟨m,hn,λi x v e1 e2 e3=>hl' i x v e1 (w i v e2) e3⟩,I.cell,I.free,I.freeC,I.pin,I.hok,hl.trans I.len⟩
theorem Inv.pins_of {pins':List (Addr×Obj)}(I:Inv X j8 σ H s) (h:∀p∈pins',s.heap.get? p.1=some p.2/\H p.1=none/\p.1≠X.env.locals/\p.1∉X.fs/\∀v,p.2.data≠.cell v):Inv X pins' σ H s:=
 ⟨I.ok,I.os,I.bare,I.base,I.loc,I.cell,I.free,I.freeC,λp hp=>(Z2.mp hp).elim (λz=>I.pin p (Xe _ z)) (h p),I.hok,I.len⟩
theorem qF0 {N:List Str}(hN:N.Nodup){i j:Nat}{x:Str}(a:N[i]?=some x) (b:N[j]?=some x):i=j:=by
 obtain⟨h1,e1⟩:=gS_ a;obtain⟨h2,e2⟩:=gS_ b;exact (List.getElem_inj hN).mp (e1.trans e2.symm)
theorem q53 {M:Model}{A:Around}{E:Value->Shared->Prop}{i:Nat}{x:Str}{v:V}{u:Value}{Q:Unit->Shared->Prop}(I:Inv X j8 σ H s) (hN:X.N.Nodup) (hi:X.N[i]?=some x) (hx:Loc X.env.scope x) (r:RelV v u)
  (h:∀s',Inv X j8 (σ.set i (some v)) H s'->(∃a,Heap.SameBut a s.heap s'.heap/\(a=X.env.locals\/X.env.cells.lookup x=some a))->Q () s') (hf:X.fn x=true\/X.env.scope.names.lookup x=some .local:=by first|exact .inl rfl|exact .inr rfl|assumption):wpAny M A (storeName X.env x u) Q E s:=by
 obtain⟨m,hn,hl⟩:=id I.loc;have hcls:(X.env.scope.kind==.class||(X.env.scope.kind==.module&&X.env.locals != X.env.globals))=false:=by rw[I.ok.kind];rfl
 have hiσ:i<σ.length:=by rw[I.len];exact (gS_ hi).1
 have cne:=I.cne;have tracked:∀{a:Addr}{h':Heap},(∃o,s.heap.get? a=some o/\H a=none)->Heap.SameBut a s.heap h'->HOk X.prog X.w H h':=λ{a h'} ha hs b ob e=>by
  obtain⟨_,_,hfree⟩:=ha;refine (I.hok b ob e).stay (λc w' hc q=>(hs.2 c ?_).trans q) (λ_ q=>q) λ_ _ q=>q;rintro rfl;rcases hc with rfl|hc
  ·rw[hfree] at e;cases e
  ·rw[hfree] at hc;cases hc
 rcases hx with hk|hk
 ·refine wpAny_storeName_local hk hn (λh' hn' hs=>?_) hcls;obtain⟨oL,_,_,hoL,_⟩:=id hn;refine h _ ⟨I.ok,I.os,I.bare,⟨λb o e n hb hx=>?_,λb o e n hb hx=>?_,I.base.free,λb o e hx=>?_,I.base.tups,I.base.frzs,I.base.tbls⟩,⟨_,hn',λj y v' e1 e2 e3=>?_⟩,λy c e=>?_,I.free,I.freeC,λp hp=>?_,tracked ⟨oL,hoL,I.free⟩ hs,by simpa using I.len⟩ ⟨_,hs,.inl rfl⟩
  ·exact (hs.2 b (Zz (ZM (Zl e) I.ok.above))).trans (I.base.keep b o e n hb hx)
  ·obtain⟨sl,e1⟩:=I.base.slot b o e n hb hx;exact⟨sl,(hs.2 b (Zz (ZM (Zl e) I.ok.above))).trans e1⟩
  ·obtain⟨o',e1⟩:=I.base.there b o e hx;exact⟨o',(hs.2 b (Zz (ZM (Zl e) I.ok.above))).trans e1⟩
  ·by_cases hj:j=i
   ·subst hj;rw[hi] at e1;cases e1;rw[Wr hiσ] at e2;cases e2;exact⟨u,r,.inl ⟨hk,by simp⟩⟩
   ·rw[WI (Yn hj)] at e2;obtain⟨u',r',q⟩:=hl j y v' e1 e2 e3;refine⟨u',r',?_⟩;rcases q with ⟨k,e⟩|⟨k,c,e,z⟩
    ·refine .inl ⟨k,?_⟩;have:y≠x:=λe=>hj (qF0 hN e1 (e▸hi));simp[this,e]
    ·exact .inr ⟨k,c,e,z.sameBut hs (cne y c e)⟩
  ·obtain⟨w',z⟩:=I.cell y c e;exact⟨w',z.sameBut hs (cne y c e)⟩
  ·obtain⟨e,n,ne,nf,d⟩:=I.pin p hp;exact⟨(hs.2 p.1 ne).trans e,n,ne,nf,d⟩
 ·have hfn:X.fn x=true:=by
   rcases hf with z|z
   ·exact z
   ·rw[z] at hk;cases hk
  obtain⟨c,hc⟩:=I.ok.has x (.inl hk);obtain⟨w',z⟩:=I.cell x c hc;refine wpAny_storeName_cell I.ok.kind hk hc z (λh' hc' hs=>?_);obtain⟨oc,hoc,hocd⟩:=id z;refine h { s with heap:=h' } ⟨I.ok,I.os,I.bare,⟨λb o e n hb hx=>?_,λb o e n hb hx=>?_,I.base.free,λb o e hx=>?_,I.base.tups,I.base.frzs,I.base.tbls⟩,⟨m,hn.sameBut hs (Yn (cne x c hc)),λj y v' e1 e2 e3=>?_⟩,λy c' e=>?_,I.free,I.freeC,λp hp=>?_,tracked ⟨oc,hoc,I.freeC x c hc⟩ hs,by simpa using I.len⟩ ⟨c,hs,.inr hc⟩
  ·exact (hs.2 b (Zz (ZM (Zl e) (I.ok.cab x c hfn hc)))).trans (I.base.keep b o e n hb hx)
  ·obtain⟨sl,e1⟩:=I.base.slot b o e n hb hx;exact⟨sl,(hs.2 b (Zz (ZM (Zl e) (I.ok.cab x c hfn hc)))).trans e1⟩
  ·obtain⟨o',e1⟩:=I.base.there b o e hx;exact⟨o',(hs.2 b (Zz (ZM (Zl e) (I.ok.cab x c hfn hc)))).trans e1⟩
  ·by_cases hj:j=i
   ·subst hj;rw[hi] at e1;cases e1;rw[Wr hiσ] at e2;cases e2;exact⟨u,r,.inr ⟨.inl hk,c,hc,hc'⟩⟩
   ·rw[WI (Yn hj)] at e2;obtain⟨u',r',q⟩:=hl j y v' e1 e2 e3;refine⟨u',r',?_⟩;rcases q with q|⟨k,c',e,z'⟩
    ·exact .inl q
    ·refine .inr ⟨k,c',e,z'.sameBut hs ?_⟩;rintro rfl;exact hj (qF0 hN e1 (I.ok.inj _ _ _ e hc▸hi))
  ·by_cases hcc:c'=c
   ·subst hcc;exact⟨_,hc'⟩
   ·obtain⟨w2,z2⟩:=I.cell y c' e;exact⟨w2,z2.sameBut hs hcc⟩
  ·obtain⟨e,n,ne,nf,d⟩:=I.pin p hp;refine⟨(hs.2 p.1 ?_).trans e,n,ne,nf,d⟩;intro q;rw[q,hoc] at e;have q':oc=p.2:=ZD e;exact d w' (by rw[<- q'];exact hocd)
theorem qw9 {M:Model}{A:Around}{E:Value->Shared->Prop}{i:Nat}{x:Str}{v:V}{u:Value}{Q:Unit->Shared->Prop}(I:Inv X j8 σ H s) (hN:X.N.Nodup) (hi:X.N[i]?=some x) (hx:Loc X.env.scope x) (r:RelV v u)
  (h:∀s',Inv X j8 (σ.set i (some v)) H s'->Q () s') (hf:X.fn x=true\/X.env.scope.names.lookup x=some .local:=by first|exact .inl rfl|exact .inr rfl|assumption):wpAny M A (storeName X.env x u) Q E s:=
 q53 I hN hi hx r (λs' I' _=>h s' I') hf
theorem Inv.call' {s':Shared}{ch:List Addr}(I:Inv X j8 σ H s) (ho:s'.os=s.os) (u:Un (frs X.stack) ch H H' s.heap s'.heap) (hok:HOk X.prog X.w H' s'.heap) (hg:AllBare s'.gens)
  (vF:∀b∈ch,(b∈X.ex\/X.s₀.heap.objs.size<=b)/\b≠X.env.locals/\(∀x c,X.env.cells.lookup x=some c->c≠b)/\∀p∈X.pn++j8,p.1≠b):Inv X j8 σ H' s':=by
 obtain⟨h',g',d',t',o'⟩:=s';have e:o'=s.os:=ho;subst e;exact I.call (g':=g') (t':=t') (d':=d') u hok hg vF
end
abbrev XK:=Value->Option Addr->Hp->Prop
abbrev St:=List (Option V)
abbrev VK:=V->Hp->Prop
abbrev TE:=St->Hp->VK->Prop
abbrev TT:=St->Hp->(Bool->Hp->Prop)->Prop
abbrev TA:=St->Hp->(List V->Hp->Prop)->Prop
structure Ends where
 nx:St->Hp->Prop
 rt:VK
 bk:St->Hp->Prop:=λ_ _=>False
 ct:St->Hp->Prop:=λ_ _=>False
abbrev TS:=Ends->St->Hp->Prop
def EP (X:Cx) (j8:List (Addr×Obj)) (σ:St) (Q:VK) (u:Value) (s':Shared):Prop:=∃v H',Inv X j8 σ H' s'/\RelV v u/\Q v H'
def TP (X:Cx) (j8:List (Addr×Obj)) (σ:St) (Q:Bool->Hp->Prop) (b:Bool) (s':Shared):Prop:=∃H',Inv X j8 σ H' s'/\Q b H'
def AP (X:Cx) (j8:List (Addr×Obj)) (σ:St) (Q:List V->Hp->Prop) (us:List Value) (s':Shared):Prop:=∃vs H',Inv X j8 σ H' s'/\Vals vs us/\Q vs H'
def SP (X:Cx) (j8:List (Addr×Obj)) (D:Ends) (f:Flow) (s':Shared):Prop:=
 match f with
 |.next=>∃σ' H',Inv X j8 σ' H' s'/\D.nx σ' H'
 |.brk=>∃σ' H',Inv X j8 σ' H' s'/\D.bk σ' H'
 |.cont=>∃σ' H',Inv X j8 σ' H' s'/\D.ct σ' H'
 |.ret u=>∃v σ' H',Inv X j8 σ' H' s'/\RelV v u/\D.rt v H'
def PE (X:Cx) (e:Expr) (t:TE):Prop:=
 ∀(j8:List (Addr×Obj)) (s:Shared) (σ:St) (H:Hp) (Q:VK),Inv X j8 σ H s->t σ H Q->wpAny (model X.prog X.w) X.A (eval e X.env) (EP X j8 σ Q) X.xe s
def PT (X:Cx) (e:Expr) (t:TT):Prop:=
 ∀(j8:List (Addr×Obj)) (s:Shared) (σ:St) (H:Hp) (Q:Bool->Hp->Prop),Inv X j8 σ H s->t σ H Q->wpAny (model X.prog X.w) X.A (isTrue e X.env (eval e X.env)) (TP X j8 σ Q) X.xe s
def PW (X:Cx) (e:Expr) (t:TT):Prop:=
 ∀(whole:Sem Value) (j8:List (Addr×Obj)) (s:Shared) (σ:St) (H:Hp) (Q:Bool->Hp->Prop),Inv X j8 σ H s->t σ H Q->wpAny (model X.prog X.w) X.A (isTrue e X.env whole) (TP X j8 σ Q) X.xe s
theorem PW.pt {X:Cx}{e:Expr}{t:TT}(h:PW X e t):PT X e t:=h _
def PA (X:Cx) (es:List Expr) (t:TA):Prop:=
 ∀(pos:Pos) (j8:List (Addr×Obj)) (s:Shared) (σ:St) (H:Hp) (Q:List V->Hp->Prop),Inv X j8 σ H s->t σ H Q->wpAny (model X.prog X.w) X.A (spliced (backTo pos (starEach es X.env))) (AP X j8 σ Q) X.xe s
def PS (X:Cx) (st:Stmt) (t:TS):Prop:=
 ∀(j8:List (Addr×Obj)) (s:Shared) (σ:St) (H:Hp) (D:Ends),Inv X j8 σ H s->t D σ H->wpAny (model X.prog X.w) X.A (exec st X.env) (SP X j8 D) X.xe s
def PSs (X:Cx) (st:List Stmt) (t:TS):Prop:=
 ∀(j8:List (Addr×Obj)) (s:Shared) (σ:St) (H:Hp) (D:Ends),Inv X j8 σ H s->t D σ H->wpAny (model X.prog X.w) X.A (execs st X.env) (SP X j8 D) X.xe s
theorem thn {α:Type}{t:Sem α}{Q Q':α->Shared->Prop}{M:Model}{A:Around}{E:Value->Shared->Prop}{s:Shared}(h:wpAny M A t Q E s) (hQ:∀a s,Q a s->Q' a s):wpAny M A t Q' E s:=Yq h hQ λ_ _ x=>x
section
variable {X:Cx}
def tVar (i:Nat):TE:=λσ H Q=>∃v,σ[i]?=some (some v)/\Q v H
def tC (v:V):TE:=λ_ H Q=>Q v H
theorem xC1 {i:Nat}{x:Str}{pos:Pos}(hN:X.N[i]?=some x) (hv:Vis X.env.scope x) (hd:(x==("__debug__" : Str))=false:=by decide) (kP:(x==("__classdict__" : Str))=false:=by decide):PE X (.Name x pos) (tVar i):=by
 intro j8 s σ H Q I h;obtain⟨v,e,h⟩:=h;obtain⟨m,hn,hl⟩:=I.loc;obtain⟨u,r,l⟩:=hl i x v hN e hv;have fin:EP X j8 σ Q u s:=⟨v,H,I,r,h⟩;rcases l with ⟨hk,hm⟩|⟨hk,c,hc,jB⟩
 ·exact wpAny_Name (wpAny_loadName_local I.ok.kind hk hn hm fin) hd
 ·rcases hk with hk|hk
  ·exact wpAny_Name (wpAny_loadName_cell I.ok.kind hk hc jB fin) hd
  ·exact wpAny_Name (wpAny_loadName_free I.ok.kind hk hc jB fin kP) hd
theorem qa3 {i j pos}:PE X (.Constant (.int i) j pos) (tC (.int i)):=λ_ _ _ H _ I h=>wpAny_Constant_int ⟨.int i,H,I.tok _,⟨_,rfl⟩,h⟩
theorem qj1 {b j pos}:PE X (.Constant (.bool b) j pos) (tC (.bl b)):=λ_ _ _ H _ I h=>Constant_bool ⟨.bl b,H,I,rfl,h⟩
theorem qJ4 {j pos}:PE X (.Constant .none j pos) (tC .non):=λ_ _ _ H _ I h=>Constant_none ⟨.non,H,I,rfl,h⟩
theorem qb7 {x j pos}:PE X (.Constant (.str x) j pos) (tC (.str x)):=λ_ _ _ H _ I h=>Calls.Constant_str ⟨.str x,H,I.tok _,⟨_,rfl⟩,h⟩
def Gl (X:Cx) (x:Str):Prop:=X.env.kindOf x=some .globalImplicit
theorem qu2 {E:Value->Shared->Prop}{j8:List (Addr×Obj)}{s:Shared}{σ:St}{H:Hp}{x:Str}{u:Value}{pos:Pos}{Q:Value->Shared->Prop}(I:Inv X j8 σ H s) (hg:Gl X x) (hm:X.mg x=some u) (h:Q u s)
  (hd:(x==("__debug__" : Str))=false:=by decide):wpAny (model X.prog X.w) X.A (eval (.Name x pos) X.env) Q E s:=
 Calls.Name_function_global I.ok.kind hg (Calls.loadGlobal_global (by rw[I.ok.glob];exact I.mod.glob.keeps I.bk) hm h) hd
theorem qC9 {E:Value->Shared->Prop}{j8:List (Addr×Obj)}{s:Shared}{σ:St}{H:Hp}{x:Str}{u:Value}{pos:Pos}{Q:Value->Shared->Prop}(I:Inv X j8 σ H s) (hg:Gl X x) (hm:X.mg x=none) (hv:bootBuiltins x=some u) (h:Q u s)
  (hn:x ≠ "__name__":=by decide) (hd:(x==("__debug__" : Str))=false:=by decide):wpAny (model X.prog X.w) X.A (eval (.Name x pos) X.env) Q E s:=by
 obtain⟨mb,h1,h2⟩:=I.mod.blt;exact Calls.Name_function_global I.ok.kind hg (Calls.loadGlobal_builtin (by rw[I.ok.glob];exact I.mod.glob.keeps I.bk) hm (by rw[I.ok.blt];exact h1.keeps I.bk) ((h2 x hn).trans hv) h) hd
theorem qc3 {x:Str}{v:V}{u:Value}{pos:Pos}(hg:Gl X x) (hm:X.mg x=some u) (r:RelV v u) (hd:(x==("__debug__" : Str))=false:=by decide):PE X (.Name x pos) (tC v):=
 λ_ _ _ H _ I h=>qu2 I hg hm ⟨v,H,I,r,h⟩ hd
theorem qg4 {x:Str}{v:V}{u:Value}{pos:Pos}(hg:Gl X x) (hm:X.mg x=none) (hv:bootBuiltins x=some u) (r:RelV v u) (hn:x ≠ "__name__":=by decide) (hd:(x==("__debug__" : Str))=false:=by decide):PE X (.Name x pos) (tC v):=
 λ_ _ _ H _ I h=>qC9 I hg hm hv ⟨v,H,I,r,h⟩ hn hd
variable {a b:Expr}{ta tb:TE}{pos:Pos}
def PC (X:Cx) (op:CmpOp) (a b:Expr) (t:TE):Prop:=
 ∀(j8:List (Addr×Obj)) (s:Shared) (σ:St) (H:Hp) (Q:VK),Inv X j8 σ H s->t σ H Q ->
  wpAny (model X.prog X.w) X.A (eval a X.env) (λv s₁=>wpAny (model X.prog X.w) X.A (eval b X.env) (λu s₂=>wpAny (model X.prog X.w) X.A (compareOp op v u) (EP X j8 σ Q) X.xe s₂) X.xe s₁) X.xe s
def tB (t:TE):TT:=λσ H Q=>t σ H λx H1=>∃c,x=.bl c/\Q c H1
theorem qT8 {op:CmpOp}{t:TE}(h:PC X op a b t) (h1:behindInMarks op b=false:=by first|exact nobehind _ (by decide) (by decide)|rfl):PT X (.Compare a [op] [b] pos) (tB t):=by
 intro j8 s σ H Q I hw;refine wpAny_isTrue_Compare1 (thn (h j8 s σ H _ I hw) λv s1 h1=>thn h1 λu s2 h2=>thn h2 λc s3 ⟨x,H1,I1,r1,q1⟩=>?_) h1;obtain⟨d,rfl,q⟩:=q1;cases r1;exact Yy ⟨H1,I1,q⟩
theorem qe1 {e:Expr}{t:TE}(h:PE X e t) (he:∀whole,isTrue e X.env whole=(do let v <- whole;standAt e.pos;holding [v] (truthy v)):=by intro _;rfl):PT X e (tB t):=by
 intro j8 s σ H Q I hw;refine isTrue_plain (thn (h j8 s σ H _ I hw) λv s1 ⟨x,H1,I1,r1,q1⟩=>?_) (he _);obtain⟨d,rfl,q⟩:=q1;cases r1;exact Yy ⟨H1,I1,q⟩
variable {tA tB':TT}{rest:List Expr}
def tAnd (t u:TT):TT:=λσ H Q=>t σ H λc H1=>if c=true then u σ H1 Q else Q false H1
def tOr (t u:TT):TT:=λσ H Q=>t σ H λc H1=>if c=true then Q true H1 else u σ H1 Q
def tNot (t:TT):TT:=λσ H Q=>t σ H λc H1=>Q (!c) H1
theorem q54 (ha:PT X a tA):PW X (.BoolOp .And [a] pos) tA:=by
 intro wh j8 s σ H Q I h;refine isTrue_and (thn (ha j8 s σ H Q I h) λc s1 e=>?_);cases c with
 |true=>exact isTrue_and_nil e
 |false=>exact e
theorem qj0 (ha:PT X a tA):PW X (.BoolOp .Or [a] pos) tA:=by
 intro wh j8 s σ H Q I h;refine isTrue_or (thn (ha j8 s σ H Q I h) λc s1 e=>?_);cases c with
 |false=>exact isTrue_or_nil e
 |true=>exact e
theorem xp8 (ha:PT X a tA) (hb:PW X (.BoolOp .And (b::rest) pos) tB'):PW X (.BoolOp .And (a::b::rest) pos) (tAnd tA tB'):=by
 intro wh j8 s σ H Q I h;refine isTrue_and (thn (ha j8 s σ H _ I h) λc s1 ⟨H1,I1,q1⟩=>?_);cases c with
 |true=>exact hb wh j8 s1 σ H1 Q I1 q1
 |false=>exact⟨H1,I1,q1⟩
theorem qk9 (ha:PT X a tA) (hb:PW X (.BoolOp .Or (b::rest) pos) tB'):PW X (.BoolOp .Or (a::b::rest) pos) (tOr tA tB'):=by
 intro wh j8 s σ H Q I h;refine isTrue_or (thn (ha j8 s σ H _ I h) λc s1 ⟨H1,I1,q1⟩=>?_);cases c with
 |true=>exact⟨H1,I1,q1⟩
 |false=>exact hb wh j8 s1 σ H1 Q I1 q1
theorem qe7 (ha:PT X a tA):PT X (.UnaryOp .Not a pos) (tNot tA):=by
 intro j8 s σ H Q I h;exact isTrue_not (ha j8 s σ H (λc H1=>Q (!c) H1) I h)
def xI8 (ta tb:TE):TE:=λσ H Q=>ta σ H λx H1=>∃c,x=.bl c/\if c=true then tb σ H1 Q else Q (.bl false) H1
def xI9 (ta:TE):TE:=λσ H Q=>ta σ H λx H1=>∃c,x=.bl c/\Q (.bl (!c)) H1
theorem qr1 {op}{t:TE}(h:PE X a t):PE X (.BoolOp op [a] pos) t:=λj8 s σ H Q I hw=>BoolOp_one (h j8 s σ H Q I hw)
theorem qr2 (ha:PE X a ta) (hb:PE X (.BoolOp .And (b::rest) pos) tb):PE X (.BoolOp .And (a::b::rest) pos) (xI8 ta tb):=by
 intro j8 s σ H Q I h;refine BoolOp_and (thn (ha j8 s σ H _ I h) λv s1 ⟨x,H1,I1,r1,q1⟩=>?_);obtain⟨c,rfl,q1⟩:=q1;cases r1;refine Yy ?_;cases c with
 |true=>exact hb j8 s1 σ H1 Q I1 q1
 |false=>exact⟨.bl false,H1,I1,rfl,q1⟩
theorem xp9 (ha:PE X a ta):PE X (.UnaryOp .Not a pos) (xI9 ta):=by
 intro j8 s σ H Q I h;refine UnaryOp_ (thn (ha j8 s σ H _ I h) λv s1 ⟨x,H1,I1,r1,q1⟩=>?_);obtain⟨c,rfl,q1⟩:=q1;cases r1;exact not_of (Yy ⟨.bl (!c),H1,I1,rfl,q1⟩)
end
def SqL (K:PySem.W.Frag) (H:Hp) (a:Addr) (xs:List V):Prop:=
 Rd H a (.lst xs) \/
  ∃(o:Obj) (its:Array Value) (n:Nat),K.lookup a=some o/\o.cls=.type "list" /\ o.dict=none/\o.data=.seq its n/\its.size<=sizeLine/\Vals xs its.toList
def SqT (K:PySem.W.Frag) (H:Hp) (a:Addr) (xs:List V):Prop:=
 Rd H a (.tup xs) \/
  ∃(o:Obj) (its:Array Value) (n:Nat),K.lookup a=some o/\o.cls=.type "tuple" /\ o.data=.seq its n/\its.size<=sizeLine/\Vals xs its.toList
def absV:Value->Option V
 |.none=>some .non
 |.bool b=>some (.bl b)
 |.int i _=>some (.int i)
 |.str x _=>some (.str x)
 |.bytes b _=>some (.byt b)
 |.float b _=>some (.flt b)
 |.ref a=>some (.ref a)
 |.type n=>some (.ty n)
 |_=>none
theorem RelV.abs {x:V}{u:Value}(r:RelV x u):absV u=some x:=by
 cases x with
 |non=>cases r;rfl
 |bl _=>cases r;rfl
 |int _=>obtain⟨t,rfl⟩:=r;rfl
 |str _=>obtain⟨t,rfl⟩:=r;rfl
 |byt _=>obtain⟨t,rfl⟩:=r;rfl
 |flt _=>obtain⟨t,rfl⟩:=r;rfl
 |ref _=>cases r;rfl
 |ty _=>cases r;rfl
theorem RelV.inj {x y:V}{u:Value}(r:RelV x u) (q:RelV y u):x=y:=ZD (r.abs.symm.trans q.abs)
theorem Vals.inj:∀{xs ys:List V}{us:List Value},Vals xs us->Vals ys us->xs=ys
 |_,_,_,.nil,.nil=>rfl
 |_,_,_,.cons r t,.cons r' t'=>by rw[r.inj r',Vals.inj t t']
section
variable {X:Cx}{j8:List (Addr×Obj)}{σ:St}{H:Hp}{s:Shared}{a:Addr}{xs ys:List V}
theorem SqL.of {K:PySem.W.Frag}(h:H a=some (.lst xs)):SqL K H a xs:=.inl (.inl h)
theorem SqT.of {K:PySem.W.Frag}(h:H a=some (.tup xs)):SqT K H a xs:=.inl (.inl h)
theorem Inv.list (I:Inv X j8 σ H s) (h:SqL X.K H a xs):∃its:List Value,Vals xs its/\PlainL s.heap a its.toArray/\xs.length<=sizeLine:=by
 rcases h with h|⟨o,its,n,hk,hc,hd,hs,hz,r⟩
 ·obtain⟨z,its,n,r,e⟩:=h.ok I.hok;exact⟨its,r,⟨_,n,e,rfl,rfl,rfl⟩,z⟩
 ·refine⟨its.toList,r,⟨o,n,I.kIn a o hk,hc,hd,by simpa using hs⟩,?_⟩;have e:=r.length;simp only[YI] at e;lia
theorem Inv.tuple (I:Inv X j8 σ H s) (h:SqT X.K H a xs):∃its:List Value,Vals xs its/\IsTup s.heap a its.toArray/\xs.length<=sizeLine:=by
 rcases h with h|⟨o,its,n,hk,hc,hs,hz,r⟩
 ·obtain⟨z,its,r,p⟩:=h.ok I.hok;exact⟨its,r,p,z⟩
 ·refine⟨its.toList,r,⟨o,I.kIn a o hk,hc,n,by simpa using hs⟩,?_⟩;have e:=r.length;simp only[YI] at e;lia
theorem Inv.list_inj (I:Inv X j8 σ H s) (h:SqL X.K H a xs) (h':SqL X.K H a ys):xs=ys:=by
 obtain⟨its,r,⟨o,n,e,_,_,d⟩,_⟩:=I.list h;obtain⟨its',r',⟨o',n',e',_,_,d'⟩,_⟩:=I.list h';rw[e] at e';cases e';rw[d] at d';injection d' with d1 _
 have:its=its':=by simpa using Yr Array.toList d1
 subst this;exact r.inj r'
theorem Inv.tuple_inj (I:Inv X j8 σ H s) (h:SqT X.K H a xs) (h':SqT X.K H a ys):xs=ys:=by
 obtain⟨its,r,⟨o,e,_,n,d⟩,_⟩:=I.tuple h;obtain⟨its',r',⟨o',e',_,n',d'⟩,_⟩:=I.tuple h';rw[e] at e';cases e';rw[d] at d';injection d' with d1 _
 have:its=its':=by simpa using Yr Array.toList d1
 subst this;exact r.inj r'
end
abbrev Cx.wish (X:Cx) (E:Value->Shared->Prop):Cx:={ X with xe:=E }
abbrev Cx.nox (X:Cx):Cx:=X.wish λ_ _=>False
theorem Cx.Ok.wish {X:Cx}(ok:X.Ok) (E:Value->Shared->Prop):(X.wish E).Ok:=
 ⟨ok.mod,ok.kind,ok.glob,ok.blt,ok.above,ok.inj,ok.has,ok.cab,ok.hd,ok.frames,ok.stk,ok.exf,ok.bs,ok.bsz,ok.noex,ok.exfs,ok.funs,ok.frf⟩
theorem Cx.Ok.unwish {X:Cx}{E:Value->Shared->Prop}(ok:(X.wish E).Ok):X.Ok:=
 ⟨ok.mod,ok.kind,ok.glob,ok.blt,ok.above,ok.inj,ok.has,ok.cab,ok.hd,ok.frames,ok.stk,ok.exf,ok.bs,ok.bsz,ok.noex,ok.exfs,ok.funs,ok.frf⟩
section
variable {X:Cx}{j8:List (Addr×Obj)}{σ:St}{H:Hp}{s:Shared}{E:Value->Shared->Prop}
theorem Inv.wish (I:Inv X j8 σ H s) (E:Value->Shared->Prop):Inv (X.wish E) j8 σ H s:=⟨I.ok.wish E,I.os,I.bare,I.base,I.loc,I.cell,I.free,I.freeC,I.pin,I.hok,I.len⟩
theorem Inv.unwish (I:Inv (X.wish E) j8 σ H s):Inv X j8 σ H s:=⟨I.ok.unwish,I.os,I.bare,I.base,I.loc,I.cell,I.free,I.freeC,I.pin,I.hok,I.len⟩
theorem SP.unwish {D:Ends}{f:Flow}{s':Shared}(h:SP (X.wish E) j8 D f s'):SP X j8 D f s':=by
 cases f with
 |next=>obtain⟨σ',H',I,q⟩:=h;exact⟨σ',H',I.unwish,q⟩
 |brk=>obtain⟨σ',H',I,q⟩:=h;exact⟨σ',H',I.unwish,q⟩
 |cont=>obtain⟨σ',H',I,q⟩:=h;exact⟨σ',H',I.unwish,q⟩
 |ret u=>obtain⟨v,σ',H',I,r,q⟩:=h;exact⟨v,σ',H',I.unwish,r,q⟩
theorem PSs.nox {st:List Stmt}{t:TS}(h:PSs X.nox st t):PSs X st t:=λj8 s σ H D I hw=>
 Yq (h j8 s σ H D (I.wish _) hw) (λ_ _ q=>q.unwish) λ_ _ z=>False.elim z
end
section
variable {X:Cx}{st:Stmt}{rest:List Stmt}{t u:TS}{e:Expr}{te:TE}{pos:Pos}
def xJ0:TS:=λD σ H=>D.nx σ H
def tSeq (t u:TS):TS:=λD σ H=>t { D with nx:=u D } σ H
theorem qb5:PSs X [] xJ0:=λ_ _ σ H _ I h=>WJ ⟨σ,H,I,h⟩
theorem qc1 (h1:PS X st t) (h2:PSs X rest u):PSs X (st::rest) (tSeq t u):=by
 intro j8 s σ H D I h;refine wpAny_execs_cons (thn (h1 j8 s σ H { D with nx:=u D } I h) λf s1 q=>?_);cases f with
 |next=>
  obtain⟨σ',H',I',q⟩:=q;exact h2 j8 s1 σ' H' D I' q
 |ret v=>exact q
 |brk=>exact q
 |cont=>exact q
theorem qa8 (h1:PS X st t):PSs X [st] t:=by
 intro j8 s σ H D I h;refine wpAny_execs_cons (thn (h1 j8 s σ H D I h) λf s1 q=>?_);cases f with
 |next=>exact WJ q
 |ret v=>exact q
 |brk=>exact q
 |cont=>exact q
theorem Inv.quiet {j8:List (Addr×Obj)}{σ:St}{H:Hp}{s:Shared}(I:Inv X j8 σ H s):interactive X.env=false:=by simp[interactive,I.ok.kind]
def xC2 (te:TE):TS:=λD σ H=>te σ H λ_ H1=>D.nx σ H1
theorem qd3 (he:PE X e te) (hs:swapsWith e none pos.line X.env=pure false:=by rfl):PS X (.Expr e pos) (xC2 te):=by
 intro j8 s σ H D I h;exact wpAny_Expr_any (thn (he j8 s σ H _ I h) λv s1 ⟨x,H1,I1,r1,q1⟩=>⟨σ,H1,I1,q1⟩) I.quiet hs
def tRet (te:TE):TS:=λD σ H=>te σ H D.rt
theorem qb0 (he:PE X e te):PS X (.Return (some e) pos) (tRet te):=by
 intro j8 s σ H D I h;exact wpAny_Return_some (thn (he j8 s σ H _ I h) λv s1 ⟨x,H1,I1,r1,q1⟩=>⟨x,σ,H1,I1,r1,q1⟩)
def xJ1:TS:=λD _ H=>D.rt .non H
theorem q55:PS X (.Return none pos) xJ1:=λ_ _ σ H _ I h=>wpAny_Return_none ⟨.non,σ,H,I,rfl,h⟩
def tIfS (c:TT) (t u:TS):TS:=λD σ H=>c σ H λb H1=>if b=true then t D σ H1 else u D σ H1
theorem qf3 {c:Expr}{a b:List Stmt}{tc:TT}(hc:PT X c tc) (ha:PSs X a t) (hb:PSs X b u):PS X (.If c a b pos) (tIfS tc t u):=by
 intro j8 s σ H D I h;refine wpAny_If (thn (hc j8 s σ H _ I h) λd s1 ⟨H1,I1,q1⟩=>?_);cases d with
 |true=>exact ha j8 s1 σ H1 D I1 q1
 |false=>exact hb j8 s1 σ H1 D I1 q1
def xC3:TS:=λ_ _ _=>False
theorem qf8 {sts:List Stmt}:PSs X sts xC3:=λ_ _ _ _ _ _ h=>h.elim
end
abbrev TG:=V->St->Hp->(St->Hp->Prop)->Prop
abbrev TGs:=List V->St->Hp->(St->Hp->Prop)->Prop
def PG (X:Cx) (target:Expr) (t:TG):Prop:=
 ∀(j8:List (Addr×Obj)) (s:Shared) (σ:St) (H:Hp) (v:V) (u:Value) (Q:St->Hp->Prop),Inv X j8 σ H s->RelV v u->t v σ H Q ->
  wpAny (model X.prog X.w) X.A (assign target X.env u) (λ_ s'=>∃σ' H',Inv X j8 σ' H' s'/\Q σ' H') X.xe s
def PGs (X:Cx) (ts:List Expr) (t:TGs):Prop:=
 ∀(j8:List (Addr×Obj)) (s:Shared) (σ:St) (H:Hp) (vs:List V) (us:List Value) (Q:St->Hp->Prop),Inv X j8 σ H s->Vals vs us->t vs σ H Q ->
  wpAny (model X.prog X.w) X.A (assignInOrder ((assignEach ts X.env).map (·.2)) us) (λ_ s'=>∃σ' H',Inv X j8 σ' H' s'/\Q σ' H') X.xe s
abbrev TSet:=V->V->V->Hp->(Hp->Prop)->Prop
def PSet (X:Cx) (t:TSet):Prop:=
 ∀(j8:List (Addr×Obj)) (s:Shared) (σ:St) (H:Hp) (o i v:V) (ov iv u:Value) (Q:Hp->Prop),Inv X j8 σ H s->RelV o ov->RelV i iv->RelV v u->t o i v H Q ->
  wpAny (model X.prog X.w) X.A (setItem ov iv u) (λ_ s'=>∃H',Inv X j8 σ H' s'/\Q H') X.xe s
section
variable {X:Cx}{pos:Pos}
def qh3 (i:Nat):TG:=λv σ H Q=>Q (σ.set i (some v)) H
theorem qy6 {i:Nat}{x:Str}(hN:X.N.Nodup) (hi:X.N[i]?=some x) (hx:Loc X.env.scope x) (hf:X.fn x=true\/X.env.scope.names.lookup x=some .local:=by first|exact .inl rfl|exact .inr rfl|assumption):PG X (.Name x pos) (qh3 i):=by
 intro j8 s σ H v u Q I r h;exact wpAny_assign_Name (qw9 I hN hi hx r (λs' I'=>⟨_,H,I',h⟩) hf)
def gNil:TGs:=λvs σ H Q=>vs=[]/\Q σ H
def qu3 (t:TG) (u:TGs):TGs:=λvs σ H Q=>∃v r,vs=v::r/\t v σ H λσ' H'=>u r σ' H' Q
theorem qj8:PGs X [] gNil:=by
 intro j8 s σ H vs us Q I r h;obtain⟨e,h⟩:=h;subst e;cases r;exact assignInOrder_nil ⟨σ,H,I,h⟩
theorem qb6 {e:Expr}{es:List Expr}{t:TG}{u:TGs}(h1:PG X e t) (h2:PGs X es u)
  (hs:(assignEach (e::es) X.env).map (·.2)=assign e X.env::(assignEach es X.env).map (·.2):=by rfl):PGs X (e::es) (qu3 t u):=by
 intro j8 s σ H vs us Q I r h;obtain⟨v,vr,e1,h⟩:=h;subst e1;cases r with
 |cons r rr=>
  rw[hs];refine assignInOrder_cons (thn (h1 j8 s σ H _ _ _ I r h) λ_ s1 ⟨σ1,H1,I1,q1⟩=>?_);exact h2 j8 s1 σ1 H1 _ _ Q I1 rr q1
def gTup (K:PySem.W.Frag) (n:Nat) (t:TGs):TG:=λv σ H Q=>∃a xs,v=.ref a/\SqT K H a xs/\xs.length=n/\t xs σ H Q
theorem qn7 {es:List Expr}{k:Nat}{t:TGs}{n:Nat}(hc:X.calm=true) (h:PGs X es t)
  (hn:(assignEach es X.env).length=n:=by rfl) (jT:(assignEach es X.env).findIdx? (·.1)=none:=by rfl):PG X (.Tuple es k pos) (gTup X.K n t):=by
 intro j8 s σ H v u Q I r hw;obtain⟨a,xs,e1,hq,hl,hw⟩:=hw;subst e1;cases r;obtain⟨its,rv,ht,hz⟩:=I.tuple hq;refine assign_Tuple_tuple (I.ok.hd hc) ht (by simp[hn,<- hl,rv.length]) jT λh' hx=>?_;have I1:Inv X j8 σ H { s with heap:=h' }:=I.kept (t':=s.toks) λb o e=>hx b o (Zz (Zl e)) e;exact h j8 _ σ H xs _ Q I1 (by simpa using rv) hw
def gSub (to ti:TE) (t:TSet):TG:=λv σ H Q=>to σ H λo H1=>ti σ H1 λi H2=>t o i v H2 λH3=>Q σ H3
theorem xq0 {o i:Expr}{to ti:TE}{t:TSet}(ho:PE X o to) (hi:PE X i ti) (hs:PSet X t)
  (ha:∀v,assign (.Subscript o i pos) X.env v=(do
   let ov <- holding [v] (eval o X.env)
   let iv <- holding [v,ov] (eval i X.env)
   standAt pos
   holding [v,ov,iv] (setItem ov iv v)
   release [v,ov,iv] []):=by intro _;rfl):PG X (.Subscript o i pos) (gSub to ti t):=by
 intro j8 s σ H v u Q I r h;rw[ha];refine Za (YR (thn (ho j8 s σ H _ I h) λov s1 ⟨x,H1,I1,r1,q1⟩=>?_));refine Za (YR (thn (hi j8 s1 σ H1 _ I1 q1) λiv s2 ⟨y,H2,I2,r2,q2⟩=>?_));refine Za (wpAny_standAt (Za (YR (thn (hs j8 s2 σ H2 x y v ov iv u _ I2 r1 r2 r q2) λ_ s3 ⟨H3,I3,q3⟩=>?_))));exact wpAny_release ⟨σ,H3,I3,q3⟩
def tAsg (te:TE) (g:TG):TS:=λD σ H=>te σ H λx H1=>g x σ H1 D.nx
theorem qp7 {tg e:Expr}{te:TE}{g:TG}(he:PE X e te) (hg:PG X tg g) (hs:swapsWithSole [tg] e pos.line X.env=pure false:=by rfl) (hw:swappedStores [tg] e X.env=pure none:=by rfl)
  (h1:(assignEach [tg] X.env).map (·.2)=[assign tg X.env]:=by rfl):PS X (.Assign [tg] e pos) (tAsg te g):=by
 intro j8 s σ H D I h;refine wpAny_Assign_stores (thn (he j8 s σ H _ I h) λv s1 ⟨x,H1,I1,r1,q1⟩=>?_) hs hw;rw[h1];exact thn (hg j8 s1 σ H1 x v _ I1 r1 q1) λ_ s2 q=>q
theorem xq1 {i:Nat}{x:Str}{e:Expr}{te:TE}{pos':Pos}(hN:X.N.Nodup) (hi:X.N[i]?=some x) (hx:Loc X.env.scope x) (he:PE X e te) (hs:swapsWith e (some (.Name x pos')) pos.line X.env=pure false:=by rfl) (hf:X.fn x=true\/X.env.scope.names.lookup x=some .local:=by first|exact .inl rfl|exact .inr rfl|assumption) :
  PS X (.Assign [.Name x pos'] e pos) (tAsg te (qh3 i)):=by
 intro j8 s σ H D I h;refine wpAny_Assign_Name (thn (he j8 s σ H _ I h) λv s1 ⟨y,H1,I1,r1,q1⟩=>?_) hs;exact qw9 I1 hN hi hx r1 (λs2 I2=>⟨_,H1,I2,q1⟩) hf
end
section
variable {X:Cx}{pos:Pos}
end
structure It where
 go:Nat->Hp->Prop
 yld:Nat->Hp->V->Hp->Prop
 stop:Nat->Hp->Prop
def FpOk (X:Cx) (j8:List (Addr×Obj)) (H:Hp) (b:Addr):Prop:=
 H b=none/\b≠X.env.locals/\b∉X.fs/\(b∈X.ex\/X.s₀.heap.objs.size<=b)/\(∀x c,X.env.cells.lookup x=some c->c≠b)/\∀p∈X.pn++j8,p.1≠b
theorem Inv.fpOk {X:Cx}{j8:List (Addr×Obj)}{σ:St}{H H':Hp}{s:Shared}{b:Addr}(I:Inv X j8 σ H s) (hb:s.heap.objs.size<=b) (hn:H' b=none):FpOk X j8 H' b:=by
 refine⟨hn,Vf (ZM I.lt hb),I.nofs hb,.inr (ZK I.sz hb),λx c e z=>?_,λp hp z=>?_⟩
 ·obtain⟨v,q⟩:=I.cell x c e;exact absurd (ZM q.lt (by rw[z];exact hb)) (YF _)
 ·exact absurd (ZM (Zl (I.pin p hp).1) (by rw[z];exact hb)) (YF _)
structure Turn (P:Program) (w:World) (K:PySem.W.Frag) (tg:Expr) (J:It) (fp:List Addr) (it:Addr) (tn:Nat->Heap->Prop):Prop where
 mem:it∈fp
 obj:∀i h,tn i h->∀b∈fp,∃o,h.get? b=some o/\∀v,o.data≠.cell v
 keep:∀i h h',tn i h->(∀b∈fp,∀o,h.get? b=some o->h'.get? b=some o)->tn i h'
 item:∀(X:Cx),X.prog=P->X.w=w->X.K=K->X.calm=true->∀(i:Nat) (j8:List (Addr×Obj)) (s:Shared) (σ:St) (H:Hp) (E:Value->Shared->Prop),Inv X j8 σ H s->(∀b∈fp,FpOk X j8 H b)->tn i s.heap->J.go i H ->
  wpAny (model P w) X.A (pyNext (.ref it)) (λr s1=>∃u,r=some u /\
   wpAny (model P w) X.A (letOwnedTupleGo tg (.ref it) u) (λ_ s2=>∃x H',Inv X j8 σ H' s2/\RelV x u/\J.yld i H x H'/\tn (i+1) s2.heap/\∀b∈fp,H' b=none) E s1) E s
 done:∀(X:Cx),X.prog=P->X.w=w->X.K=K->X.calm=true->∀(i:Nat) (j8:List (Addr×Obj)) (s:Shared) (σ:St) (H:Hp) (E:Value->Shared->Prop),Inv X j8 σ H s->(∀b∈fp,FpOk X j8 H b)->tn i s.heap->J.stop i H ->
  wpAny (model P w) X.A (pyNext (.ref it)) (λr s1=>r=none/\Inv X j8 σ H s1) E s
 self:∀(A:Around) (i:Nat) (s:Shared) (Q:Value->Shared->Prop) (E:Value->Shared->Prop),tn i s.heap->Q (.ref it) s->wpAny (model P w) A (pyIter (.ref it)) Q E s
abbrev TI:=St->Hp->(It->Hp->Prop)->Prop
def PIE (X:Cx) (j8:List (Addr×Obj)) (σ:St) (tg:Expr) (R:It->Hp->Prop) (itv:Value) (s2:Shared):Prop:=
 ∃(it:Addr) (fp:List Addr) (tn:Nat->Heap->Prop) (J:It) (H':Hp),itv=.ref it/\Inv X j8 σ H' s2/\Turn X.prog X.w X.K tg J fp it tn/\tn 0 s2.heap/\(∀b∈fp,FpOk X j8 H' b)/\R J H'
def PI (X:Cx) (tg iter:Expr) (wi:TI):Prop:=
 ∀(j8:List (Addr×Obj)) (s:Shared) (σ:St) (H:Hp) (R:It->Hp->Prop),Inv X j8 σ H s->wi σ H R ->
  wpAny (model X.prog X.w) X.A (eval iter X.env) (λv s1=>wpAny (model X.prog X.w) X.A (pyIter v) (PIE X j8 σ tg R) X.xe s1) X.xe s
theorem xu4 {M:Model}{A:Around}{E:Value->Shared->Prop}{s:Shared}{tg:Expr}{it:Addr}{u:Value}{o:Obj}{n:String}{vs:Array Value}{Q:Unit->Shared->Prop}(ho:s.heap.get? it=some o) (hc:o.cls=.type n) (hd:o.data=.fields vs)
  (hn:["enumerate", "zip", "dict_itemiterator", "dict_reverseitemiterator", "odict_iterator", "itertools.zip_longest", "itertools.pairwise"].contains n=false) (hQ:Q () s):wpAny M A (letOwnedTupleGo tg (.ref it) u) Q E s:=by
 unfold letOwnedTupleGo;cases tg<;>first
  |exact Zm hQ
  |(cases u<;>first
    |exact Zm hQ
    |(refine Za (wpAny_load ho ?_)
      rw[hc,hd];show wpAny M A (if (["enumerate", "zip", "dict_itemiterator", "dict_reverseitemiterator", "odict_iterator", "itertools.zip_longest", "itertools.pairwise"].contains n&&vs[0]?==some (rawInt _))=true then _ else _) Q E s;rw[Zo (by intro h;rw[hn,Vk] at h;cases h)];exact Zm hQ))
def Itl (K:PySem.W.Frag) (a:Addr):It:=
 ⟨λi H=>∃xs x,SqL K H a xs/\xs[i]?=some x,λi H x H'=>H'=H/\∀xs,SqL K H a xs->xs[i]?=some x,λi H=>∃xs,SqL K H a xs/\xs.length<=i⟩
def Itt (K:PySem.W.Frag) (a:Addr):It:=
 ⟨λi H=>∃xs x,SqT K H a xs/\xs[i]?=some x,λi H x H'=>H'=H/\∀xs,SqT K H a xs->xs[i]?=some x,λi H=>∃xs,SqT K H a xs/\xs.length<=i⟩
def Itr (lo:Int) (n:Nat):It:=⟨λi _=>i<n,λi H x H'=>H'=H/\x=.int (lo+i),λi _=>n<=i⟩
theorem qJ5 {P:Program}{w:World}{K:PySem.W.Frag}{tg:Expr}(a it:Addr):Turn P w K tg (Itl K a) [it] it (λi h=>h.IsListIter it a i) where
 mem:=by simp
 obj:=λi h st b hb=>by
  have e:b=it:=by simpa using hb
  subst e;obtain⟨o,e,c,d⟩:=st;exact⟨o,e,λv z=>by rw[d] at z;cases z⟩
 keep:=λi h h' st k=>st.at λo e=>k it (by simp) o e
 item:=by
  intro X hP hw hK hc i j8 s σ H E I hf st hg;subst hP hw hK;obtain⟨xs,x,hq,hx⟩:=hg;obtain⟨its,rv,p,hz⟩:=I.list hq;obtain⟨u,hu,ru⟩:=rv.get hx;obtain⟨f0,f1,f2,f3,f4,f5⟩:=hf it (by simp);refine wpAny_pyNext_list_item st p.isList (x:=u) (by simpa using hu) λh' st' sb=>?_;have I1:Inv X j8 σ H { s with heap:=h' }:=I.turned (t':=s.toks) (λb o hb e=>(sb.2 b hb).trans e) f0 f1 f3 f4 f5;obtain⟨o,e,c,d⟩:=id st';exact⟨u,rfl,xu4 (s:={ s with heap:=h' }) e c d (by decide) ⟨x,H,I1,ru,⟨rfl,λys hy=>by rw[I.list_inj hy hq];exact hx⟩,st',λb hb=>(hf b hb).1⟩⟩
 done:=by
  intro X hP hw hK hc i j8 s σ H E I hf st hg;subst hP hw hK;obtain⟨xs,hq,hx⟩:=hg;obtain⟨its,rv,p,hz⟩:=I.list hq;obtain⟨f0,f1,f2,f3,f4,f5⟩:=hf it (by simp);have hl:=rv.length;exact wpAny_pyNext_list_end (I.ok.hd hc) st p.isList (by simp;lia) λh' eb=>⟨rfl,I.turned (t':=s.toks) (λb o hb e=>eb b o hb e) f0 f1 f3 f4 f5⟩
 self:=λ_ _ _ _ _ st h=>wpAny_pyIter_listiter st h
theorem qD0 {P:Program}{w:World}{K:PySem.W.Frag}{tg:Expr}(a it:Addr):Turn P w K tg (Itt K a) [it] it (λi h=>h.IsTupleIter it a i) where
 mem:=by simp
 obj:=λi h st b hb=>by
  have e:b=it:=by simpa using hb
  subst e;obtain⟨o,e,c,d⟩:=st;exact⟨o,e,λv z=>by rw[d] at z;cases z⟩
 keep:=λi h h' st k=>st.at λo e=>k it (by simp) o e
 item:=by
  intro X hP hw hK hc i j8 s σ H E I hf st hg;subst hP hw hK;obtain⟨xs,x,hq,hx⟩:=hg;obtain⟨its,rv,p,hz⟩:=I.tuple hq;obtain⟨u,hu,ru⟩:=rv.get hx;obtain⟨f0,f1,f2,f3,f4,f5⟩:=hf it (by simp);refine wpAny_pyNext_tuple_item st (show s.heap.IsTuple a its.toArray from p) (x:=u) (by simpa using hu) λh' st' sb=>?_;have I1:Inv X j8 σ H { s with heap:=h' }:=I.turned (t':=s.toks) (λb o hb e=>(sb.2 b hb).trans e) f0 f1 f3 f4 f5;obtain⟨o,e,c,d⟩:=id st';exact⟨u,rfl,xu4 (s:={ s with heap:=h' }) e c d (by decide) ⟨x,H,I1,ru,⟨rfl,λys hy=>by rw[I.tuple_inj hy hq];exact hx⟩,st',λb hb=>(hf b hb).1⟩⟩
 done:=by
  intro X hP hw hK hc i j8 s σ H E I hf st hg;subst hP hw hK;obtain⟨xs,hq,hx⟩:=hg;obtain⟨its,rv,p,hz⟩:=I.tuple hq;obtain⟨f0,f1,f2,f3,f4,f5⟩:=hf it (by simp);have hl:=rv.length;exact wpAny_pyNext_tuple_end (I.ok.hd hc) st (show s.heap.IsTuple a its.toArray from p) (by simp;lia) λh' eb=>⟨rfl,I.turned (t':=s.toks) (λb o hb e=>eb b o hb e) f0 f1 f3 f4 f5⟩
 self:=λ_ _ _ _ _ st h=>wpAny_pyIter_tupleiter st h
theorem q01 {P:Program}{w:World}{K:PySem.W.Frag}{tg:Expr}(it:Addr) (lo:Int) (n:Nat):Turn P w K tg (Itr lo n) [it] it (λi h=>IsRangeIter h it (lo+(i:Nat)*1) ((n:Int)-(i:Nat)) 1) where
 mem:=by simp
 obj:=λi h st b hb=>by
  have e:b=it:=by simpa using hb
  subst e;exact⟨_,st,λv z=>by
   have z':Data.fields _=Data.cell v:=z;cases z'⟩
 keep:=λi h h' st k=>k it (by simp) _ st
 item:=by
  intro X hP hw hK hc i j8 s σ H E I hf st hg;subst hP hw hK;obtain⟨f0,f1,f2,f3,f4,f5⟩:=hf it (by simp);have W:=Walks.range (prog:=X.prog) (w:=X.w) (I.ok.hd hc) it lo 1 n;refine W.item i s _ _ hg st λv h' tk hv st' kk=>?_;obtain⟨t,rfl⟩:=hv;have I1:Inv X j8 σ H { s with heap:=h',toks:=tk }:=I.turned (λb o hb e=>kk b o (by simpa using hb) e) f0 f1 f3 f4 f5;refine⟨_,rfl,xu4 (s:={ s with heap:=h',toks:=tk }) (n:= "range_iterator") st' rfl rfl (by decide) ⟨.int (lo+i),H,I1,⟨t,?_⟩,⟨rfl,rfl⟩,st',λb hb=>(hf b hb).1⟩⟩;rw[Int.mul_one]
 done:=by
  intro X hP hw hK hc i j8 s σ H E I hf st hg;subst hP hw hK;obtain⟨f0,f1,f2,f3,f4,f5⟩:=hf it (by simp);exact wpAny_pyNext_range_end (I.ok.hd hc) st (by have:n<=i:=hg;lia) λh' eb=>⟨rfl,I.turned (t':=s.toks) (λb o hb e=>eb b o hb e) f0 f1 f3 f4 f5⟩
 self:=λ_ _ _ _ _ st h=>wpAny_pyIter_rangeiter st h
section
variable {X:Cx}{tg:Expr}
def xJ2 (K:PySem.W.Frag) (tl:TE):TI:=λσ H R=>tl σ H λx H1=>∃a,x=.ref a/\(∃xs,SqL K H1 a xs)/\R (Itl K a) H1
def iTup (K:PySem.W.Frag) (tl:TE):TI:=λσ H R=>tl σ H λx H1=>∃a,x=.ref a/\(∃xs,SqT K H1 a xs)/\R (Itt K a) H1
theorem qQ0 {l:Expr}{tl:TE}(hl:PE X l tl):PI X tg l (xJ2 X.K tl):=by
 intro j8 s σ H R I h;refine thn (hl j8 s σ H _ I h) λv s1 ⟨x,H1,I1,r1,q1⟩=>?_;obtain⟨a,e,⟨xs,hq⟩,q⟩:=q1;subst e;cases r1;obtain⟨its,rv,p,hz⟩:=I1.list hq;refine XE p.isList ?_;refine⟨s1.heap.objs.size,[s1.heap.objs.size],_,_,H1,rfl,I1.kept (t':=s1.toks) λb o e=>Zc _ e,qJ5 a _,⟨_,Zn _ rfl,rfl,rfl⟩,λb hb=>?_,q⟩;have e:b=s1.heap.objs.size:=by simpa using hb
 subst e;exact I1.fpOk (Ze _) (I1.hok.fresh (Ze _))
theorem qj9 {l:Expr}{tl:TE}(hl:PE X l tl):PI X tg l (iTup X.K tl):=by
 intro j8 s σ H R I h;refine thn (hl j8 s σ H _ I h) λv s1 ⟨x,H1,I1,r1,q1⟩=>?_;obtain⟨a,e,⟨xs,hq⟩,q⟩:=q1;subst e;cases r1;obtain⟨its,rv,p,hz⟩:=I1.tuple hq;refine Wi (show s1.heap.IsTuple a its.toArray from p) ?_;refine⟨s1.heap.objs.size,[s1.heap.objs.size],_,_,H1,rfl,I1.kept (t':=s1.toks) λb o e=>Zc _ e,qD0 a _,⟨_,Zn _ rfl,rfl,rfl⟩,λb hb=>?_,q⟩;have e:b=s1.heap.objs.size:=by simpa using hb
 subst e;exact I1.fpOk (Ze _) (I1.hok.fresh (Ze _))
theorem range_it {j8:List (Addr×Obj)}{σ:St}{H:Hp}{s:Shared}{R:It->Hp->Prop}{E:Value->Shared->Prop}{lo hi:Int}{t u v:Tok}{tk:Nat}(I:Inv X j8 σ H s) (h1:-(2^62)<=lo) (h2:lo<2^62) (h3:-(2^62)<=hi) (h4:hi<2^62)
  (q:R (Itr lo (hi-lo).toNat) H):wpAny (model X.prog X.w) X.A (pyIter (.ref s.heap.objs.size)) (PIE X j8 σ tg R) E { s with heap:=s.heap.push { cls:=.type "range",data:=.fields #[.int lo t,.int hi u,.int 1 v] },toks:=tk }:=by
 refine wpAny_pyIter_range (IsRange.new ..) (small_one h1 h2 h3 h4) ?_;have I1:Inv X j8 σ H { s with heap:=s.heap.push { cls:=.type "range",data:=.fields #[.int lo t,.int hi u,.int 1 v] },toks:=tk }:=I.kept λb o e=>Zc _ e;refine⟨(s.heap.push { cls:=.type "range",data:=.fields #[.int lo t,.int hi u,.int 1 v] }).objs.size,[(s.heap.push { cls:=.type "range",data:=.fields #[.int lo t,.int hi u,.int 1 v] }).objs.size],_,_,H,rfl,
  I1.kept (t':=tk) λb o e=>Zc _ e,q01 _ lo (hi-lo).toNat,?_,λb hb=>?_,q⟩
 ·have e1:lo+((0:Nat):Int)*1=lo:=by simp
  have e2:(((hi-lo).toNat:Nat):Int)-((0:Nat):Int)=Builtin.Range.rangeSize lo hi 1:=by rw[rangeSize_one];split<;>lia
  show IsRangeIter _ _ (lo+((0:Nat):Int)*1) ((((hi-lo).toNat:Nat):Int)-((0:Nat):Int)) 1;rw[e1,e2];exact Zn _ rfl
 ·have e:b=(s.heap.push { cls:=.type "range",data:=.fields #[.int lo t,.int hi u,.int 1 v] }).objs.size:=by simpa using hb
  subst e;exact I1.fpOk (Ze _) (I1.hok.fresh (Ze _))
def xJ3 (ta:TA):TI:=λσ H R=>ta σ H λvs H1=>∃j:Int,vs=[.int j]/\-(2^62)<=j/\j<2^62/\R (Itr 0 j.toNat) H1
theorem qk0 {a:Expr}{ta:TA}{p pos:Pos}(hg:Gl X "range") (hm:X.mg "range" = none) (ha:PA X [a] ta) (hs:starEach [a] X.env=[(false,eval a X.env)]:=by rfl):PI X tg (.Call (.Name "range" p) [a] [] pos) (xJ3 ta):=by
 intro j8 s σ H R I h;refine Call_ (qC9 I hg hm boot_range (Y4 (thn (ha pos j8 s σ H _ I h) λus s1 ⟨vs,H1,I1,r1,q1⟩=>?_) hs rfl));obtain⟨j,e,q1,q2,q⟩:=q1;subst e;cases r1 with
 |cons r rr=>
  cases rr;obtain⟨t,rfl⟩:=r;exact call_range_1 (range_it I1 (by lia) (by lia) q1 q2 (by simpa using q))
def tFor (wi:TI) (g:TG) (tb:TS):TS:=λD σ H=>wi σ H λJ H1=>∃W:Nat->Nat->St->Hp->Prop,(∃m,W 0 m σ H1)/\∀i m σ H,W i m σ H ->
 (J.stop i H/\D.nx σ H)\/(J.go i H/\∃N:St->Hp->Prop,(∀σ' H',N σ' H'->∃m',m'<m/\W (i+1) m' σ' H')/\∀x H',J.yld i H x H'->g x σ H' λσ2 H2=>tb { D with nx:=N,ct:=N,bk:=D.nx } σ2 H2)
def qD1 (fp:List Addr) (h:Heap):List (Addr×Obj):=fp.filterMap λb=>(h.get? b).map λo=>(b,o)
theorem ql4 {fp:List Addr}{h:Heap}{b:Addr}{o:Obj}(hb:b∈fp) (e:h.get? b=some o):(b,o)∈qD1 fp h:=WY.mpr ⟨b,hb,by rw[e];rfl⟩
theorem q56 {fp:List Addr}{h:Heap}{p:Addr×Obj}(hp:p∈qD1 fp h):p.1∈fp/\h.get? p.1=some p.2:=by
 obtain⟨b,hb,e⟩:=WY.mp hp;cases q:h.get? b with
 |none=>rw[q] at e;cases e
 |some o=>
  rw[q] at e;have e':(b,o)=p:=ZD e;subst e';exact⟨hb,q⟩
theorem Inv.pinned {j8:List (Addr×Obj)}{σ:St}{H:Hp}{s:Shared}{fp:List Addr}(I:Inv X j8 σ H s) (hf:∀b∈fp,FpOk X j8 H b) (ho:∀b∈fp,∃o,s.heap.get? b=some o/\∀v,o.data≠.cell v):Inv X (j8++qD1 fp s.heap) σ H s:=
 I.pins_of λp hp=>(Z2.mp hp).elim (λz=>I.pin p (ZR _ z)) λz=>by
  obtain⟨hb,e⟩:=q56 z;obtain⟨f0,f1,f2,_⟩:=hf p.1 hb;obtain⟨o,e',d⟩:=ho p.1 hb;rw[e] at e';cases e';exact⟨e,f0,f1,f2,d⟩
theorem Inv.unpinned {j8 pl:List (Addr×Obj)}{σ:St}{H:Hp}{s:Shared}(I:Inv X (j8++pl) σ H s):Inv X j8 σ H s:=I.pins_of λp hp=>I.pin p (ZR _ (Xe _ hp))
theorem ql5 {iter:Expr}{body:List Stmt}{wi:TI}{g:TG}{tb:TS}{pos:Pos}(hp:PassesOwn (model X.prog X.w) X.A X.env X.xe) (hc:X.calm=true) (hi:PI X tg iter wi) (hg:PG X tg g) (hb:PSs X body tb)
  (hs:∀x,foldedSetIterable iter X.env x=pure x:=by intro _;rfl):PS X (.For tg iter body [] pos) (tFor wi g tb):=by
 intro j8 s σ H D I h;refine wpAny_For (thn (hi j8 s σ H _ I h) λv s1 h1=>thn h1 λitv s2 h2=>?_) hs;obtain⟨it,fp,tn,J,H2,e,I2,T,st2,f2,W,⟨m0,w0⟩,turn⟩:=h2;subst e;have stat:∀{H':Hp},(∀b∈fp,H' b=none)->∀b∈fp,FpOk X j8 H' b:=λhn b hb=>⟨hn b hb,(f2 b hb).2⟩;refine codeAny_forLoop_any (λn s'=>∃i σ' H',Inv X j8 σ' H' s'/\tn i s'.heap/\(∀b∈fp,H' b=none)/\W i n σ' H') ?_ m0 ⟨0,σ,H2,I2,st2,λb hb=>(f2 b hb).1,w0⟩;rintro n s3 ⟨i,σ3,H3,I3,st3,fr3,w3⟩;rcases turn i n σ3 H3 w3 with ⟨stop,qn⟩|⟨go,N,hN,step⟩
 ·refine Wg hp (thn (T.done X rfl rfl rfl hc i j8 s3 σ3 H3 X.xe I3 (stat fr3) st3 stop) λr s4 ⟨hr,I4⟩=>?_);subst hr;exact WJ ⟨σ3,H3,I4,qn⟩
 ·refine Wg hp (thn (T.item X rfl rfl rfl hc i j8 s3 σ3 H3 X.xe I3 (stat fr3) st3 go) λr s4 ⟨u,hr,h4⟩=>?_);subst hr;refine Wg hp (thn h4 λ_ s5 ⟨x,H5,I5,r5,y5,st5,fr5⟩=>?_);have I5':=I5.pinned (stat fr5) (T.obj _ _ st5);refine Wg hp (thn (hg _ s5 σ3 H5 x u _ I5' r5 (step x H5 y5)) λ_ s6 ⟨σ6,H6,I6,q6⟩=>?_);refine Wg hp (thn (hb _ s6 σ6 H6 _ I6 q6) λf s7 q7=>?_);have again:∀{σ7:St}{H7:Hp},Inv X (j8++qD1 fp s5.heap) σ7 H7 s7->N σ7 H7->∃m,m<n/\∃i σ' H',Inv X j8 σ' H' s7/\tn i s7.heap/\(∀b∈fp,H' b=none)/\W i m σ' H':=λ{σ7 H7} I7 n7=>by
   obtain⟨m',hm,w7⟩:=hN σ7 H7 n7;refine⟨m',hm,i+1,σ7,H7,I7.unpinned,T.keep _ _ _ st5 λb hb o e=>(I7.pin (b,o) (ZR _ (ZR _ (ql4 hb e)))).1,λb hb=>?_,w7⟩;obtain⟨o,e,d⟩:=T.obj _ _ st5 b hb;exact (I7.pin (b,o) (ZR _ (ZR _ (ql4 hb e)))).2.1
  cases f with
  |next=>obtain⟨σ7,H7,I7,n7⟩:=q7;exact again I7 n7
  |cont=>obtain⟨σ7,H7,I7,n7⟩:=q7;exact again I7 n7
  |brk=>obtain⟨σ7,H7,I7,q7⟩:=q7;exact⟨σ7,H7,I7.unpinned,q7⟩
  |ret v=>obtain⟨x7,σ7,H7,I7,r7,q7⟩:=q7;exact⟨x7,σ7,H7,I7.unpinned,r7,q7⟩
end
theorem qT9 {K:PySem.W.Frag}{a:Addr}{xs:List V}{g:TG}{tb:TS}{D:Ends}{σ:St}{H:Hp}(Pv:Nat->St->Hp->Prop) (h0:Pv 0 σ H) (hl:∀i σ H,i<=xs.length->Pv i σ H->SqL K H a xs)
  (hs:∀i x σ H,xs[i]?=some x->Pv i σ H->g x σ H λσ2 H2=>tb { D with nx:=Pv (i+1),ct:=Pv (i+1),bk:=D.nx } σ2 H2) (hd:∀σ H,Pv xs.length σ H->D.nx σ H) :
  ∃W:Nat->Nat->St->Hp->Prop,(∃m,W 0 m σ H)/\∀i m σ H,W i m σ H ->
   ((Itl K a).stop i H/\D.nx σ H)\/((Itl K a).go i H/\∃N:St->Hp->Prop,(∀σ' H',N σ' H'->∃m',m'<m/\W (i+1) m' σ' H')/\∀x H',(Itl K a).yld i H x H'->g x σ H' λσ2 H2=>tb { D with nx:=N,ct:=N,bk:=D.nx } σ2 H2):=by
 refine⟨λi m σ H=>m=xs.length-i/\i<=xs.length/\Pv i σ H,⟨xs.length,by simp,ZN _,h0⟩,?_⟩;rintro i m σ H ⟨rfl,hi,p⟩;have q:=hl i σ H hi p;by_cases jC:i<xs.length
 ·refine .inr ⟨⟨xs,xs[i],q,by simp[jC]⟩,Pv (i+1),λσ' H' p'=>⟨xs.length-(i+1),by lia,rfl,jC,p'⟩,λx H' y=>?_⟩;obtain⟨e,y⟩:=y;subst e;exact hs i x σ _ (y xs q) p
 ·have e:i=xs.length:=by lia
  subst e;exact .inl ⟨⟨xs,q,Ze _⟩,hd σ H p⟩
theorem qq0 {K:PySem.W.Frag}{a:Addr}{xs:List V}{g:TG}{tb:TS}{D:Ends}{σ:St}{H:Hp}(Pv:Nat->St->Hp->Prop) (h0:Pv 0 σ H) (hl:∀i σ H,i<=xs.length->Pv i σ H->SqT K H a xs)
  (hs:∀i x σ H,xs[i]?=some x->Pv i σ H->g x σ H λσ2 H2=>tb { D with nx:=Pv (i+1),ct:=Pv (i+1),bk:=D.nx } σ2 H2) (hd:∀σ H,Pv xs.length σ H->D.nx σ H) :
  ∃W:Nat->Nat->St->Hp->Prop,(∃m,W 0 m σ H)/\∀i m σ H,W i m σ H ->
   ((Itt K a).stop i H/\D.nx σ H)\/((Itt K a).go i H/\∃N:St->Hp->Prop,(∀σ' H',N σ' H'->∃m',m'<m/\W (i+1) m' σ' H')/\∀x H',(Itt K a).yld i H x H'->g x σ H' λσ2 H2=>tb { D with nx:=N,ct:=N,bk:=D.nx } σ2 H2):=by
 refine⟨λi m σ H=>m=xs.length-i/\i<=xs.length/\Pv i σ H,⟨xs.length,by simp,ZN _,h0⟩,?_⟩;rintro i m σ H ⟨rfl,hi,p⟩;have q:=hl i σ H hi p;by_cases jC:i<xs.length
 ·refine .inr ⟨⟨xs,xs[i],q,by simp[jC]⟩,Pv (i+1),λσ' H' p'=>⟨xs.length-(i+1),by lia,rfl,jC,p'⟩,λx H' y=>?_⟩;obtain⟨e,y⟩:=y;subst e;exact hs i x σ _ (y xs q) p
 ·have e:i=xs.length:=by lia
  subst e;exact .inl ⟨⟨xs,q,Ze _⟩,hd σ H p⟩
theorem qy7 {lo:Int}{n:Nat}{g:TG}{tb:TS}{D:Ends}{σ:St}{H:Hp}(Pv:Nat->St->Hp->Prop) (h0:Pv 0 σ H)
  (hs:∀i σ H,i<n->Pv i σ H->g (.int (lo+i)) σ H λσ2 H2=>tb { D with nx:=Pv (i+1),ct:=Pv (i+1),bk:=D.nx } σ2 H2) (hd:∀σ H,Pv n σ H->D.nx σ H) :
  ∃W:Nat->Nat->St->Hp->Prop,(∃m,W 0 m σ H)/\∀i m σ H,W i m σ H ->
   ((Itr lo n).stop i H/\D.nx σ H)\/((Itr lo n).go i H/\∃N:St->Hp->Prop,(∀σ' H',N σ' H'->∃m',m'<m/\W (i+1) m' σ' H')/\∀x H',(Itr lo n).yld i H x H'->g x σ H' λσ2 H2=>tb { D with nx:=N,ct:=N,bk:=D.nx } σ2 H2):=by
 refine⟨λi m σ H=>m=n-i/\i<=n/\Pv i σ H,⟨n,by simp,ZN _,h0⟩,?_⟩;rintro i m σ H ⟨rfl,hi,p⟩;by_cases jC:i<n
 ·refine .inr ⟨jC,Pv (i+1),λσ' H' p'=>⟨n-(i+1),by lia,rfl,jC,p'⟩,λx H' y=>?_⟩;obtain⟨e,y⟩:=y;subst e y;exact hs i σ _ jC p
 ·have e:i=n:=by lia
  subst e;exact .inl ⟨Ze _,hd σ H p⟩
abbrev R2:=V->V->Hp->VK->Prop
def OpR (X:Cx) (f:Value->Value->Sem Value) (r:R2):Prop:=
 ∀(j8:List (Addr×Obj)) (s:Shared) (σ:St) (H:Hp) (x y:V) (v u:Value) (Q:VK),Inv X j8 σ H s->RelV x v->RelV y u->r x y H Q ->
  wpAny (model X.prog X.w) X.A (f v u) (EP X j8 σ Q) X.xe s
def UnR (X:Cx) (f:Value->Sem Value) (r:V->Hp->VK->Prop):Prop:=
 ∀(j8:List (Addr×Obj)) (s:Shared) (σ:St) (H:Hp) (x:V) (v:Value) (Q:VK),Inv X j8 σ H s->RelV x v->r x H Q ->
  wpAny (model X.prog X.w) X.A (f v) (EP X j8 σ Q) X.xe s
def qi3 (X:Cx) (f:Value) (r:List V->Hp->VK->Prop):Prop:=
 ∀(j8:List (Addr×Obj)) (s:Shared) (σ:St) (H:Hp) (xs:List V) (us:List Value) (Q:VK),Inv X j8 σ H s->Vals xs us->r xs H Q ->
  wpAny (model X.prog X.w) X.A (call f us) (EP X j8 σ Q) X.xe s
def tOp (r:R2) (ta tb:TE):TE:=λσ H Q=>ta σ H λx H1=>tb σ H1 λy H2=>r x y H2 Q
def tUn (r:V->Hp->VK->Prop) (ta:TE):TE:=λσ H Q=>ta σ H λx H1=>r x H1 Q
def rI (C:Int->Int->Prop) (g:Int->Int->V):R2:=λx y H Q=>∃i j,x=.int i/\y=.int j/\C i j/\Q (g i j) H
def rI0 (g:Int->Int->V):R2:=λx y H Q=>∃i j,x=.int i/\y=.int j/\Q (g i j) H
def rU (g:Int->V):V->Hp->VK->Prop:=λx H Q=>∃i,x=.int i/\Q (g i) H
section
variable {X:Cx}{a b c:Expr}{ta tb tc:TE}{pos:Pos}
theorem binT (ha:PE X a ta) (hb:PE X b tb){j8:List (Addr×Obj)}{s:Shared}{σ:St}{H:Hp}{R:V->V->Hp->Prop}(I:Inv X j8 σ H s)
  (h:ta σ H λx H1=>tb σ H1 λy H2=>R x y H2){Q:Value->Shared->Prop}{f:Value->Value->Sem Value}
  (hf:∀v u s2 x y H2,Inv X j8 σ H2 s2->RelV x v->RelV y u->R x y H2->wpAny (model X.prog X.w) X.A (f v u) Q X.xe s2) :
  wpAny (model X.prog X.w) X.A (eval a X.env) (λv s₁=>wpAny (model X.prog X.w) X.A (eval b X.env) (λu s₂=>wpAny (model X.prog X.w) X.A (f v u) Q X.xe s₂) X.xe s₁) X.xe s:=by
 refine thn (ha j8 s σ H _ I h) λv s1 ⟨x,H1,I1,r1,q1⟩=>?_;refine thn (hb j8 s1 σ H1 _ I1 q1) λu s2 ⟨y,H2,I2,r2,q2⟩=>?_;exact hf v u s2 x y H2 I2 r1 r2 q2
theorem qb8 {op:Operator}{r:R2}(ho:OpR X (binaryOp op) r) (ha:PE X a ta) (hb:PE X b tb):PE X (.BinOp a op b pos) (tOp r ta tb):=by
 intro j8 s σ H Q I h;exact wpAny_BinOp (binT ha hb I h λv u s2 x y H2 I2 rx ry q=>ho j8 s2 σ H2 x y v u Q I2 rx ry q)
theorem xh5 {op:UnaryOp}{r:V->Hp->VK->Prop}(ho:UnR X (unaryOp op) r) (ha:PE X a ta):PE X (.UnaryOp op a pos) (tUn r ta):=by
 intro j8 s σ H Q I h;exact UnaryOp_ (thn (ha j8 s σ H _ I h) λv s1 ⟨x,H1,I1,r1,q1⟩=>ho j8 s1 σ H1 x v Q I1 r1 q1)
theorem opI {f:Value->Value->Sem Value}{C:Int->Int->Prop}{g:Int->Int->Int}
  (rule:∀(i j:Int) (t u:Tok) (s:Shared) (Q:Value->Shared->Prop) (E:Value->Shared->Prop),C i j->Q (.int (g i j) s.toks) { s with toks:=s.toks+1 }->wpAny (model X.prog X.w) X.A (f (.int i t) (.int j u)) Q E s) :
  OpR X f (rI C λi j=>.int (g i j)):=by
 intro j8 s σ H x y v u Q I rx ry h;obtain⟨i,j,rfl,rfl,hc,q⟩:=h;obtain⟨t,rfl⟩:=rx;obtain⟨t',rfl⟩:=ry;exact rule i j t t' s _ _ hc ⟨.int (g i j),H,I.tok _,⟨_,rfl⟩,q⟩
theorem opI0 {f:Value->Value->Sem Value}{g:Int->Int->Int}
  (rule:∀(i j:Int) (t u:Tok) (s:Shared) (Q:Value->Shared->Prop) (E:Value->Shared->Prop),Q (.int (g i j) s.toks) { s with toks:=s.toks+1 }->wpAny (model X.prog X.w) X.A (f (.int i t) (.int j u)) Q E s) :
  OpR X f (rI0 λi j=>.int (g i j)):=by
 intro j8 s σ H x y v u Q I rx ry h;obtain⟨i,j,rfl,rfl,q⟩:=h;obtain⟨t,rfl⟩:=rx;obtain⟨t',rfl⟩:=ry;exact rule i j t t' s _ _ ⟨.int (g i j),H,I.tok _,⟨_,rfl⟩,q⟩
theorem opB0 {f:Value->Value->Sem Value}{g:Int->Int->Bool}
  (rule:∀(i j:Int) (t u:Tok) (s:Shared) (Q:Value->Shared->Prop) (E:Value->Shared->Prop),Q (.bool (g i j)) s->wpAny (model X.prog X.w) X.A (f (.int i t) (.int j u)) Q E s) :
  OpR X f (rI0 λi j=>.bl (g i j)):=by
 intro j8 s σ H x y v u Q I rx ry h;obtain⟨i,j,rfl,rfl,q⟩:=h;obtain⟨t,rfl⟩:=rx;obtain⟨t',rfl⟩:=ry;exact rule i j t t' s _ _ ⟨.bl (g i j),H,I,rfl,q⟩
def CDiv (i j:Int):Prop:=0<j/\j<1073741824
def CPow (i j:Int):Prop:=0<=j/\j<=1000000/\i.natAbs<2^64
def CMul (i j:Int):Prop:=(-(2^64)<i/\i<2^64)\/(-(2^64)<j/\j<2^64)
theorem CMul.ok {i j:Int}(h:CMul i j):IntMulOk i j:=by
 rcases h with ⟨h1,h2⟩|⟨h1,h2⟩
 ·exact .of_left (intBits_le_64 h1 h2)
 ·exact .of_right (intBits_le_64 h1 h2)
theorem qf9:OpR X (binaryOp .Add) (rI0 λi j=>.int (i+j)):=opI0 λ_ _ _ _ _ _ _ q=>add_int q
theorem qv8:OpR X (binaryOp .Sub) (rI0 λi j=>.int (i-j)):=opI0 λ_ _ _ _ _ _ _ q=>sub_int q
theorem xq2:OpR X (binaryOp .Mult) (rI CMul λi j=>.int (i*j)):=opI λ_ _ _ _ _ _ _ hc q=>mul_int q hc.ok
theorem q57:OpR X (binaryOp .FloorDiv) (rI CDiv λi j=>.int (i/j)):=opI λi j _ _ _ _ _ hc q=>by
 have h1:(0:Int)<j:=hc.1;have h2:j<1073741824:=hc.2;exact floordiv_int (by lia) (by rw[Int.fdiv_eq_ediv_of_nonneg i (by lia)];exact q) (.inl (PyProof.noPylong_small (by lia)))
theorem qU0:OpR X (binaryOp .Mod) (rI (λ_ j=>0<j) λi j=>.int (i%j)):=opI λi j _ _ _ _ _ hc q=>by
 have h1:(0:Int)<j:=hc;exact mod_int' (by lia) (by rw[Int.fmod_eq_emod_of_nonneg i (by lia)];exact q)
theorem xq3:OpR X (binaryOp .Pow) (rI CPow λi j=>.int (i^j.toNat)):=opI λ_ _ _ _ _ _ _ hc q=>pow_int_small hc.1 hc.2.1 hc.2.2 q
theorem unI {f:Value->Sem Value}{g:Int->Int}
  (rule:∀(i:Int) (t:Tok) (s:Shared) (Q:Value->Shared->Prop) (E:Value->Shared->Prop),Q (.int (g i) s.toks) { s with toks:=s.toks+1 }->wpAny (model X.prog X.w) X.A (f (.int i t)) Q E s) :
  UnR X f (rU λi=>.int (g i)):=by
 intro j8 s σ H x v Q I rx h;obtain⟨i,rfl,q⟩:=h;obtain⟨t,rfl⟩:=rx;exact rule i t s _ _ ⟨.int (g i),H,I.tok _,⟨_,rfl⟩,q⟩
theorem qU1:UnR X (unaryOp .USub) (rU λi=>.int (-i)):=unI λ_ _ _ _ _ q=>neg_int q
end
def scal:V->V->Bool
 |.non,.non=>true|.non,.int _=>true|.int _,.non=>true|.non,.bl _=>true|.bl _,.non=>true|.non,.str _=>true|.str _,.non=>true
 |.int _,.int _=>true|.bl _,.bl _=>true|.str _,.str _=>true|.byt _,.byt _=>true
 |.int _,.str _=>true|.str _,.int _=>true|.bl _,.str _=>true|.str _,.bl _=>true
 |_,_=>false
def rEq:R2:=λx y H Q=>scal x y=true/\Q (.bl (decide (x=y))) H
def rNe:R2:=λx y H Q=>scal x y=true/\Q (.bl (!decide (x=y))) H
theorem q58 {i j:Int}:decide (V.int i=V.int j)=(i==j):=by
 rw[YJ];simp
theorem xq4 {i j:Bool}:decide (V.bl i=V.bl j)=(i==j):=by
 rw[YJ];simp
theorem q59 {i j:Str}:decide (V.str i=V.str j)=(i==j):=by
 rw[YJ];simp
theorem q60 {i j:Array UInt8}:decide (V.byt i=V.byt j)=(i.toList==j.toList):=by
 rw[YJ];cases i;cases j;simp
section
variable {X:Cx}{a b c:Expr}{ta tb tc:TE}{pos:Pos}
theorem qd9 {j8:List (Addr×Obj)}{σ:St}{H:Hp}{s:Shared}{Q:VK}{k k':Bool}(I:Inv X j8 σ H s) (q:Q (.bl k) H) (e:k=k'):EP X j8 σ Q (.bool k') s:=by
 subst e;exact⟨.bl k,H,I,rfl,q⟩
theorem xh6:OpR X (compareOp .Eq) rEq:=by
 intro j8 s σ H x y v u Q I rx ry h;obtain⟨hs,q⟩:=h;cases x with
 |non=>
  cases rx;cases y with
  |non=>cases ry;exact PySem.EqNone.eq_none_none (qd9 I q (by simp))
  |bl j=>cases ry;exact PySem.EqNone.eq_none_bool (qd9 I q (by simp))
  |int j=>obtain⟨t',rfl⟩:=ry;exact PySem.EqNone.eq_none_int (qd9 I q (by simp))
  |str j=>obtain⟨t',rfl⟩:=ry;exact PySem.EqNone.eq_none_str (qd9 I q (by simp))
  |_=>exact absurd (show false=true from hs) Zu
 |bl i=>
  cases rx;cases y with
  |non=>cases ry;exact PySem.EqNone.eq_bool_none (qd9 I q (by simp))
  |bl j=>cases ry;exact eq_bool (qd9 I q xq4)
  |str j=>obtain⟨t',rfl⟩:=ry;exact PySem.EqMixed.eq_bool_str (qd9 I q (by simp))
  |_=>exact absurd (show false=true from hs) Zu
 |int i=>
  obtain⟨t,rfl⟩:=rx;cases y with
  |non=>cases ry;exact PySem.EqNone.eq_int_none (qd9 I q (by simp))
  |int j=>obtain⟨t',rfl⟩:=ry;exact eq_int (qd9 I q q58)
  |str j=>obtain⟨t',rfl⟩:=ry;exact PySem.EqMixed.eq_int_str (qd9 I q (by simp))
  |_=>exact absurd (show false=true from hs) Zu
 |str i=>
  obtain⟨t,rfl⟩:=rx;cases y with
  |non=>cases ry;exact PySem.EqNone.eq_str_none (qd9 I q (by simp))
  |bl j=>cases ry;exact PySem.EqMixed.eq_str_bool (qd9 I q (by simp))
  |int j=>obtain⟨t',rfl⟩:=ry;exact PySem.EqMixed.eq_str_int (qd9 I q (by simp))
  |str j=>obtain⟨t',rfl⟩:=ry;exact eq_str (qd9 I q q59)
  |_=>exact absurd (show false=true from hs) Zu
 |byt i=>
  obtain⟨t,rfl⟩:=rx;cases y with
  |byt j=>obtain⟨t',rfl⟩:=ry;exact PySem.W.eq_bytes (qd9 I q q60)
  |_=>exact absurd (show false=true from hs) Zu
 |_=>cases y<;>exact absurd (show false=true from hs) Zu
theorem qw6:OpR X (compareOp .NotEq) rNe:=by
 intro j8 s σ H x y v u Q I rx ry h;obtain⟨hs,q⟩:=h;cases x with
 |non=>
  cases rx;cases y with
  |non=>cases ry;exact PySem.EqNone.ne_none_none (qd9 I q (by simp))
  |bl j=>cases ry;exact PySem.EqNone.ne_none_bool (qd9 I q (by simp))
  |int j=>obtain⟨t',rfl⟩:=ry;exact PySem.EqNone.ne_none_int (qd9 I q (by simp))
  |str j=>obtain⟨t',rfl⟩:=ry;exact PySem.EqNone.ne_none_str (qd9 I q (by simp))
  |_=>exact absurd (show false=true from hs) Zu
 |bl i=>
  cases rx;cases y with
  |non=>cases ry;exact PySem.EqNone.ne_bool_none (qd9 I q (by simp))
  |bl j=>cases ry;exact ne_bool (qd9 I q (Yr not xq4))
  |str j=>obtain⟨t',rfl⟩:=ry;exact PySem.EqMixed.ne_bool_str (qd9 I q (by simp))
  |_=>exact absurd (show false=true from hs) Zu
 |int i=>
  obtain⟨t,rfl⟩:=rx;cases y with
  |non=>cases ry;exact PySem.EqNone.ne_int_none (qd9 I q (by simp))
  |int j=>obtain⟨t',rfl⟩:=ry;exact ne_int (qd9 I q (Yr not q58))
  |str j=>obtain⟨t',rfl⟩:=ry;exact PySem.EqMixed.ne_int_str (qd9 I q (by simp))
  |_=>exact absurd (show false=true from hs) Zu
 |str i=>
  obtain⟨t,rfl⟩:=rx;cases y with
  |non=>cases ry;exact PySem.EqNone.ne_str_none (qd9 I q (by simp))
  |bl j=>cases ry;exact PySem.EqMixed.ne_str_bool (qd9 I q (by simp))
  |int j=>obtain⟨t',rfl⟩:=ry;exact PySem.EqMixed.ne_str_int (qd9 I q (by simp))
  |str j=>obtain⟨t',rfl⟩:=ry;exact ne_str (qd9 I q (Yr not q59))
  |_=>exact absurd (show false=true from hs) Zu
 |byt i=>
  obtain⟨t,rfl⟩:=rx;cases y with
  |byt j=>obtain⟨t',rfl⟩:=ry;exact PySem.W.ne_bytes (qd9 I q (Yr not q60))
  |_=>exact absurd (show false=true from hs) Zu
 |_=>cases y<;>exact absurd (show false=true from hs) Zu
theorem qC1:OpR X (compareOp .Lt) (rI0 λi j=>.bl (decide (i<j))):=opB0 λ_ _ _ _ _ _ _ q=>lt_int q
theorem qC2:OpR X (compareOp .LtE) (rI0 λi j=>.bl (decide (i<=j))):=opB0 λ_ _ _ _ _ _ _ q=>le_int q
theorem xJ4:OpR X (compareOp .Gt) (rI0 λi j=>.bl (decide (j<i))):=opB0 λ_ _ _ _ _ _ _ q=>gt_int q
theorem qc6 (b:Expr){op:CmpOp}(h:op≠.In:=by decide) (h2:op≠.NotIn:=by decide):behindInMarks op b=false:=by
 have e1:(op==CmpOp.In)=false:=by cases op<;>first|rfl|exact absurd rfl h
 have e2:(op==CmpOp.NotIn)=false:=by cases op<;>first|rfl|exact absurd rfl h2
 cases b<;>simp[behindInMarks,e1,e2]
theorem qm5 {op:CmpOp}{r:R2}(ho:OpR X (compareOp op) r) (ha:PE X a ta) (hb:PE X b tb) (hm:behindInMarks op b=false):PE X (.Compare a [op] [b] pos) (tOp r ta tb):=by
 intro j8 s σ H Q I h;exact wpAny_Compare1 (binT ha hb I h λv u s2 x y H2 I2 rx ry q=>ho j8 s2 σ H2 x y v u Q I2 rx ry q) hm
def xJ5 (t:TE):TT:=λσ H Q=>t σ H λx H'=>∃k,x=.bl k/\Q k H'
theorem qc4 {op:CmpOp}{r:R2}(ho:OpR X (compareOp op) r) (ha:PE X a ta) (hb:PE X b tb) (hm:behindInMarks op b=false):PT X (.Compare a [op] [b] pos) (xJ5 (tOp r ta tb)):=by
 intro j8 s σ H Q I h;refine wpAny_isTrue_Compare1 (thn (ha j8 s σ H _ I h) λv s1 ⟨x,H1,I1,r1,q1⟩=>thn (hb j8 s1 σ H1 _ I1 q1) λu s2 ⟨y,H2,I2,r2,q2⟩=>
  thn (ho j8 s2 σ H2 x y v u _ I2 r1 r2 q2) λc s3 ⟨z,H3,I3,r3,k,e,q3⟩=>?_) hm
 subst e;cases r3;exact Yy ⟨H3,I3,q3⟩
def xC4 (r r':R2) (ta tb tc:TE):TE:=λσ H Q=>ta σ H λx H1=>tb σ H1 λy H2=>r x y H2 λz H3=>∃k,z=.bl k /\
 (if k=true then tc σ H3 λw' H4=>r' y w' H4 Q else Q (.bl false) H3)
theorem qx0 {op op':CmpOp}{r r':R2}(ho:OpR X (compareOp op) r) (ho':OpR X (compareOp op') r') (ha:PE X a ta) (hb:PE X b tb) (hc:PE X c tc)
  (hm:lastMarks [op,op'] [b,c]=false:=by with_unfolding_all rfl):PE X (.Compare a [op,op'] [b,c] pos) (xC4 r r' ta tb tc):=by
 intro j8 s σ H Q I h;refine Compare_chain (thn (ha j8 s σ H _ I h) λv s1 ⟨x,H1,I1,r1,q1⟩=>chain_link (thn (hb j8 s1 σ H1 _ I1 q1) λu s2 ⟨y,H2,I2,r2,q2⟩=>
  thn (ho j8 s2 σ H2 x y v u _ I2 r1 r2 q2) λd s3 ⟨z,H3,I3,r3,k,e,q3⟩=>?_)) hm
 subst e;cases r3;refine Yy ?_;cases k with
 |false=>exact ite_ff ⟨.bl false,H3,I3,rfl,q3⟩
 |true=>exact ite_tt (chain_last (thn (hc j8 s3 σ H3 _ I3 q3) λw' s4 ⟨z',H4,I4,r4,q4⟩=>ho' j8 s4 σ H4 y z' u w' Q I4 r2 r4 q4))
theorem qU2:(sizeLine:Nat)<2^63:=by rw[XJ];decide
theorem q02:OpR X (binaryOp .Add) (λx y H Q=>∃i j,x=.str i/\y=.str j/\i.length+j.length<=sizeLine/\Q (.str (i++j)) H):=by
 intro j8 s σ H x y v u Q I rx ry h;obtain⟨i,j,rfl,rfl,hz,q⟩:=h;obtain⟨t,rfl⟩:=rx;obtain⟨t',rfl⟩:=ry;exact add_str (λt' tk=>⟨.str (i++j),H,I.tok _,⟨_,rfl⟩,q⟩) hz
theorem qn5 {x:V}{us:List Value}(r:Vals [x] us):∃u,us=[u]/\RelV x u:=by
 cases r with
 |cons r1 r2=>cases r2;exact⟨_,rfl,r1⟩
theorem q61 {x y:V}{us:List Value}(r:Vals [x,y] us):∃u w',us=[u,w']/\RelV x u/\RelV y w':=by
 cases r with
 |cons r1 r2=>
  cases r2 with
  |cons r3 r4=>cases r4;exact⟨_,_,rfl,r1,r3⟩
theorem qU3:qi3 X (.builtin "abs") (λxs H Q=>∃i,xs=[.int i]/\Q (.int (if i<0 then -i else i)) H):=by
 intro j8 s σ H xs us Q I r h;obtain⟨i,rfl,q⟩:=h;obtain⟨u,rfl,t,rfl⟩:=qn5 r;exact call_abs_int λu tk=>⟨.int (if i<0 then -i else i),H,I.tok _,⟨_,rfl⟩,q⟩
theorem qJ6 (hc:X.calm=true):qi3 X (.builtin "max") (λxs H Q=>∃i j,xs=[.int i,.int j]/\Q (.int (if j>i then j else i)) H):=by
 intro j8 s σ H xs us Q I r h;obtain⟨i,j,rfl,q⟩:=h;obtain⟨u,w',rfl,⟨t,rfl⟩,⟨t',rfl⟩⟩:=q61 r;refine max_two_ints (I.ok.hd hc) λh' tk k=>⟨_,H,I.kept k,?_,q⟩;by_cases hj:j>i
 ·rw[Zr hj,Zr hj];exact⟨_,rfl⟩
 ·rw[Zo hj,Zo hj];exact⟨_,rfl⟩
theorem q62 (hc:X.calm=true):qi3 X (.builtin "min") (λxs H Q=>∃i j,xs=[.int i,.int j]/\Q (.int (if j<i then j else i)) H):=by
 intro j8 s σ H xs us Q I r h;obtain⟨i,j,rfl,q⟩:=h;obtain⟨u,w',rfl,⟨t,rfl⟩,⟨t',rfl⟩⟩:=q61 r;refine min_two_ints (I.ok.hd hc) λh' tk k=>⟨_,H,I.kept k,?_,q⟩;by_cases hj:j<i
 ·rw[Zr hj,Zr hj];exact⟨_,rfl⟩
 ·rw[Zo hj,Zo hj];exact⟨_,rfl⟩
theorem qJ7:qi3 X (.type "str") (λxs H Q=>∃i,xs=[.int i]/\i.natAbs.log2<1920/\Q (.str (toString i)) H):=by
 intro j8 s σ H xs us Q I r h;obtain⟨i,rfl,hz,q⟩:=h;obtain⟨u,rfl,t,rfl⟩:=qn5 r;exact PySem.P.str_of_int hz ⟨.str _,H,I.tok _,⟨_,rfl⟩,q⟩
end
structure ObjM (h:Heap) (x dx C:Addr) (mA:Str->Option Value):Prop where
 obj:h.get? x=some (PySem.W.instObj C dx)
 ns:h.Ns1 dx mA
 ne:dx≠x
theorem q63 {h:Heap}{dx:Addr}{mA:Str->Option Value}(n:h.Ns1 dx mA):∃od,h.get? dx=some od/\∀name,PySem.W.lookIn name od=some (mA name):=by
 obtain⟨o,es,ep,ho,hd,hk,_,hm⟩:=n;refine⟨o,ho,λname=>?_⟩;have e:=hm name;unfold nsFind findBy at e;rw[<- Array.find?_toList] at e;unfold PySem.W.lookIn;rw[hd];dsimp only;split
 ·rename_i y q;rw[q] at e;exact Yr some e
 ·rename_i q;rw[q] at e;have a:es.toList.any (·.refKey)=false:=by
   rw[List.any_eq_false];intro y hy;obtain⟨z,t,hkey⟩:=hk y (Array.mem_toList_iff.mp hy);simp[DictEntry.refKey,hkey]
  have a':¬es.toList.any (·.refKey)=true:=by rw[a];exact Zu
  rw[Zo a'];exact Yr some e
theorem ObjM.look {h:Heap}{x dx C:Addr}{mA:Str->Option Value}(I:ObjM h x dx C mA):∃od,PySem.W.InstAt h x (PySem.W.instObj C dx) C (some od)/\∀name,PySem.W.lookIn name od=some (mA name):=
 let ⟨od,ho,hl⟩:=q63 I.ns
 ⟨od,⟨I.obj,rfl,rfl,ho⟩,hl⟩
section
variable {prog:Program}{w:World}{A:Around}{E:Value->Shared->Prop}{s:Shared}{K:PySem.W.Frag}{x dx C f:Addr}{mA:Str->Option Value}{name:Str}{v:Value}
theorem xu5 {expr:Bool}{Q:Value->Shared->Prop}(X:K.In s.heap) (I:ObjM s.heap x dx C mA) (hg:PySem.W.plainGet K C name=true) (hh:PySem.W.hasDictIn K C=true)
  (ha:PySem.W.findIn K (.ref C) name=some none) (hv:mA name=some v) (hv':PySem.W.handedIn v=true) (h:Q v { s with toks:=s.toks+1 }) :
  wpAny (model prog w) A (getAttr (.ref x) name expr) Q E s:=by
 obtain⟨od,J,hl⟩:=I.look;exact PySem.W.get_value X J (WT hg).1 (PySem.W.findObj_own hh ha rfl (by rw[hl,hv])) hv' h
theorem xh7 {pl:Sem Bool}{Q:Value×List Value->Shared->Prop}(X:K.In s.heap) (I:ObjM s.heap x dx C mA) (hg:PySem.W.plainGet K C name=true)
  (hf:PySem.W.findIn K (.ref C) name=some (some (.ref f))) (ht:PySem.W.isFn K (.ref f)=true) (hv:mA name=none) (h:Q (.ref f,[.ref x]) s) :
  wpAny (model prog w) A (getMethod (.ref x) name pl) Q E s:=by
 obtain⟨od,J,hl⟩:=I.look;exact PySem.W.method_fn X J (WT hg).1 (WT hg).2 hf (YG.mp ht) (by show (PySem.W.lookIn name od).map (·.isSome)=some false;rw[hl,hv];rfl) h
theorem xu6 {ns:List Str}{Q:Unit->Shared->Prop}(X:K.In s.heap) (I:ObjM s.heap x dx C mA)
  (hs:PySem.W.findIn K (.ref C) "__setattr__" = some (some (.builtin "object.__setattr__"))) (hp:PySem.W.plainOver K C=true) (ht:PySem.W.takerIn K C name=some none) (hh:PySem.W.hasDictIn K C=true)
  (hw:PySem.Within mA ns) (hsz:ns.length<=sizeLine)
  (h:∀h',ObjM h' x dx C (λy=>if y=name then some v else mA y)->Heap.SameBut dx s.heap h'->Q () { s with heap:=h',toks:=s.toks+2 }) :
  wpAny (model prog w) A (setAttr (.ref x) name v) Q E s:=by
 obtain⟨od,J,hl⟩:=I.look;refine PySem.W.set_plain X J hs (PySem.W.osa_open (s:={ s with toks:=s.toks+1 }) (r:=none) X J hp ht λb=>?_);obtain⟨cd,hc,hd'⟩:=PySem.W.any_some hh;have hx:s.heap.get? x=some ⟨.ref C,some dx,.plain,#[]⟩:=I.obj;refine Za (Zm (Za (Za (wpAny_loadPart hx (Za (PySem.W.Looks.here (s:={ s with toks:=s.toks+1 }) (PySem.W.looks_clsIn X hc) ?_))))));rw[hd'];refine Zm (a:=some dx) (Za (Zm (Za ?_)));refine wpAny_nsSet1 (s:={ s with toks:=s.toks+1 }) I.ns λh' hn2 hs2=>?_;obtain⟨oD,esD,epD,hoD,hdD,hcD⟩:=hn2.count (PySem.Within.cons name v hw);refine Za (wpAny_lookBehind hoD (by rw[hdD];exact pastItsLine_dict (ZK hcD (by rw[ZQ];lia))) ?_);exact Zm (h _ ⟨(hs2.2 _ (Yn I.ne)).trans I.obj,hn2,I.ne⟩ hs2)
theorem xh8 {R:Result->Shared->Prop}{vs:List Value}{kw:List (Str×Value)}(X:K.In s.heap) (hm:PySem.W.makesIn K C=true)
  (hi:PySem.W.findIn K (.ref C) "__init__" = some (some (.ref f))) (hf:PySem.W.typeIn K (.ref f)=some (.type "function"))
  (h:codeAny (model prog w) (A.under (.builtin "type.__call__" ⟨.ref C::vs,kw⟩)) (.call (.ref f) ⟨.ref (s.heap.objs.size+1)::vs,kw⟩) (PySem.W.InitBack (s.heap.objs.size+1) R)
   { s with heap:=(s.heap.push PySem.W.emptyDict).push (PySem.W.instObj C s.heap.objs.size) }) :
  codeAny (model prog w) A (.call (.ref C) ⟨vs,kw⟩) R s:=by
 obtain⟨hh,g,d,t,os⟩:=s;exact PySem.W.make_core (PySem.W.makes_of X hm) (PySem.W.looks_findIn X hi) (λself=>PySem.W.bind_fn X self hf) (.inl rfl) h
end
def putF (f:Str) (v:V):List (Str×V)->List (Str×V)
 |[]=>[(f,v)]
 |(g,x)::r=>if g=f then (g,v)::r else (g,x)::putF f v r
theorem qg9 (f g:Str) (v:V):∀fs:List (Str×V),(putF f v fs).lookup g=if g=f then some v else fs.lookup g
 |[]=>by
  show List.lookup g [(f,v)]=_;by_cases h:g=f
  ·have hb:(g==f)=true:=YG.mpr h;simp only[List.lookup,hb,Zr h]
  ·have hb:(g==f)=false:=Yk.mpr h;simp only[List.lookup,hb,Zo h]
 |(k,x)::r=>by
  have ih:=qg9 f g v r;rw[show putF f v ((k,x)::r)=(if k=f then (k,v)::r else (k,x)::putF f v r) from rfl];by_cases hk:k=f
  ·rw[Zr hk];by_cases h:g=k
   ·have hb:(g==k)=true:=YG.mpr h;simp only[List.lookup,hb,Zr (h.trans hk)]
   ·have hb:(g==k)=false:=Yk.mpr h;simp only[List.lookup,hb,Zo (λe:g=f=>h (e.trans hk.symm))]
  ·rw[Zo hk];by_cases h:g=k
   ·have hb:(g==k)=true:=YG.mpr h;simp only[List.lookup,hb,Zo (λe:g=f=>hk (h.symm.trans e))]
   ·have hb:(g==k)=false:=Yk.mpr h;simp only[List.lookup,hb];exact ih
theorem qy8 (f:Str) (v:V):∀fs:List (Str×V),f∈(putF f v fs).map (·.1)/\∀g,g∈fs.map (·.1)->g∈(putF f v fs).map (·.1)
 |[]=>⟨by simp[putF],λg h=>by simp at h⟩
 |(k,x)::r=>by
  obtain⟨i1,i2⟩:=qy8 f v r;rw[show putF f v ((k,x)::r)=(if k=f then (k,v)::r else (k,x)::putF f v r) from rfl];by_cases hk:k=f
  ·rw[Zr hk];subst hk;exact⟨by simp,λg h=>by simpa using h⟩
  ·rw[Zo hk];refine⟨?_,λg h=>?_⟩
   ·rw[ZH];exact Zs _ i1
   ·rw[ZH] at h ⊢;rcases Zy.mp h with e|e
    ·exact Zy.mpr (.inl e)
    ·exact Zs _ (i2 g e)
theorem qy9 (f:Str) (v:V):∀fs:List (Str×V),(putF f v fs).length<=fs.length+1
 |[]=>by simp[putF]
 |(k,x)::r=>by
  have ih:=qy9 f v r;rw[show putF f v ((k,x)::r)=(if k=f then (k,v)::r else (k,x)::putF f v r) from rfl];by_cases hk:k=f
  ·rw[Zr hk,ZQ,ZQ];lia
  ·rw[Zo hk,ZQ,ZQ];lia
theorem RelO.some_of {v:V}{o:Option Value}(r:RelO (some v) o):∃u,o=some u/\RelV v u:=by
 cases o with
 |none=>exact (show False from r).elim
 |some u=>exact⟨u,rfl,r⟩
theorem RelO.none_of {o:Option Value}(r:RelO none o):o=none:=by
 cases o with
 |none=>rfl
 |some u=>exact (show False from r).elim
theorem q64 {v:V}{u:Value}(r:RelV v u):PySem.W.handedIn u=true:=by
 cases v with
 |non=>cases (show u=Value.none from r);rfl
 |bl b=>cases (show u=Value.bool b from r);rfl
 |int i=>obtain⟨t,e⟩:=(show ∃t,u=Value.int i t from r);cases e;rfl
 |str x=>obtain⟨t,e⟩:=(show ∃t,u=Value.str x t from r);cases e;rfl
 |byt b=>obtain⟨t,e⟩:=(show ∃t,u=Value.bytes b t from r);cases e;rfl
 |flt b=>obtain⟨t,e⟩:=(show ∃t,u=Value.float b t from r);cases e;rfl
 |ref a=>cases (show u=Value.ref a from r);rfl
 |ty n=>cases (show u=Value.type n from r);rfl
section
variable {P:Program}{w:World}{H H':Hp}{h h':Heap}{a C dx:Addr}{fs fs':List (Str×V)}
theorem qF1 (hok:HOk P w H h) (e:H a=some (.ins C dx fs)):∃mA,ObjM h a dx C mA/\(∀f,RelO (fs.lookup f) (mA f))/\PySem.Within mA (fs.map (·.1))/\fs.length<=1000/\H dx=some (.own a):=by
 obtain⟨d,z,ne,ob,mA,n,r,q⟩:=(show ObjOk P w H h a (.ins C dx fs) from hok a _ e);exact⟨mA,⟨ob,n,ne⟩,r,q,z,d⟩
end
structure Cls (K:PySem.W.Frag) (C:Addr):Prop where
 pg:PySem.W.plainGet K C Str.empty=true
 hd:PySem.W.hasDictIn K C=true
 po:PySem.W.plainOver K C=true
 sa:PySem.W.findIn K (.ref C) "__setattr__" = some (some (.builtin "object.__setattr__"))
theorem Cls.get {K:PySem.W.Frag}{C:Addr}(c:Cls K C) (f:Str):PySem.W.plainGet K C f=true:=c.pg
def NoAttr (K:PySem.W.Frag) (C:Addr) (f:Str):Prop:=PySem.W.findIn K (.ref C) f=some none
theorem NoAttr.taker {K:PySem.W.Frag}{C:Addr}{f:Str}(n:NoAttr K C f):PySem.W.takerIn K C f=some none:=by
 unfold PySem.W.takerIn;rw[show PySem.W.findIn K (.ref C) f=some none from n]
 rfl
structure Meth (K:PySem.W.Frag) (C:Addr) (m:Str) (f:Addr):Prop where
 at_:PySem.W.findIn K (.ref C) m=some (some (.ref f))
 fn:PySem.W.isFn K (.ref f)=true
 kp:PySem.W.keepIn K (.ref f)=true
section
variable {X:Cx}{j8:List (Addr×Obj)}{σ:St}{H:Hp}{s:Shared}{a C dx:Addr}{fs:List (Str×V)}{f:Str}{v:V}{A:Around}{E:Value->Shared->Prop}
theorem q03 {b:Bool}{Q:Value->Shared->Prop}(I:Inv X j8 σ H s) (e:H a=some (.ins C dx fs)) (c:Cls X.K C) (n:NoAttr X.K C f) (l:fs.lookup f=some v)
  (h:∀u s',Inv X j8 σ H s'->RelV v u->Q u s'):wpAny (model X.prog X.w) A (getAttr (.ref a) f b) Q E s:=by
 obtain⟨mA,O,r,_,_,_⟩:=qF1 I.hok e;obtain⟨u,hu,ru⟩:=RelO.some_of (v:=v) (o:=mA f) (by rw[<- l];exact r f);exact xu5 I.kIn O (c.get f) c.hd n hu (q64 ru) (h u _ (I.tok _) ru)
theorem q04 {m:Str}{g:Addr}{pl:Sem Bool}{Q:Value×List Value->Shared->Prop}(I:Inv X j8 σ H s) (e:H a=some (.ins C dx fs)) (c:Cls X.K C) (k:Meth X.K C m g) (l:fs.lookup m=none)
  (h:Q (.ref g,[.ref a]) s):wpAny (model X.prog X.w) A (getMethod (.ref a) m pl) Q E s:=by
 obtain⟨mA,O,r,_,_,_⟩:=qF1 I.hok e;have hn:mA m=none:=RelO.none_of (by rw[<- l];exact r m);exact xh7 I.kIn O (c.get m) k.at_ k.fn hn h
theorem q05 {y:V}{u:Value}{Q:Unit->Shared->Prop}(I:Inv X j8 σ H s) (e:H a=some (.ins C dx fs)) (c:Cls X.K C) (n:NoAttr X.K C f) (hl:fs.length<1000) (ry:RelV y u)
  (h:∀s',Inv X j8 σ (upd H a (.ins C dx (putF f y fs))) s'->Q () s'):wpAny (model X.prog X.w) A (setAttr (.ref a) f u) Q E s:=by
 obtain⟨mA,O,r,wi,_,ho⟩:=qF1 I.hok e;have hz:(fs.map (·.1)).length<=sizeLine:=by rw[Zb,XJ];lia
 refine xu6 I.kIn O c.sa c.po n.taker c.hd wi hz λh' O' sb=>h _ ?_;have hd:∃o,h'.get? dx=some o:=let ⟨o,_,_,e',_⟩:=O'.ns;⟨o,e'⟩;refine I.write (x:=a) (e:=dx) (by rw[e];exact True.intro) (.inr ho) (λb q hb z=>(sb.2 b hb).trans z) hd ?_;refine⟨by rw[qa6 O.ne];exact ho,?_,O.ne,O'.obj,_,O'.ns,λg=>?_,λg hg=>?_⟩
 ·have:=qy9 f y fs;lia
 ·show RelO ((putF f y fs).lookup g) (if g=f then some u else mA g);rw[qg9];by_cases q:g=f
  ·rw[Zr q,Zr q];exact ry
  ·rw[Zo q,Zo q];exact r g
 ·by_cases q:g=f
  ·rw[q];exact (qy8 f y fs).1
  ·refine (qy8 f y fs).2 g (wi g λz=>hg ?_);show (if g=f then some u else mA g)=none;rw[Zo q];exact z
theorem Inv.made (I:Inv X j8 σ H s):Inv X j8 σ (upd (upd H s.heap.objs.size (.own (s.heap.objs.size+1))) (s.heap.objs.size+1) (.ins C s.heap.objs.size []))
  { s with heap:=(s.heap.push PySem.W.emptyDict).push (PySem.W.instObj C s.heap.objs.size) }:=by
 have e1:(s.heap.push PySem.W.emptyDict).get? s.heap.objs.size=some PySem.W.emptyDict:=Zn s.heap rfl;have e2:((s.heap.push PySem.W.emptyDict).push (PySem.W.instObj C s.heap.objs.size)).get? (s.heap.objs.size+1)=some (PySem.W.instObj C s.heap.objs.size):=by
  have:=Zn (s.heap.push PySem.W.emptyDict) (o:=PySem.W.instObj C s.heap.objs.size) rfl
  rwa [Yi] at this
 have e3:(s.heap.push PySem.W.emptyDict).Ns s.heap.objs.size (λ_=>none):=⟨PySem.W.emptyDict,#[],_,e1,rfl,(λe he=>absurd he (by simp)),λ_=>rfl⟩;have I1:=I.laid (a:=s.heap.objs.size) (o:=.own (s.heap.objs.size+1)) (h':=s.heap.push PySem.W.emptyDict) (t':=s.toks) (λb u q=>Zc _ q) (Ze _) ⟨_,e1⟩;refine I1.laid (a:=s.heap.objs.size+1) (o:=.ins C s.heap.objs.size []) (t':=s.toks) (λb u q=>Zc _ q) (XV (Yi _ _)) ?_;have ne:s.heap.objs.size≠s.heap.objs.size+1:=Zz (XW _);refine⟨by rw[qa6 ne,qa2],ZN _,ne,e2,λ_=>none,(Heap.Ns1.of_empty e3).at λo q=>Zc _ q,λ_=>True.intro,λy hy=>absurd rfl hy⟩
theorem xu7 {prog:Program}{w:World}{env:Env}{e:Expr}{f:Str}{pos:Pos}{s:Shared}{Q:Value->Shared->Prop}(hb:attributeBase e f env (eval e env)=eval e env)
  (h:wpAny (model prog w) A (eval e env) (λo s₁=>wpAny (model prog w) A (getAttr o f true) Q E s₁) E s):wpAny (model prog w) A (eval (.Attribute e f pos) env) Q E s:=
 Attribute_any_ h (by rw[arm_eval_Attribute,hb])
end
def tFld (K:PySem.W.Frag) (ta:TE) (f:Str):TE:=λσ H Q=>ta σ H λx H1=>∃a C dx fs v,x=.ref a/\H1 a=some (.ins C dx fs)/\Cls K C/\NoAttr K C f/\fs.lookup f=some v/\Q v H1
def sFld (K:PySem.W.Frag) (ta tv:TE) (f:Str):TS:=λD σ H=>tv σ H λy H1=>ta σ H1 λx H2=>∃a C dx fs,x=.ref a/\H2 a=some (.ins C dx fs)/\Cls K C/\NoAttr K C f/\fs.length<1000 /\
 D.nx σ (upd H2 a (.ins C dx (putF f y fs)))
section
variable {X:Cx}{o e value:Expr}{f:Str}{pos pos' tpos:Pos}{ta tv:TE}
theorem qD2 (he:PE X e ta) (hb:attributeBase e f X.env (eval e X.env)=eval e X.env):PE X (.Attribute e f pos) (tFld X.K ta f):=by
 intro j8 s σ H Q I h;refine xu7 hb (thn (he j8 s σ H _ I h) λu s1 ⟨x,H1,I1,rx,a,C,dx,fs,v,ex,ea,c,n,l,q⟩=>?_);subst ex;obtain rfl:u=Value.ref a:=rx;exact q03 I1 ea c n l λu' s2 I2 ru=>⟨v,H1,I2,ru,q⟩
theorem xq5 (ha:PE X o ta) (hv:PE X value tv) (hs:swapsWith value (some (.Attribute o f pos')) pos.line X.env=pure false):PS X (.Assign [.Attribute o f pos'] value pos) (sFld X.K ta tv f):=by
 intro j8 s σ H D I h;refine plainObj_wpAny_Assign_Attribute (thn (hv j8 s σ H _ I h) λu s1 ⟨y,H1,I1,ry,q⟩=>thn (ha j8 s1 σ H1 _ I1 q) λov s2 ⟨x,H2,I2,rx,a,C,dx,fs,ex,ea,c,n,l,q2⟩=>?_) hs;subst ex;obtain rfl:ov=Value.ref a:=rx;exact q05 I2 ea c n l ry λs3 I3=>⟨σ,_,I3,q2⟩
end
section
variable {X:Cx}{j8:List (Addr×Obj)}{σ:St}{H:Hp}{s:Shared}{A:Around}{E:Value->Shared->Prop}{Q:Value->Shared->Prop}{c:Value}{b:Bool}
inductive TyOf (K:PySem.W.Frag) (H:Hp):V->Value->Prop where
 |non:TyOf K H .non (.type "NoneType")
 |bl (x:Bool):TyOf K H (.bl x) (.type "bool")
 |int (i:Int):TyOf K H (.int i) (.type "int")
 |str (x:Str):TyOf K H (.str x) (.type "str")
 |flt (x:UInt64):TyOf K H (.flt x) (.type "float")
 |lst {a:Addr}{xs:List V}(e:H a=some (.lst xs)):TyOf K H (.ref a) (.type "list")
 |frz {a:Addr}{o:Obj}{xs:List V}(e:H a=some (.frz o (.lst xs))):TyOf K H (.ref a) (.type "list")
 |tup {a:Addr}{xs:List V}(e:H a=some (.tup xs)):TyOf K H (.ref a) (.type "tuple")
 |dK {a:Addr}{kvs:List (Key×V)}(e:H a=some (.dK kvs)):TyOf K H (.ref a) (.type "dict")
 |dT {a:Addr}{kvs:List (List Key×V)}(e:H a=some (.dT kvs)):TyOf K H (.ref a) (.type "dict")
 |ins {a C dx:Addr}{fs:List (Str×V)}(e:H a=some (.ins C dx fs)) (cl:Cls K C) (ha:PySem.W.findIn K (.ref C) "__class__" = some (some (.builtin "object.__class__")))
   (hn:PySem.W.specialIn K (.builtin "object.__class__") "__get__" = some (some (.builtin "getset_descriptor.__get__"))) (htk:PySem.W.takesIn K (.builtin "object.__class__")=some true)
   (hm:PySem.W.mroIn K C (.type "object")=some true):TyOf K H (.ref a) (.ref C)
theorem q65 {x:V}{u t:Value}(I:Inv X j8 σ H s) (rx:RelV x u) (ty:TyOf X.K H x t) (e:PySem.W.kitOne X.K t c=some b) (h:∀tk,Q (.bool b) { s with toks:=tk }) :
  wpAny (model X.prog X.w) A (call (.builtin "isinstance") [u,c]) Q E s:=by
 cases ty with
 |non=>cases (show u=Value.none from rx);exact Ys PySem.W.kitx_none I.kIn True.intro e (λz=>nomatch z) h
 |bl y=>cases (show u=Value.bool y from rx);exact Ys PySem.W.kitx_bool I.kIn True.intro e (λz=>nomatch z) h
 |int i=>obtain⟨t,q⟩:=(show ∃t,u=Value.int i t from rx);cases q;exact Ys PySem.W.kitx_int I.kIn True.intro e (λz=>nomatch z) h
 |str y=>obtain⟨t,q⟩:=(show ∃t,u=Value.str y t from rx);cases q;exact Ys PySem.W.kitx_str I.kIn True.intro e (λz=>nomatch z) h
 |flt y=>obtain⟨t,q⟩:=(show ∃t,u=Value.float y t from rx);cases q;exact Ys PySem.W.kitx_float I.kIn True.intro e (λz=>nomatch z) h
 |@lst a xs ea=>
  cases (show u=Value.ref a from rx);obtain⟨_,_,n,_,h1⟩:=(show ObjOk X.prog X.w H s.heap a (.lst xs) from I.hok a _ ea);exact Ys PySem.W.kitx_list I.kIn ⟨_,h1,rfl⟩ e (λz=>nomatch z) h
 |@frz a ob xs ea=>
  cases (show u=Value.ref a from rx);obtain⟨_,_,_,n,_,h1⟩:=(show ObjOk X.prog X.w H s.heap a (.frz ob (.lst xs)) from I.hok a _ ea);exact Ys PySem.W.kitx_list I.kIn ⟨_,h1,rfl⟩ e (λz=>nomatch z) h
 |@tup a xs ea=>
  cases (show u=Value.ref a from rx);obtain⟨_,_,_,p⟩:=(show ObjOk X.prog X.w H s.heap a (.tup xs) from I.hok a _ ea);obtain⟨o,h1,h2,_⟩:=p;exact Ys PySem.W.kitx_tuple I.kIn ⟨o,h1,h2⟩ e (λz=>nomatch z) h
 |@dK a kvs ea=>
  cases (show u=Value.ref a from rx);obtain⟨_,_,vs,_,p⟩:=(show ObjOk X.prog X.w H s.heap a (.dK kvs) from I.hok a _ ea);obtain⟨o,es,ep,h1,h2,_⟩:=p;exact Ys PySem.W.kitx_dict I.kIn ⟨o,h1,h2.1⟩ e (λz=>nomatch z) h
 |@dT a kvs ea=>
  cases (show u=Value.ref a from rx);obtain⟨_,_,xs,_,o,es,ep,h1,h2,_⟩:=(show ObjOk X.prog X.w H s.heap a (.dT kvs) from I.hok a _ ea);exact Ys PySem.W.kitx_dict I.kIn ⟨o,h1,h2.1⟩ e (λz=>nomatch z) h
 |@ins a C dx fs ea cl ha hn htk hm=>
  cases (show u=Value.ref a from rx);obtain⟨mA,O,_⟩:=qF1 I.hok ea;obtain⟨od,J,_⟩:=O.look;exact Ys (PySem.W.kitx_own (cl.get _) cl.hd ha hn htk hm) I.kIn J e (λz=>nomatch z) h
end
structure Room (k:Nat) (A:Around):Prop where
 hd:A.handled=none
 dp:A.depth+3*k+5<recursionLimit
 un:A.units+16*k+200<cLine
 gd:A.guards=some []
theorem Room.mono {j k:Nat}{A:Around}(r:Room k A) (h:j<=k):Room j A:=⟨r.hd,by have:=r.dp;lia,by have:=r.un;lia,r.gd⟩
theorem Room.deeper {k:Nat}{A:Around}(r:Room (k+1) A) (env:Env):Room k (A.deeper env):=
 ⟨r.hd,by have:=r.dp;show A.depth+1+3*k+5<_;lia,by have:=r.un;show A.units+3+16*k+200<_;lia,r.gd⟩
theorem q06 {A:Around}{C:Addr}{us:List Value}{kw:List (Str×Value)}:(A.under (.builtin "type.__call__" ⟨.ref C::us,kw⟩)).depth=A.depth+1:=by
 first|rfl|simp[Around.under,Code.weight,Code.isCreation,Code.isGuard,Code.isCaller,Code.frames,Code.isFrame,guardIds]
theorem q07 {A:Around}{C:Addr}{us:List Value}{kw:List (Str×Value)}:(A.under (.builtin "type.__call__" ⟨.ref C::us,kw⟩)).units=A.units+1:=by
 first|rfl|simp[Around.under,Code.cUnits,Code.frames,Code.isFrame]
theorem qQ1 {A:Around}{C:Addr}{us:List Value}{kw:List (Str×Value)}:(A.under (.builtin "type.__call__" ⟨.ref C::us,kw⟩)).guards=A.guards:=by
 first|rfl|(unfold Around.under;simp[Code.guards,Code.isGuard,guardIds,pushGuards])|(cases h:A.guards<;>simp[Around.under,Code.guards,Code.isGuard,guardIds,pushGuards,h])
theorem Room.make {k:Nat}{A:Around}(r:Room (k+1) A) (C:Addr) (us:List Value) (kw:List (Str×Value)):Room k (A.under (.builtin "type.__call__" ⟨.ref C::us,kw⟩)):=
 ⟨r.hd,by have:=r.dp;rw[q06];lia,by have:=r.un;rw[q07];lia,by rw[qQ1];exact r.gd⟩
theorem Room.depth {k:Nat}{A:Around}(r:Room k A):A.depth<recursionLimit:=by have:=r.dp;lia
theorem Room.units {k:Nat}{A:Around}(r:Room k A):A.units+64<cLine:=by have:=r.un;lia
def tNil:TA:=λ_ H Q=>Q [] H
def qz0 (ta:TE) (tr:TA):TA:=λσ H Q=>ta σ H λx H1=>tr σ H1 λxs H2=>Q (x::xs) H2
section
variable {X:Cx}{e:Expr}{es:List Expr}{te:TE}{t:TA}{pos:Pos}
theorem qa1:PA X [] tNil:=λ_ _ _ _ H Q I h=>Calls.spliced_nil ⟨[],H,I,.nil,h⟩
theorem qa0 (ha:PE X e te) (hr:PA X es t) (hs:starEach (e::es) X.env=(false,eval e X.env)::starEach es X.env:=by rfl):PA X (e::es) (qz0 te t):=by
 intro pos j8 s σ H Q I h;rw[hs];show wpAny _ _ (spliced ((false,eval e X.env)::backTo pos (starEach es X.env))) _ _ s;refine Calls.spliced_cons (thn (ha j8 s σ H _ I h) λu s1 ⟨x,H1,I1,r1,q1⟩=>?_);exact thn (hr pos j8 s1 σ H1 _ I1 q1) λus s2 ⟨xs,H2,I2,r2,q2⟩=>⟨x::xs,H2,I2,.cons r1 r2,q2⟩
def tTup (t:TA):TE:=λσ H Q=>t σ H λxs H1=>xs.length<=sizeLine/\∀p,H1 p=none->Q (.ref p) (upd H1 p (.tup xs))
def tLst (t:TA):TE:=λσ H Q=>t σ H λxs H1=>xs.length<=sizeLine/\∀p,H1 p=none->Q (.ref p) (upd H1 p (.lst xs))
theorem qf0 {x1} (h:PA X es t):PE X (.Tuple es x1 pos) (tTup t):=by
 intro j8 s σ H Q I hq;refine wpAny_Tuple_spliced (thn (h pos j8 s σ H _ I hq) λus s1 ⟨xs,H1,I1,r,z,q⟩=>⟨by rw[<- r.length];exact z,?_⟩);have hf:H1 s1.heap.objs.size=none:=I1.hok.fresh (Ze _);refine⟨.ref s1.heap.objs.size,upd H1 s1.heap.objs.size (.tup xs),I1.laid (t':=s1.toks) (λb u e=>Zc _ e) (Ze _) ?_,rfl,q _ hf⟩;exact⟨z,us,r,⟨_,Zn _ rfl,rfl,⟨_,rfl⟩,rfl⟩⟩
theorem qd1 (h:PA X es t):PE X (.List es pos) (tLst t):=by
 intro j8 s σ H Q I hq;refine wpAny_List_spliced (thn (h pos j8 s σ H _ I hq) λus s1 ⟨xs,H1,I1,r,z,q⟩=>⟨by rw[<- r.length];exact z,?_⟩);have hf:H1 s1.heap.objs.size=none:=I1.hok.fresh (Ze _);refine⟨.ref s1.heap.objs.size,upd H1 s1.heap.objs.size (.lst xs),I1.laid (t':=s1.toks) (λb u e=>Zc _ e) (Ze _) ?_,rfl,q _ hf⟩;exact⟨z,us,0,r,Zn _ rfl⟩
end
abbrev Sp:=List V->Hp->VK->XK->Prop
abbrev CXT:=List Env->Hp->Shared->XK->Value->Shared->Prop
structure Env0 (P:Program) (w:World) (K:PySem.W.Frag) (mg:Str->Option Value) (base:Heap) (A:Around) (outer:List Env) (s:Shared) (H:Hp):Prop where
 frames:A.frames=some outer
 mod:Mod K mg base
 bs:∀b o,base.get? b=some o->s.heap.get? b=some o/\H b=none
 bsz:base.objs.size<=s.heap.objs.size
 funs:s.heap.FunFrames base outer
 frf:∀b∈frs outer,H b=none
 hok:HOk P w H s.heap
 bare:AllBare s.gens
def CE (outer:List Env) (P:Program) (w:World) (H:Hp) (s:Shared) (Q:VK) (u:Value) (s':Shared):Prop:=
 ∃v H',s'.os=s.os/\AllBare s'.gens/\Un (frs outer) [] H H' s.heap s'.heap/\HOk P w H' s'.heap/\RelV v u/\Q v H'
def CR (CX:CXT) (outer:List Env) (P:Program) (w:World) (H:Hp) (s:Shared) (Q:VK) (E:XK) (r:Result) (s':Shared):Prop:=
 match r with
 |.ok (.ret u)=>CE outer P w H s Q u s'
 |.ok _=>False
 |.error e=>CX outer H s E e s'
structure FnOk (P:Program) (w:World) (K:PySem.W.Frag) (mg:Str->Option Value) (base:Heap) (CX:CXT) (k:Nat) (f:Addr) (fd:FuncData) (ps:List Str) (sp:Sp):Prop where
 len:∀vs H Q E,sp vs H Q E->vs.length=ps.length
 run:∀(A:Around) (outer:List Env) (s:Shared) (H:Hp) (args:Args) (us:List Value) (vs:List V) (Q:VK) (E:XK),Room k A->Env0 P w K mg base A outer s H->BindsTo s fd args (ps.zip us)->Vals vs us->sp vs H Q E ->
  codeAny (model P w) A (.call (.ref f) args) (CR CX outer P w H s Q E) s
theorem FnOk.imp {P:Program}{w:World}{K:PySem.W.Frag}{mg:Str->Option Value}{base:Heap}{CX:CXT}{k:Nat}{f:Addr}{fd:FuncData}{ps:List Str}{sp sp':Sp}(F:FnOk P w K mg base CX k f fd ps sp)
  (h:∀vs H Q E,sp' vs H Q E->sp vs H Q E):FnOk P w K mg base CX k f fd ps sp':=
 ⟨λvs H Q E q=>F.len vs H Q E (h _ _ _ _ q),λA outer s H args us vs Q E hr he hb hv hs=>F.run A outer s H args us vs Q E hr he hb hv (h _ _ _ _ hs)⟩
theorem Env0.make {P:Program}{w:World}{K:PySem.W.Frag}{mg:Str->Option Value}{base:Heap}{A:Around}{outer:List Env}{s:Shared}{H:Hp}(e:Env0 P w K mg base A outer s H) (C:Addr) (us:List Value) (kw:List (Str×Value)) :
  Env0 P w K mg base (A.under (.builtin "type.__call__" ⟨.ref C::us,kw⟩)) outer s H:=⟨by first|exact e.frames|(simpa [Around.under,Code.envs,Code.isFrame,pushEnvs] using e.frames),e.mod,e.bs,e.bsz,e.funs,e.frf,e.hok,e.bare⟩
section
variable {X:Cx}{j8:List (Addr×Obj)}{σ:St}{H:Hp}{s s':Shared}
theorem Inv.env0 (I:Inv X j8 σ H s):Env0 X.prog X.w X.K X.mg X.base X.A X.stack s H:=
 ⟨I.ok.frames,I.ok.mod,I.bs,ZK I.ok.bsz I.sz,I.stack,I.stkFree,I.hok,I.bare⟩
theorem Inv.after {Q:VK}{u:Value}(I:Inv X j8 σ H s) (h:CE X.stack X.prog X.w H s Q u s'):EP X j8 σ Q u s':=by
 obtain⟨v,H',os,bare,un,hok,r,q⟩:=h;obtain⟨hh,g,d,t,os'⟩:=s';obtain rfl:os'=s.os:=os;exact⟨v,H',I.call (h':=hh) (g':=g) (d':=d) (t':=t) (ch:=[]) un hok bare (λb z=>absurd z (by simp)),r,q⟩
end
def xC5 (sp:Sp) (dvs:List V) (E:XK) (t:TA):TE:=λσ H Q=>t σ H λvs H1=>sp (vs++dvs) H1 Q E
def xJ6 (C:Addr) (m:Str) (sp:Sp) (dvs:List V) (E:XK) (ta:TE) (t:TA):TE:=λσ H Q=>ta σ H λx H1=>∃a dx fs,x=.ref a/\H1 a=some (.ins C dx fs)/\fs.lookup m=none /\
 t σ H1 λvs H2=>sp (x::(vs++dvs)) H2 Q E
def xJ7 (C:Addr) (sp:Sp) (dvs:List V) (E:XK) (t:TA):TE:=λσ H Q=>t σ H λvs H1=>∀x dx,H1 x=none->H1 dx=none->dx≠x ->
 sp (.ref x::(vs++dvs)) (upd (upd H1 dx (.own x)) x (.ins C dx [])) (λv H2=>v=.non/\Q (.ref x) H2) E
def Binds (K:PySem.W.Frag) (fd:FuncData) (ps:List Str) (ds:List Value):Prop:=
 ∀(s:Shared) (us:List Value),K.In s.heap->(us++ds).length=ps.length->BindsTo s fd ⟨us,[]⟩ (ps.zip (us++ds))
theorem Binds.all {K:PySem.W.Frag}{fd:FuncData}{ps:List Str}(h:∀us:List Value,us.length=ps.length->bindArgs fd ⟨us,[]⟩=pure (ps.zip us)):Binds K fd ps []:=λs us _ hl=>by
 rw[YK] at hl ⊢;exact .of_eq (h us hl)
def qv9 (CX:CXT) (X:Cx) (E:XK):Prop:=∀(j8:List (Addr×Obj)) (σ:St) (H:Hp) (s:Shared) (e:Value) (s':Shared),Inv X j8 σ H s->CX X.stack H s E e s'->X.xe e s'
section
variable {X:Cx}{CX:CXT}{k:Nat}{f C:Addr}{fd:FuncData}{ps:List Str}{sp:Sp}{dvs:List V}{ds:List Value}{E:XK}{x m:Str}{p pos apos:Pos}{e o:Expr}{es:List Expr}{ta:TE}{t:TA}
theorem xq6 {j8:List (Addr×Obj)}{σ:St}{H:Hp}{s:Shared}{Q:VK}{us:List Value}{vs:List V}(F:FnOk X.prog X.w X.K X.mg X.base CX k f fd ps sp) (hr:Room k X.A) (hb:Binds X.K fd ps ds) (hd:Vals dvs ds) (hx:qv9 CX X E)
  (I:Inv X j8 σ H s) (r:Vals vs us) (h:sp (vs++dvs) H Q E):wpAny (model X.prog X.w) X.A (call (.ref f) us) (EP X j8 σ Q) X.xe s:=by
 have r2:Vals (vs++dvs) (us++ds):=r.append hd;have hl:(us++ds).length=ps.length:=by rw[<- r2.length];exact F.len _ _ _ _ h
 refine wpAny_call (Ws (F.run X.A X.stack s H ⟨us,[]⟩ (us++ds) (vs++dvs) Q E hr I.env0 (hb s us I.kIn hl) r2 h) λr s' hq=>?_);cases r with
 |error e=>exact hx j8 σ H s e s' I hq
 |ok fl=>
  cases fl with
  |ret u=>exact I.after hq
  |next=>exact False.elim hq
  |brk=>exact False.elim hq
  |cont=>exact False.elim hq
theorem qq1 (F:FnOk X.prog X.w X.K X.mg X.base CX k f fd ps sp) (hr:Room k X.A) (hg:Gl X x) (hm:X.mg x=some (.ref f)) (hk:PySem.W.keepIn X.K (.ref f)=true) (hb:Binds X.K fd ps ds) (hd:Vals dvs ds) (hx:qv9 CX X E)
  (ha:PA X (e::es) t) (vB:(x==("__debug__" : Str))=false:=by decide) (he:starEach (e::es) X.env=(false,eval e X.env)::starEach es X.env:=by rfl) (jQ:(backTo pos (starEach es X.env)).any (·.1)=false:=by rfl) :
  PE X (.Call (.Name x p) (e::es) [] pos) (xC5 sp dvs E t):=by
 intro j8 s σ H Q I h;refine Xr (qu2 I hg hm ?_ vB);refine WZ (h₀:=X.base) I.ok.mod.kin hk (thn (ha pos j8 s σ H _ I h) λus s1 ⟨vs,H1,I1,r,q⟩=>⟨I1.kIn,?_⟩) he jQ;exact xq6 F hr hb hd hx I1 r q
theorem q66 {pl:Sem Bool}(he:PE X o ta) (c:Cls X.K C) (hm:Meth X.K C m f) (F:FnOk X.prog X.w X.K X.mg X.base CX k f fd ps sp) (hr:Room k X.A) (hb:Binds X.K fd ps ds) (hd:Vals dvs ds) (hx:qv9 CX X E) (ha:PA X (e::es) t)
  (jT:starEach (e::es) X.env=(false,eval e X.env)::starEach es X.env:=by rfl) (jQ:(backTo pos (starEach es X.env)).any (·.1)=false:=by rfl)
  (ht:eval (.Call (.Attribute o m apos) (e::es) [] pos) X.env=(do
   let ov <- eval o X.env
   standAt apos.atName
   let (f,first) <- holding [ov] (getMethod ov m pl)
   callWith pos f first (backTo pos (starEach (e::es) X.env)) (backToKw pos (keywordEach [] X.env))):=by rfl) :
  PE X (.Call (.Attribute o m apos) (e::es) [] pos) (xJ6 C m sp dvs E ta t):=by
 intro j8 s σ H Q I h;refine PySem.W.methodCall_KW (pl:=pl) (thn (he j8 s σ H _ I h) λu s1 ⟨x,H1,I1,rx,a,dx,fs,ex,ea,l,q⟩=>?_) ht;subst ex;obtain rfl:u=Value.ref a:=rx;refine q04 I1 ea c hm l ?_;refine WZ (first:=[.ref a]) (h₀:=X.base) I.ok.mod.kin hm.kp (thn (ha pos j8 s1 σ H1 _ I1 q) λus s2 ⟨vs,H2,I2,r,q2⟩=>⟨I2.kIn,?_⟩) jT jQ;exact xq6 (us:=.ref a::us) (vs:=.ref a::vs) F hr hb hd hx I2 (.cons rfl r) q2
structure Mk (K:PySem.W.Frag) (C f:Addr):Prop where
 makes:PySem.W.makesIn K C=true
 init:PySem.W.findIn K (.ref C) "__init__" = some (some (.ref f))
 fn:PySem.W.isFn K (.ref f)=true
 kp:PySem.W.keepIn K (.ref C)=true
theorem xh9 {j8:List (Addr×Obj)}{σ:St}{H:Hp}{s:Shared}{Q:VK}{us:List Value}{vs:List V}(M:Mk X.K C f) (F:FnOk X.prog X.w X.K X.mg X.base CX k f fd ps sp) (hr:Room (k+1) X.A) (hb:Binds X.K fd ps ds) (hd:Vals dvs ds)
  (hx:qv9 CX X E) (I:Inv X j8 σ H s) (r:Vals vs us)
  (h:∀x dx,H x=none->H dx=none->dx≠x->sp (.ref x::(vs++dvs)) (upd (upd H dx (.own x)) x (.ins C dx [])) (λv H2=>v=.non/\Q (.ref x) H2) E) :
  wpAny (model X.prog X.w) X.A (call (.ref C) us) (EP X j8 σ Q) X.xe s:=by
 have hq:=h (s.heap.objs.size+1) s.heap.objs.size (I.hok.fresh (Wm _)) (I.hok.fresh (Ze _)) (Zz (XW _));have I2:=Inv.made (C:=C) I;have r2:Vals (V.ref (s.heap.objs.size+1)::(vs++dvs)) (Value.ref (s.heap.objs.size+1)::(us++ds)):=.cons rfl (r.append hd);have hl:(Value.ref (s.heap.objs.size+1)::us++ds).length=ps.length:=by
  have e:=r2.length;rw[F.len _ _ _ _ hq] at e;exact e.symm
 refine wpAny_call (xh8 (f:=f) I.kIn M.makes M.init (YG.mp M.fn) (Ws (F.run _ X.stack _ _ ⟨Value.ref (s.heap.objs.size+1)::us,[]⟩ (Value.ref (s.heap.objs.size+1)::(us++ds)) _ _ E (hr.make C us [])
  (I2.env0.make C us []) (hb _ (Value.ref (s.heap.objs.size+1)::us) I2.kIn hl) r2 hq) λr s' hq'=>?_))
 cases r with
 |error e=>exact hx j8 σ _ _ e s' I2 hq'
 |ok fl=>
  cases fl with
  |ret u=>
   obtain⟨v,H',I3,rv,ev,q3⟩:=I2.after hq';subst ev;exact⟨rv,⟨V.ref (s.heap.objs.size+1),H',I3,rfl,q3⟩⟩
  |next=>exact False.elim hq'
  |brk=>exact False.elim hq'
  |cont=>exact False.elim hq'
theorem xi0 (M:Mk X.K C f) (F:FnOk X.prog X.w X.K X.mg X.base CX k f fd ps sp) (hr:Room (k+1) X.A) (hg:Gl X x) (hm:X.mg x=some (.ref C)) (hb:Binds X.K fd ps ds) (hd:Vals dvs ds) (hx:qv9 CX X E)
  (vB:(x==("__debug__" : Str))=false:=by decide):PE X (.Call (.Name x p) [] [] pos) (xJ7 C sp dvs E tNil):=by
 intro j8 s σ H Q I h;refine Xr (qu2 I hg hm ?_ vB);exact PySem.W.callWith_K0 I.kIn M.kp (xh9 (us:=[]) M F hr hb hd hx I .nil h)
end
section
variable {X:Cx}{CX:CXT}{k:Nat}{f C:Addr}{fd:FuncData}{ps ks:List Str}{sp:Sp}{E:XK}{x m:Str}{p pos apos kpos:Pos}{e o:Expr}{es:List Expr}{kws:List Keyword}{te ta:TE}{t tk:TA}{nm:Option Str}
variable {g:List Value->List Value->List Value}{gV:List V->List V->List V}
end
structure FnScope (N P:List Str) (sc:Scope):Prop where
 kind:sc.kind=.function
 co:sc.isCoroutine=false
 gen:sc.isGenerator=false
 nd:N.Nodup
 pre:N.take P.length=P
 par:∀x∈P,sc.names.lookup x=some .local\/sc.names.lookup x=some .cell
 nofree:∀y∈sc.names,y.2≠.free
theorem qJ8 {kindOf:Str->Option NameKind}{x:Str}:∀{binds:List (Str×Value)}{m:Str->Option Value},(∀v,(x,v)∉binds)->bindL kindOf binds m x=m x
 |[],_,_=>rfl
 |(n,v)::r,m,h=>by
  unfold bindL;rw[qJ8 λw hw=>h w (Zs _ hw)];split
  ·have:x≠n:=by rintro rfl;exact h v ZC
   simp[this]
  ·rfl
theorem qJ9 {kindOf:Str->Option NameKind}{x:Str}:∀{binds:List (Str×Value)}{m:Str->Option Value},(∀v,(x,v)∉binds)->bindC kindOf binds m x=m x
 |[],_,_=>rfl
 |(n,v)::r,m,h=>by
  unfold bindC;rw[qJ9 λw hw=>h w (Zs _ hw)];split
  ·rfl
  ·have:x≠n:=by rintro rfl;exact h v ZC
   simp[this]
theorem qz1 {kindOf:Str->Option NameKind}{x:Str}{v:Value}:∀{P:List Str}{vs:List Value}{i:Nat}{m:Str->Option Value},P.Nodup->P[i]?=some x->vs[i]?=some v->kindOf x=some .local ->
  bindL kindOf (P.zip vs) m x=some v
 |[],_,_,_,_,h,_,_=>by simp at h
 |_::_,[],_,_,_,_,h,_=>by simp at h
 |p::P,w::vs,0,m,nd,h1,h2,hk=>by
  simp at h1 h2;subst h1;subst h2;show bindL kindOf ((p,w)::P.zip vs) m p=_;unfold bindL;rw[qJ8 λv hv=>(Y0.mp nd).1 (WK hv).1,Zr hk];simp
 |p::P,w::vs,i+1,m,nd,h1,h2,hk=>by
  show bindL kindOf ((p,w)::P.zip vs) m x=_;unfold bindL;exact qz1 (i:=i) (Y0.mp nd).2 (by simpa using h1) (by simpa using h2) hk
theorem qz2 {kindOf:Str->Option NameKind}{x:Str}{v:Value}:∀{P:List Str}{vs:List Value}{i:Nat}{m:Str->Option Value},P.Nodup->P[i]?=some x->vs[i]?=some v->kindOf x≠some .local ->
  bindC kindOf (P.zip vs) m x=some v
 |[],_,_,_,_,h,_,_=>by simp at h
 |_::_,[],_,_,_,_,h,_=>by simp at h
 |p::P,w::vs,0,m,nd,h1,h2,hk=>by
  simp at h1 h2;subst h1;subst h2;show bindC kindOf ((p,w)::P.zip vs) m p=_;unfold bindC;rw[qJ9 λv hv=>(Y0.mp nd).1 (WK hv).1,Zo hk];simp
 |p::P,w::vs,i+1,m,nd,h1,h2,hk=>by
  show bindC kindOf ((p,w)::P.zip vs) m x=_;unfold bindC;exact qz2 (i:=i) (Y0.mp nd).2 (by simpa using h1) (by simpa using h2) hk
def qp6 (N:List Str) (vs:List V):St:=vs.map some++List.replicate (N.length-vs.length) none
def cxOf (CX:CXT) (P:Program) (w:World) (K:PySem.W.Frag) (mg:Str->Option Value) (base:Heap) (N:List Str) (qual:Str) (scope:Scope) (f:Addr) (cd:Value) (A:Around) (outer:List Env) (s:Shared) (H:Hp) (E:XK):Cx where
 prog:=P
 w:=w
 K:=K
 mg:=mg
 base:=base
 A:=A.deeper (envOfC qual scope s.heap.objs.size f cd)
 N:=N
 s₀:=s
 H₀:=H
 env:=envOfC qual scope s.heap.objs.size f cd
 outer:=outer
 stack:=envOfC qual scope s.heap.objs.size f cd::outer
 ex:=[]
 calm:=true
 fn:=λ_=>true
 pn:=[]
 xe:=λe s'=>wpAny (model P w) (A.deeper (envOfC qual scope s.heap.objs.size f cd)) (leaving (envOfC qual scope s.heap.objs.size f cd) e) (λ_ s''=>CX outer H s E e s'') (λe' s''=>CX outer H s E e' s'') s'
theorem qx1 {sc:Scope}{n:Nat}{x:Str}(h:sc.names.lookup x=some .cell):∃c,(cellsFrom n sc.names []).lookup x=some c:=by
 have q:=Wt sc.names n [] (.inl h);exact Xi.mp q
theorem q67 {CX:CXT}{P:Program}{w:World}{K:PySem.W.Frag}{mg:Str->Option Value}{base:Heap}{N ps:List Str}{qual:Str}{scope:Scope}{f:Addr}{cd:Value}{A:Around}{outer:List Env}{s s1:Shared}{H:Hp}{E:XK}{us:List Value}{vs:List V}
  (S:FnScope N ps scope) (hd:A.handled=none) (e0:Env0 P w K mg base A outer s H) (hl:vs.length=ps.length) (r:Vals vs us)
  (x:InCallC s s.heap.objs.size (bindL (envOfC qual scope s.heap.objs.size f cd).kindOf (ps.zip us) λ_=>none) (cellsFrom (s.heap.objs.size+1) scope.names []) (bindC (envOfC qual scope s.heap.objs.size f cd).kindOf (ps.zip us) λ_=>none) s1) :
  Inv (cxOf CX P w K mg base N qual scope f cd A outer s H E) [] (qp6 N vs) H s1:=by
 have jQ:ps.length<=N.length:=by have:=Yr List.length S.pre;rw[ZW] at this;lia
 obtain⟨h1,tk,rfl,hk⟩:=x.done;have noA:∀b:Addr,b∉(cxOf CX P w K mg base N qual scope f cd A outer s H E).ex:=λb z=>absurd (show b∈([]:List Addr) from z) (by simp);refine⟨⟨e0.mod,S.kind,rfl,rfl,Ze _,λy z c h1 h2=>?_,λy hy=>?_,λy c _ h=>?_,λ_=>hd,Around.frames_deeper e0.frames,.inr ⟨rfl,rfl⟩,λb z=>absurd z (noA b),e0.bs,e0.bsz,λb _ _=>noA b,λb z=>absurd z (noA b),e0.funs,e0.frf⟩,
  rfl,e0.bare,Un.kept hk,⟨_,x.toInCall.ns,λi y v h1 h2 h3=>?_⟩,λy c h=>⟨_,x.cell y c h⟩,e0.hok.fresh (Ze _),λy c h=>?_,λp hp=>absurd (show p∈([]:List (Addr×Obj)) from hp) (by simp),e0.hok.kept hk,?_⟩
 ·exact name_of_addr x.apart (Z9 h1) (Z9 h2)
 ·have hy:scope.names.lookup y=some .cell\/scope.names.lookup y=some .free:=hy;rcases hy with hy|hy
  ·exact qx1 hy
  ·exact absurd rfl (S.nofree _ (Z9 hy))
 ·exact ZX (x.above y c (Z9 h))
 ·have hi:i<vs.length:=by
   unfold qp6 at h2;by_cases hi:i<vs.length
   ·exact hi
   ·rw[Zh (by simpa using hi)] at h2;rw[Xo] at h2;split at h2<;>cases h2
  have ha:vs[i]?=some v:=by
   unfold qp6 at h2;rw[Zg (by simpa using hi),Zd] at h2;cases e:vs[i]? with
   |none=>rw[e] at h2;cases h2
   |some a=>rw[e] at h2;cases h2;rfl
  obtain⟨u,hu,rv⟩:=r.get ha;have hp:ps[i]?=some y:=by
   rw[<- S.pre,Yj (by lia)];exact h1
  have ndP:ps.Nodup:=by rw[<- S.pre];exact S.nd.sublist (List.take_sublist _ _)
  refine⟨u,rv,?_⟩;rcases S.par y (Zx hp) with k|k
  ·exact .inl ⟨k,qz1 ndP hp hu k⟩
  ·obtain⟨c,e⟩:=qx1 (n:=s.heap.objs.size+1) k;refine .inr ⟨.inl k,c,e,?_⟩;have q:=x.cell y c e;rw[qz2 ndP hp hu (by show scope.names.lookup y≠_;rw[k];decide)] at q;exact q
 ·exact e0.hok.fresh (ZX (x.above y c (Z9 h)))
 ·unfold qp6;show _=N.length;rw[Zj,Zb,XA];lia
theorem xC6 {CX:CXT}{P:Program}{w:World}{K:PySem.W.Frag}{mg:Str->Option Value}{base:Heap}{k:Nat}{f:Addr}{name qual:Str}{params:Arguments}{body:List Stmt}{scope:Scope}{dV kV doc pm cdv ct oc:Value}{an od:Option Addr}
  {osl:Array (Option Value)}{N ps:List Str}{sp:Sp}(lk:K.lookup f=some ⟨oc,od,.func (PySem.W.fnOf name qual params body scope dV kV doc pm an cdv ct),osl⟩) (kP:PySem.W.codeIn K cdv qual=true) (S:FnScope N ps scope)
  (len:∀vs H Q E,sp vs H Q E->vs.length=ps.length)
  (jZ:∀(A:Around) (outer:List Env) (s:Shared) (H:Hp) (vs:List V) (Q:VK) (E:XK),Room k (A.deeper (envOfC qual scope s.heap.objs.size f cdv))->sp vs H Q E ->
   ∃t,PSs (cxOf CX P w K mg base N qual scope f cdv A outer s H E) body t/\t { nx:=λ_ H'=>Q .non H',rt:=Q } (qp6 N vs) H) :
  FnOk P w K mg base CX (k+1) f (PySem.W.fnOf name qual params body scope dV kV doc pm an cdv ct) ps sp:=by
 refine⟨len,λA outer s H args us vs Q E hr e0 hb r kN=>?_⟩;have hl:=len _ _ _ _ kN;have KX:K.In s.heap:=e0.mod.kin.keeps λb o e=>(e0.bs b o e).1;have lim:s.heap.NoLimit:=e0.mod.nolimit.keeps λb o e=>(e0.bs b o e).1;have jD:∀y∈ps.zip us,scope.names.lookup y.1=some .local\/(scope.names.lookup y.1=some .cell/\((cellsFrom (s.heap.objs.size+1) scope.names []).lookup y.1).isSome=true):=λ⟨n,v⟩ hy=>by
  rcases S.par n (WK hy).1 with q|q
  ·exact .inl q
  ·exact .inr ⟨q,Wt _ _ _ (.inl q)⟩
 refine codeAny_call_function hr.depth (KX _ _ lk) rfl S.co S.gen rfl (PySem.W.codeRec_of KX kP) (hb _ _ _ _ ?_);refine wpAny_newFunctionEnv_cells S.kind jD λenv he s1 x=>?_;subst he;refine⟨lim.keeps x.toInCall.keep,codeAny_func ?_⟩;obtain⟨t,ht,hq⟩:=jZ A outer s H vs Q E (hr.deeper _) kN;have I:Inv (cxOf CX P w K mg base N qual scope f cdv A outer s H E) [] (qp6 N vs) H s1:=q67 S hr.hd e0 hl r x;refine Yq (ht [] s1 (qp6 N vs) H _ I hq) (λfl s' hs=>?_) λe s' hs=>hs;have fin:∀{σ':St}{H':Hp}{v:V}{u:Value},Inv (cxOf CX P w K mg base N qual scope f cdv A outer s H E) [] σ' H' s'->RelV v u->Q v H'->CE outer P w H s Q u s':=
  λ{σ' H' v u} J rv q=>⟨v,H',J.os,J.bare,J.base,J.hok,rv,q⟩
 cases fl with
 |ret u=>
  obtain⟨v,σ',H',J,rv,q⟩:=hs;exact fin J rv q
 |next=>
  obtain⟨σ',H',J,q⟩:=hs;exact fin (v:=V.non) (u:=Value.none) J rfl q
 |brk=>
  obtain⟨_,_,_,q⟩:=hs;exact False.elim q
 |cont=>
  obtain⟨_,_,_,q⟩:=hs;exact False.elim q
section
variable {X:Cx}{x:Str}{p pos:Pos}{e:Expr}{es:List Expr}{t:TA}{id T:String}{r:List V->Hp->VK->Prop}
def tCB (r:List V->Hp->VK->Prop) (t:TA):TE:=λσ H Q=>t σ H λvs H1=>r vs H1 Q
theorem qa7 (hc:qi3 X (.builtin id) r) (hg:Gl X x) (hm:X.mg x=none) (hv:bootBuiltins x=some (.builtin id)) (ha:PA X (e::es) t) (hn:x ≠ "__name__":=by decide) (vB:(x==("__debug__" : Str))=false:=by decide)
  (he:starEach (e::es) X.env=(false,eval e X.env)::starEach es X.env:=by rfl) (jQ:(backTo pos (starEach es X.env)).any (·.1)=false:=by rfl):PE X (.Call (.Name x p) (e::es) [] pos) (tCB r t):=by
 intro j8 s σ H Q I h;refine Xr (qC9 I hg hm hv ?_ hn vB);exact PyProof.Rows.callWith_builtin1 (thn (ha pos j8 s σ H _ I h) λus s1 ⟨vs,H1,I1,r1,q1⟩=>hc j8 s1 σ H1 vs us Q I1 r1 q1) he jQ
theorem qd5 (hc:qi3 X (.type T) r) (hg:Gl X x) (hm:X.mg x=none) (hv:bootBuiltins x=some (.type T)) (ha:PA X (e::es) t) (hn:x ≠ "__name__":=by decide) (vB:(x==("__debug__" : Str))=false:=by decide)
  (he:starEach (e::es) X.env=(false,eval e X.env)::starEach es X.env:=by rfl) (jQ:(backTo pos (starEach es X.env)).any (·.1)=false:=by rfl):PE X (.Call (.Name x p) (e::es) [] pos) (tCB r t):=by
 intro j8 s σ H Q I h;refine Xr (qC9 I hg hm hv ?_ hn vB);exact Y4 (thn (ha pos j8 s σ H _ I h) λus s1 ⟨vs,H1,I1,r1,q1⟩=>hc j8 s1 σ H1 vs us Q I1 r1 q1) he jQ
end
end L2
namespace HT
open PySem PyProof.Rows
section
open PySem.SeqAt
open PySem.AutoSeq1 (wpAny_loadPart')
open PySem.MeetsSeq PySem.MeetsSeq2 PySem.MeetsSeq3
end
section
variable {prog:Program}{w:World}{A:Around}{E:Value->Shared->Prop}{s:Shared}
theorem cat_tup {t b:Addr}{vs ws:List Value}{Q:Value->Shared->Prop}(ht:IsTup s.heap t vs.toArray) (hb:IsTup s.heap b ws.toArray) (hv:vs≠[])
  (h1:ws=[]->Q (.ref t) s) (h2:ws≠[]->Q (.ref s.heap.objs.size) { s with heap:=s.heap.push { cls:=.type "tuple",data:=.seq (vs++ws).toArray } })
  (hsz:vs.length+ws.length<=sizeLine):wpAny (model prog w) A (binaryOp .Add (.ref t) (.ref b)) Q E s:=by
 obtain⟨⟨cls,dd,data,sl⟩,ho,hc,n,hd⟩:=id ht;obtain⟨⟨cls2,dd2,data2,sl2⟩,wA,kK,n2,jG⟩:=id hb;simp only at hc hd kK jG;subst hc hd kK jG;have e:vs.toArray++ws.toArray=(vs++ws).toArray:=by simp
 by_cases hw:ws=[]
 ·exact concat_meets ⟨_,ho,rfl⟩ ⟨_,wA,rfl⟩ noFill_tuple_add seq_tuple_add Wu Wn (X9 _ _)
   (tuple_addW1 t b vs.toArray ws.toArray n n2 dd dd2 sl sl2 (by simpa using hv) (by simp[hw])) ⟨ho,wA,h1 hw⟩
 ·refine concat_meets ⟨_,ho,rfl⟩ ⟨_,wA,rfl⟩ noFill_tuple_add seq_tuple_add Wu Wn (X9 _ _)
   (tuple_addW2 t b vs.toArray ws.toArray n n2 dd dd2 sl sl2 (by simpa using hv) (by simpa using hw) (by rw[ZA,ZA];exact hsz)) ⟨ho,wA,?_⟩
  rw[e];exact h2 hw
def sIx (n d:Nat):Option Int->Nat
 |none=>d
 |some v=>if v<0 then (v+(n:Int)).toNat else min v.toNat n
theorem sIx_none (n d:Nat):sIx n d none=d:=rfl
theorem sIx_nat (n d k:Nat):sIx n d (some (k:Int))=min k n:=by
 show (if (k:Int)<0 then ((k:Int)+(n:Int)).toNat else min (k:Int).toNat n)=min k n;rw[Zo (by lia),Wv]
theorem xC7 (n d:Nat) (hd:d<=n) (o:Option Int):sIx n d o<=n:=by
 cases o with
 |none=>exact hd
 |some v=>
  show (if v<0 then (v+(n:Int)).toNat else min v.toNat n)<=n;by_cases hv:v<0
  ·rw[Zr hv];lia
  ·rw[Zo hv];exact Nat.min_le_right _ _
theorem q68 (v:Int) (n d:Nat):(if v<0 then max (v+(n:Int)) 0 else min v (n:Int))=((sIx n d (some v):Nat):Int):=by
 show (if v<0 then max (v+(n:Int)) 0 else min v (n:Int))=(((if v<0 then (v+(n:Int)).toNat else min v.toNat n):Nat):Int);by_cases hv:v<0
 ·simp only[Zr hv];lia
 ·simp only[Zo hv];lia
theorem q08 (lo hi:Option Int) (n:Nat):Builtin.Slice.sliceAdjust lo hi 1 (n:Int)=(((sIx n 0 lo:Nat):Int),((sIx n n hi:Nat):Int)):=by
 have h1:¬((1:Int)<0):=by lia
 unfold Builtin.Slice.sliceAdjust;simp only[h1,Wa];refine Prod.ext ?_ ?_
 ·cases lo with
  |none=>rfl
  |some v=>exact q68 v n 0
 ·cases hi with
  |none=>rfl
  |some v=>exact q68 v n n
theorem q09 (i j:Nat):Builtin.Slice.slicePlaces (i:Int) (j:Int) 1=j-i:=by
 unfold Builtin.Slice.slicePlaces;have h1:(1:Int)>0:=by lia
 simp only[h1,Vr,Int.ediv_one];split<;>lia
theorem qD3 {v:Value}{o:Option Int}{Q:Option Int->Shared->Prop}(p:IsPart v o) (h:Q o s):wpAny (model prog w) A (Builtin.Slice.slicePartIndex v) Q E s:=by
 cases p with
 |none=>exact slicePart_none h
 |int i t=>exact slicePart_int h
theorem sliceApplied_gen {sl:Addr}{vl vu:Value}{lo hi:Option Int}{n:Nat}{Q:Int×Int×Nat->Shared->Prop}(hs:s.heap.IsSliceOf sl vl vu .none) (pl:IsPart vl lo) (pu:IsPart vu hi)
  (h:Q (((sIx n 0 lo:Nat):Int),1,sIx n n hi-sIx n 0 lo) s):wpAny (model prog w) A (Builtin.Slice.sliceApplied (.ref sl) (pure (n:Int))) Q E s:=by
 obtain⟨os,kW,wF,vA⟩:=id hs;unfold Builtin.Slice.sliceApplied Builtin.Slice.sliceFields;refine Za (Za (Z7 kW vA (x:=vl) rfl (Za (Z7 kW vA (x:=vu) rfl (Za (Z7 kW vA (x:=.none) rfl (Zm ?_)))))));refine Za (slicePart_none ?_);show wpAny _ _ (if ((1:Int)==0)=true then _ else _) _ _ s;rw[Zo (by decide)];refine Za (qD3 pl (Za (qD3 pu (Za (Zm ?_)))));show wpAny _ _ (match Builtin.Slice.sliceAdjust lo hi 1 (n:Int) with|(lo,hi)=>pure (lo,(1:Int),Builtin.Slice.slicePlaces lo hi 1)) _ _ s;rw[q08 lo hi n];show wpAny _ _ (pure (((sIx n 0 lo:Nat):Int),(1:Int),Builtin.Slice.slicePlaces ((sIx n 0 lo:Nat):Int) ((sIx n n hi:Nat):Int) 1)) _ _ s;rw[q09];exact Zm h
theorem xi1 (xs:Array Value) (i k:Nat):((List.range k).filterMap λ(m:Nat)=>xs[((i:Int)+(m:Int)*1).toNat]?).toArray=((xs.toList.drop i).take k).toArray:=by
 have e:(λ(m:Nat)=>xs[((i:Int)+(m:Int)*1).toNat]?)=λm=>xs[i+m]?:=by
  funext m;have:((i:Int)+(m:Int)*1).toNat=i+m:=by lia
  rw[this]
 rw[e];have:=pick_run xs i k;rw[List.filterMap_map] at this;have e2:((λx=>xs[x]?)∘λx=>i+x)=λm=>xs[i+m]?:=rfl;rw[e2] at this;rw[this]
theorem getItem_tuple_cut {t sl:Addr}{items:Array Value}{vl vu:Value}{lo hi:Option Int}{Q:Value->Shared->Prop}(ht:IsTup s.heap t items) (hs:s.heap.IsSliceOf sl vl vu .none) (pl:IsPart vl lo) (pu:IsPart vu hi)
  (hw:¬(sIx items.size 0 lo=0/\sIx items.size items.size hi=items.size))
  (h:Q (.ref s.heap.objs.size) { s with heap:=s.heap.push { cls:=.type "tuple",data:=.seq ((items.toList.drop (sIx items.size 0 lo)).take (sIx items.size items.size hi-sIx items.size 0 lo)).toArray } })
  (hsz:items.size<=sizeLine):wpAny (model prog w) A (getItem (.ref t) (.ref sl)) Q E s:=by
 have htake:sizeOk (.seq ((items.toList.drop (sIx items.size 0 lo)).take (sIx items.size items.size hi-sIx items.size 0 lo)).toArray):=by
  show ((items.toList.drop (sIx items.size 0 lo)).take (sIx items.size items.size hi-sIx items.size 0 lo)).toArray.size<=sizeLine;rw[ZA,ZW,YB,YI];lia
 have hj:sIx items.size items.size hi<=items.size:=xC7 _ _ (Ze _) hi;obtain⟨os,kW,wF,vA⟩:=id hs;have hTs:s.TypeIs (.ref sl) "slice":=⟨os,kW,wF⟩;unfold getItem
 try with_reducible refine YR ?_
 first|refine Za (Zm ?_)|skip
 refine Za (wpAny_sequenceKey ht.typeIs (by decide) ?_);refine Za (Yc (name:=Str.ofString "__getitem__") ht.typeIs Z8
  (YC Z8 ht.typeIs entry_tuple_getitem ?_ (args_tuple_getitem _ _)))
 show wpAny _ _ (Builtin.Tuple.tupleItemsOf (.ref t) >>= _) _ _ s;refine Za (tupleItemsOf_ ht ?_);refine Za (Vg hTs ?_);rw[Zr (by decide)];refine Za (sliceApplied_gen hs pl pu ?_);have wB:¬((((sIx items.size 0 lo:Nat):Int)==0&&(1:Int)==1&&(sIx items.size items.size hi-sIx items.size 0 lo)==items.size)=true):=by
  intro q;rw[YD,YD] at q;have q1:((sIx items.size 0 lo:Nat):Int)=0:=eq_of_beq q.1.1;have q2:sIx items.size items.size hi-sIx items.size 0 lo=items.size:=eq_of_beq q.2;exact hw ⟨by lia,by lia⟩
 show wpAny _ _ (if (((sIx items.size 0 lo:Nat):Int)==0&&(1:Int)==1&&(sIx items.size items.size hi-sIx items.size 0 lo)==items.size)=true then _ else _) _ _ s;rw[Zo wB,xi1]
 first
  |exact Za (m:=Builtin.Tuple.tupleExact _) (Yg (Zm ⟨_,rfl,Zm h⟩) htake)
  |exact Za (m:=Builtin.Tuple.tupleExact _) (Yg (Za (Zm (Zm ⟨_,rfl,Zm h⟩))) htake)
  |exact Za (Za (m:=Builtin.Tuple.tupleExact _) (Yg (Zm (Zm ⟨_,rfl,Zm h⟩)) htake))
  |exact Za (Za (m:=Builtin.Tuple.tupleExact _) (Yg (Zm ⟨_,rfl,Zm h⟩) htake))
end
end HT
namespace L2
open PySem PySem.Spec PyProof.Rows
abbrev TO:=St->Hp->(Option Int->Hp->Prop)->Prop
def PO (X:Cx) (e:Option Expr) (t:TO):Prop:=
 ∀(j8:List (Addr×Obj)) (s:Shared) (σ:St) (H:Hp) (Q:Option Int->Hp->Prop),Inv X j8 σ H s->t σ H Q ->
  wpAny (model X.prog X.w) X.A (evalPart e X.env) (λu s'=>∃o H',Inv X j8 σ H' s'/\IsPart u o/\Q o H') X.xe s
def q69:TO:=λ_ H Q=>Q none H
def xC8 (t:TE):TO:=λσ H Q=>t σ H λx H1=>∃i,x=.int i/\Q (some i) H1
section
variable {X:Cx}{e:Expr}{te:TE}{lo hi:Option Expr}{tl th:TO}{pos p2:Pos}
theorem qn8:PO X none q69:=by
 intro j8 s σ H Q I h;rw[evalPart_none];exact Zm ⟨none,H,I,.none,h⟩
theorem qn9 (h:PE X e te):PO X (some e) (xC8 te):=by
 intro j8 s σ H Q I hw;rw[evalPart_some];refine thn (h j8 s σ H _ I hw) λu s1 ⟨x,H1,I1,r1,q1⟩=>?_;obtain⟨i,rfl,q⟩:=q1;obtain⟨t,rfl⟩:=r1;exact⟨some i,H1,I1,.int i t,q⟩
def SlR (X:Cx) (r:V->Option Int->Option Int->Hp->VK->Prop):Prop:=
 ∀(j8:List (Addr×Obj)) (s:Shared) (σ:St) (H:Hp) (x:V) (v vl vu:Value) (lo hi:Option Int) (sl:Addr) (Q:VK),Inv X j8 σ H s->RelV x v->s.heap.IsSliceOf sl vl vu .none->IsPart vl lo->IsPart vu hi->r x lo hi H Q ->
  ∃T id,typeLookup (.type T) "__getitem__" = pure (some (.builtin id))/\s.TypeIs v T/\wpAny (model X.prog X.w) X.A (getItem v (.ref sl)) (EP X j8 σ Q) X.xe s
def tSl (r:V->Option Int->Option Int->Hp->VK->Prop) (te:TE) (tl th:TO):TE:=λσ H Q=>te σ H λx H1=>tl σ H1 λl H2=>th σ H2 λu H3=>r x l u H3 Q
theorem qk4 {r:V->Option Int->Option Int->Hp->VK->Prop}(hr:SlR X r) (he:PE X e te) (hl:PO X lo tl) (hu:PO X hi th):PE X (.Subscript e (.Slice lo hi none p2) pos) (tSl r te tl th):=by
 intro j8 s σ H Q I h;refine Subscript_ (thn (he j8 s σ H _ I h) λv s1 ⟨x,H1,I1,r1,q1⟩=>?_);refine wpAny_Slice (thn (hl j8 s1 σ H1 _ I1 q1) λvl s2 ⟨l,H2,I2,pl,q2⟩=>thn (hu j8 s2 σ H2 _ I2 q2) λvu s3 ⟨u,H3,I3,pu,q3⟩=>?_);rw[evalPart_none];refine Zm ?_;have I4:Inv X j8 σ H3 { s3 with heap:=s3.heap.push { cls:=.type "slice",data:=.fields #[vl,vu,.none] } }:=I3.kept (t':=s3.toks) λb ob q=>Zc _ q;obtain⟨T,id,hT,ht,hg⟩:=hr j8 { s3 with heap:=s3.heap.push { cls:=.type "slice",data:=.fields #[vl,vu,.none] } } σ H3 x v vl vu l u s3.heap.objs.size Q I4 r1 (Heap.IsSliceOf.new ..) pl pu q3;show wpAny (model X.prog X.w) X.A (subscriptTail e (.Slice lo hi none p2) v (.ref s3.heap.objs.size)) (EP X j8 σ Q) X.xe { s3 with heap:=s3.heap.push { cls:=.type "slice",data:=.fields #[vl,vu,.none] } };exact tail_any (ops:=[.ref s3.heap.objs.size,v]) ht hT hg (by with_unfolding_all rfl)
def cutV (xs:List V) (lo hi:Option Int):List V:=(xs.drop (HT.sIx xs.length 0 lo)).take (HT.sIx xs.length xs.length hi-HT.sIx xs.length 0 lo)
theorem qQ2 (xs:List V) (lo hi:Option Int):(cutV xs lo hi).length<=xs.length:=by
 unfold cutV;rw[ZW,YB];lia
def rSlT (K:PySem.W.Frag):V->Option Int->Option Int->Hp->VK->Prop:=λx lo hi H Q=>∃a xs,x=.ref a/\SqT K H a xs /\
 ¬(HT.sIx xs.length 0 lo=0/\HT.sIx xs.length xs.length hi=xs.length)/\∀p,H p=none->Q (.ref p) (upd H p (.tup (cutV xs lo hi)))
theorem q70:SlR X (rSlT X.K):=by
 intro j8 s σ H x v vl vu lo hi sl Q I rx hs pl pu h;obtain⟨a,xs,rfl,hx,hw,q⟩:=h;cases rx;obtain⟨its,r,ht,hz⟩:=I.tuple hx;have j9:its.toArray.size=xs.length:=by rw[ZA];exact r.length.symm
 refine⟨"tuple",_,Z8.lookup,ht.typeIs,?_⟩;refine HT.getItem_tuple_cut ht hs pl pu (by rw[j9];exact hw) ?_ (by rw[j9];exact hz);rw[j9];refine⟨.ref s.heap.objs.size,_,I.laid (t':=s.toks) (o:=.tup (cutV xs lo hi)) (λb ob q=>Zc _ q) (Ze _) ?_,rfl,q _ (I.hok.fresh (Ze _))⟩;exact⟨ZK (qQ2 xs lo hi) hz,_,(r.drop (HT.sIx xs.length 0 lo)).take (HT.sIx xs.length xs.length hi-HT.sIx xs.length 0 lo),IsTupX.new _ _⟩
def xJ8 (K:PySem.W.Frag):R2:=λx y H Q=>∃a b xs ys,x=.ref a/\y=.ref b/\SqT K H a xs/\SqT K H b ys/\xs≠[]/\xs.length+ys.length<=sizeLine /\
 (ys=[]->Q (.ref a) H)/\(ys≠[]->∀p,H p=none->Q (.ref p) (upd H p (.tup (xs++ys))))
theorem Vals.nil_iff {xs:List V}{us:List Value}(r:Vals xs us):us=[]<->xs=[]:=by
 cases r with
 |nil=>simp
 |cons _ _=>simp
theorem xu8:OpR X (binaryOp .Add) (xJ8 X.K):=by
 intro j8 s σ H x y v u Q I rx ry h;obtain⟨a,b,xs,ys,rfl,rfl,ha,hb,hx,hz,q1,q2⟩:=h;cases rx;cases ry;obtain⟨its,r1,p1,_⟩:=I.tuple ha;obtain⟨its2,r2,p2,_⟩:=I.tuple hb;refine HT.cat_tup p1 p2 (λz=>hx (r1.nil_iff.mp z)) (λz=>⟨.ref a,H,I,rfl,q1 (r2.nil_iff.mp z)⟩) (λz=>?_) (by rw[<- r1.length,<- r2.length];exact hz);refine⟨.ref s.heap.objs.size,_,I.laid (t':=s.toks) (o:=.tup (xs++ys)) (λb ob q=>Zc _ q) (Ze _) ?_,rfl,q2 (λw=>z (r2.nil_iff.mpr w)) _ (I.hok.fresh (Ze _))⟩;exact⟨by rw[Zj];exact hz,_,r1.append r2,IsTupX.new _ _⟩
end
def ixN (n:Nat) (i:Int):Option Nat:=if 0<=i then (if i<n then some i.toNat else none) else if -(n:Int)<=i then some (i+n).toNat else none
def atI {α:Type}(xs:List α) (i:Int):Option α:=(ixN xs.length i).bind λj=>xs[j]?
theorem q71 {n:Nat}{i:Int}{j:Nat}(h:ixN n i=some j):seqIndex? i n=some j/\j<n/\-(n:Int)<=i/\i<n:=by
 unfold ixN at h;by_cases h0:0<=i
 ·rw[Zr h0] at h;by_cases h1:i<n
  ·rw[Zr h1] at h;have e:i.toNat=j:=ZD h;exact⟨by rw[seqIndex_of h0 h1,e],by lia,by lia,h1⟩
  ·rw[Zo h1] at h;cases h
 ·rw[Zo h0] at h;by_cases h1:-(n:Int)<=i
  ·rw[Zr h1] at h;have e:(i+n).toNat=j:=ZD h;exact⟨by rw[seqIndex_neg (by lia) h1,e],by lia,h1,by lia⟩
  ·rw[Zo h1] at h;cases h
theorem q72 {α:Type}{xs:List α}{i:Int}{v:α}(h:atI xs i=some v):∃j,seqIndex? i xs.length=some j/\xs[j]?=some v/\j<xs.length/\-(xs.length:Int)<=i/\i<xs.length:=by
 unfold atI at h;cases e:ixN xs.length i with
 |none=>rw[e] at h;cases h
 |some j=>
  rw[e] at h;obtain⟨h1,h2,h3,h4⟩:=q71 e;exact⟨j,h1,h,h2,h3,h4⟩
theorem qe3 {α:Type}{xs:List α}{j:Nat}{v:α}(h:xs[j]?=some v):atI xs (j:Int)=some v:=by
 have hj:j<xs.length:=(gS_ h).1;have e:ixN xs.length (j:Int)=some j:=by
  unfold ixN;rw[Zr (by lia),Zr (by lia)];simp
 unfold atI;rw[e];exact h
def q73 (b:Expr):Prop:=∀o i,subscripted b false o i=operate [o,i] (getItem o i)
def IxR (X:Cx) (r:R2):Prop:=
 ∀(value slice:Expr) (j8:List (Addr×Obj)) (s:Shared) (σ:St) (H:Hp) (x y:V) (v u:Value) (Q:VK),Inv X j8 σ H s->RelV x v->RelV y u->r x y H Q ->
  subscripted slice false v u=operate [v,u] (getItem v u)->wpAny (model X.prog X.w) X.A (subscriptTail value slice v u) (EP X j8 σ Q) X.xe s
def MtR (X:Cx) (id:String) (r:V->List V->Hp->VK->Prop):Prop:=
 ∀(j8:List (Addr×Obj)) (s:Shared) (σ:St) (H:Hp) (x:V) (xs:List V) (v:Value) (us:List Value) (Q:VK),Inv X j8 σ H s->RelV x v->Vals xs us->r x xs H Q ->
  wpAny (model X.prog X.w) X.A (call (.builtin id) (v::us)) (EP X j8 σ Q) X.xe s
section
variable {X:Cx}{a b:Expr}{ta tb:TE}{pos:Pos}
theorem IxR.or {r r':R2}(h:IxR X r) (h':IxR X r'):IxR X (λx y H Q=>r x y H Q\/r' x y H Q):=by
 intro value slice j8 s σ H x y v u Q I rx ry q hs;rcases q with q|q
 ·exact h value slice j8 s σ H x y v u Q I rx ry q hs
 ·exact h' value slice j8 s σ H x y v u Q I rx ry q hs
theorem xC9 {r:R2}(hr:IxR X r) (ha:PE X a ta) (hb:PE X b tb) (hs:q73 b):PE X (.Subscript a b pos) (tOp r ta tb):=by
 intro j8 s σ H Q I h;exact Subscript_ (binT ha hb I h λv u s2 x y H2 I2 rx ry q=>hr a b j8 s2 σ H2 x y v u Q I2 rx ry q (hs _ _))
def rIxL (K:PySem.W.Frag):R2:=λx y H Q=>∃p xs i v,x=.ref p/\y=.int i/\SqL K H p xs/\atI xs i=some v/\Q v H
def rIxT (K:PySem.W.Frag):R2:=λx y H Q=>∃p xs i v,x=.ref p/\y=.int i/\SqT K H p xs/\atI xs i=some v/\Q v H
theorem qe4:IxR X (rIxL X.K):=by
 intro value slice j8 s σ H x y v u Q I rx ry h hs;obtain⟨p,xs,i,z,rfl,rfl,hq,he,q⟩:=h;cases rx;obtain⟨t,rfl⟩:=ry;obtain⟨its,r,pl,hz⟩:=I.list hq;obtain⟨j,h1,h2,h3,h4,h5⟩:=q72 he;obtain⟨w,ew,rw'⟩:=r.get h2;have hl:=r.length;have hn:=qU2;have fin:EP X j8 σ Q w s:=⟨z,H,I,rw',q⟩;by_cases h0:0<=i
 ·have hj:i.toNat=j:=by
   rw[seqIndex_of h0 h5] at h1;exact ZD h1
  exact item_listR pl.isList h0 (by lia) (by rw[hj];simpa using ew) fin hs
 ·have hj:(i+(its.toArray.size:Int)).toNat=j:=by
   rw[seqIndex_neg (by lia) h4] at h1;rw[ZA,<- hl];exact ZD h1
  exact subscriptTail_builtinR (x:=w) pl.isList.typeIs slot_list_getitem.lookup
   (wpAny_getItem_list_neg (Q:=λr s'=>r=w/\EP X j8 σ Q r s') pl.isList (by lia) (by rw[ZA]<;>lia) (by lia) (by rw[hj];simpa using ew) ⟨rfl,fin⟩) hs
theorem qh8:IxR X (rIxT X.K):=by
 intro value slice j8 s σ H x y v u Q I rx ry h hs;obtain⟨p,xs,i,z,rfl,rfl,hq,he,q⟩:=h;cases rx;obtain⟨t,rfl⟩:=ry;obtain⟨its,r,pl,hz⟩:=I.tuple hq;obtain⟨j,h1,h2,h3,h4,h5⟩:=q72 he;obtain⟨w,ew,rw'⟩:=r.get h2;have hl:=r.length;have hn:=qU2;have fin:EP X j8 σ Q w s:=⟨z,H,I,rw',q⟩;exact subscriptTail_builtinR (x:=w) pl.typeIs slot_tuple_getitem.lookup
  (getItem_tuple (j:=j) (Q:=λr s'=>r=w/\EP X j8 σ Q r s') pl (by lia) (by lia) (by rw[ZA,<- hl];exact h1) (by simpa using ew) ⟨rfl,fin⟩) hs
theorem q10 (its:List Value) (n j:Nat) (u:Value):Obj.mapSeq (·.setIfInBounds j u) { cls:=.type "list",data:=.seq its.toArray n }={ cls:=.type "list",data:=.seq (its.set j u).toArray n }:=by
 simp[Obj.mapSeq]
theorem Inv.lst {j8:List (Addr×Obj)}{σ:St}{H:Hp}{s:Shared}{p:Addr}{xs:List V}(I:Inv X j8 σ H s) (h:H p=some (.lst xs)) :
  ∃(its:List Value) (n:Nat),Vals xs its/\s.heap.get? p=some { cls:=.type "list",data:=.seq its.toArray n }/\xs.length<=sizeLine:=by
 obtain⟨z,its,n,r,e⟩:=I.hok p _ h;exact⟨its,n,r,e,z⟩
theorem Inv.lstUpd {j8:List (Addr×Obj)}{σ:St}{H:Hp}{s:Shared}{p:Addr}{xs ys:List V}{its its':List Value}{n n':Nat}{f:Obj->Obj}(I:Inv X j8 σ H s) (h:H p=some (.lst xs))
  (ho:s.heap.get? p=some { cls:=.type "list",data:=.seq its.toArray n }) (hf:f { cls:=.type "list",data:=.seq its.toArray n }={ cls:=.type "list",data:=.seq its'.toArray n' }) (r:Vals ys its') (hz:ys.length<=sizeLine) (t:Nat) :
  Inv X j8 σ (upd H p (.lst ys)) { s with heap:=s.heap.update p f,toks:=t }:=by
 have e:(s.heap.update p f).get? p=some { cls:=.type "list",data:=.seq its'.toArray n' }:=by
  rw[YL f ho (by rw[hf]<;>rfl),hf]
 refine I.write (x:=p) (e:=p) (by rw[h];trivial) (.inl rfl) (λb u hb q=>(ZF _ _ (Yn hb)).trans q) ⟨_,e⟩ ?_;exact⟨hz,its',n',r,e⟩
def xJ9:V->V->V->Hp->(Hp->Prop)->Prop:=λo i v H Q=>∃p xs k j,o=.ref p/\i=.int k/\H p=some (.lst xs)/\ixN xs.length k=some j/\Q (upd H p (.lst (xs.set j v)))
theorem qU4:PSet X xJ9:=by
 intro j8 s σ H o i v ov iv u Q I ro ri rv h;obtain⟨p,xs,k,j,rfl,rfl,hp,hj,q⟩:=h;cases ro;obtain⟨t,rfl⟩:=ri;obtain⟨its,n,r,ho,hz⟩:=I.lst hp;obtain⟨h1,h2,h3,h4⟩:=q71 hj;have hl:=r.length;have hn:=qU2;have I':Inv X j8 σ (upd H p (.lst (xs.set j v))) { s with heap:=s.heap.update p (Obj.mapSeq (·.setIfInBounds j u)) }:=
  I.lstUpd hp ho (q10 its n j u) (r.set rv j) (by rw[List.length_set];exact hz) s.toks
 by_cases h0:0<=k
 ·have hk:k.toNat=j:=by
   rw[seqIndex_of h0 h4] at h1;exact ZD h1
  exact PySem.W.ki_setAt ho h0 (by lia) (by rw[ZA,<- hl];exact h4) (by rw[hk];exact⟨_,I',q⟩)
 ·have hk:(k+(its.toArray.size:Int)).toNat=j:=by
   rw[seqIndex_neg (by lia) h3] at h1;rw[ZA,<- hl];exact ZD h1
  exact PySem.W.ki_setBack ho (by lia) (by rw[ZA,<- hl];exact h3) (by lia) (by rw[hk];exact⟨_,I',q⟩)
def qC3:V->Bool
 |.non=>true
 |.bl _=>true
 |.int _=>true
 |.str _=>true
 |_=>false
def eqV:V->V->Bool
 |.non,.non=>true
 |.bl a,.bl b=>a==b
 |.bl a,.int b=>(if a then 1 else 0)==b
 |.int a,.bl b=>a==(if b then 1 else 0)
 |.int a,.int b=>a==b
 |.str a,.str b=>a==b
 |_,_=>false
theorem xD0 {A:Around}{s:Shared}{y x:V}{u v:Value}(ry:RelV y u) (rx:RelV x v) (fy:qC3 y=true) (fx:qC3 x=true):SeqAt.EqAt A s u v (eqV y x):=by
 cases y with
 |non=>
  cases ry;cases x with
  |non=>cases rx;exact SeqAt.EqAt.same _
  |bl b=>cases rx;exact SeqAt.EqAt.none_bool b
  |int b=>obtain⟨t,rfl⟩:=rx;exact SeqAt.EqAt.none_int b t
  |str b=>obtain⟨t,rfl⟩:=rx;exact SeqAt.EqAt.none_str b t
  |_=>exact absurd (show false=true from fx) Zu
 |bl a=>
  cases ry;cases x with
  |non=>cases rx;exact SeqAt.EqAt.bool_none a
  |bl b=>cases rx;exact SeqAt.EqAt.bool_bool a b
  |int b=>obtain⟨t,rfl⟩:=rx;exact SeqAt.EqAt.bool_int a b t
  |str b=>obtain⟨t,rfl⟩:=rx;exact SeqAt.EqAt.bool_str a b t
  |_=>exact absurd (show false=true from fx) Zu
 |int a=>
  obtain⟨t',rfl⟩:=ry;cases x with
  |non=>cases rx;exact SeqAt.EqAt.int_none a t'
  |bl b=>cases rx;exact SeqAt.EqAt.int_bool a t' b
  |int b=>obtain⟨t,rfl⟩:=rx;exact SeqAt.EqAt.int_int a t' b t
  |str b=>obtain⟨t,rfl⟩:=rx;exact SeqAt.EqAt.int_str a t' b t
  |_=>exact absurd (show false=true from fx) Zu
 |str a=>
  obtain⟨t',rfl⟩:=ry;cases x with
  |non=>cases rx;exact SeqAt.EqAt.str_none a t'
  |bl b=>cases rx;exact SeqAt.EqAt.str_bool a t' b
  |int b=>obtain⟨t,rfl⟩:=rx;exact SeqAt.EqAt.str_int a t' b t
  |str b=>obtain⟨t,rfl⟩:=rx;exact SeqAt.EqAt.str_str a t' b t
  |_=>exact absurd (show false=true from fx) Zu
 |_=>exact absurd (show false=true from fy) Zu
def eqU (x:V) (u:Value):Bool:=match u with
 |.none=>eqV .non x
 |.bool b=>eqV (.bl b) x
 |.int i _=>eqV (.int i) x
 |.str z _=>eqV (.str z) x
 |_=>false
theorem xq7 {x y:V}{u:Value}(r:RelV y u) (f:qC3 y=true):eqU x u=eqV y x:=by
 cases y with
 |non=>cases r;rfl
 |bl b=>cases r;rfl
 |int i=>obtain⟨t,rfl⟩:=r;rfl
 |str z=>obtain⟨t,rfl⟩:=r;rfl
 |_=>exact absurd (show false=true from f) Zu
theorem qz3 {x:V}:∀{xs:List V}{us:List Value},Vals xs us->xs.all qC3=true->us.any (eqU x)=xs.any λy=>eqV y x
 |_,_,.nil,_=>rfl
 |y::xs,u::us,.cons r t,f=>by
  rw[Vb,YD] at f;rw[Xj,Xj,xq7 r f.1,qz3 t f.2]
theorem qr3 {A:Around}{s:Shared}{x:V}{v:Value}(rx:RelV x v) (fx:qC3 x=true):∀{xs:List V}{us:List Value},Vals xs us->xs.all qC3=true->∀u∈us,SeqAt.EqAt A s u v (eqU x u)
 |_,_,.nil,_=>λu hu=>by cases hu
 |y::xs,u::us,.cons r t,f=>λu' hu=>by
  rw[Vb,YD] at f;rcases Zy.mp hu with rfl|hu
  ·rw[xq7 r f.1];exact xD0 r rx f.1 fx
  ·exact qr3 rx fx t f.2 u' hu
def inV (x:V) (xs:List V):Bool:=xs.any λy=>eqV y x
def rIn (K:PySem.W.Frag) (neg:Bool):R2:=λx y H Q=>∃p xs,y=.ref p/\(SqL K H p xs\/SqT K H p xs)/\qC3 x=true/\xs.all qC3=true/\Q (.bl (if neg then !inV x xs else inV x xs)) H
theorem q74:OpR X (compareOp .In) (rIn X.K false):=by
 intro j8 s σ H x y v u Q I rx ry h;obtain⟨p,xs,rfl,hq,fx,fs,q⟩:=h;cases ry;rcases hq with hq|hq
 ·obtain⟨its,r,pl,hz⟩:=I.list hq;refine SeqAt.in_listAt (eqU x) pl.isList (λw hw=>qr3 rx fx r fs w (by simpa using hw)) ⟨.bl _,H,I,rfl,?_⟩;rw[show its.toArray.any (eqU x)=its.any (eqU x) by simp,qz3 r fs];exact q
 ·obtain⟨its,r,pl,hz⟩:=I.tuple hq;refine SeqAt.in_tupleAt (eqU x) pl (λw hw=>qr3 rx fx r fs w (by simpa using hw)) ⟨.bl _,H,I,rfl,?_⟩;rw[show its.toArray.any (eqU x)=its.any (eqU x) by simp,qz3 r fs];exact q
theorem qK0:OpR X (compareOp .NotIn) (rIn X.K true):=by
 intro j8 s σ H x y v u Q I rx ry h;obtain⟨p,xs,rfl,hq,fx,fs,q⟩:=h;cases ry;rcases hq with hq|hq
 ·obtain⟨its,r,pl,hz⟩:=I.list hq;refine SeqAt.notIn_listAt (eqU x) pl.isList (λw hw=>qr3 rx fx r fs w (by simpa using hw)) ⟨.bl _,H,I,rfl,?_⟩;rw[show its.toArray.any (eqU x)=its.any (eqU x) by simp,qz3 r fs];exact q
 ·obtain⟨its,r,pl,hz⟩:=I.tuple hq;refine SeqAt.notIn_tupleAt (eqU x) pl (λw hw=>qr3 rx fx r fs w (by simpa using hw)) ⟨.bl _,H,I,rfl,?_⟩;rw[show its.toArray.any (eqU x)=its.any (eqU x) by simp,qz3 r fs];exact q
theorem qa9:qi3 X (.builtin "len") (λxs H Q=>∃p ys,xs=[.ref p]/\(SqL X.K H p ys\/SqT X.K H p ys)/\Q (.int ys.length) H):=by
 intro j8 s σ H xs us Q I r h;obtain⟨p,ys,rfl,hq,q⟩:=h;obtain⟨u,rfl,rx⟩:=qn5 r;cases rx;have hn:=qU2;rcases hq with hq|hq
 ·obtain⟨its,r',pl,hz⟩:=I.list hq;have j9:=r'.length;exact Calls.call_len_list pl.isList (by simp only[ZA]<;>lia) ⟨.int ys.length,H,I.tok _,⟨s.toks+1,by rw[ZA,j9]⟩,q⟩
 ·obtain⟨its,r',pl,hz⟩:=I.tuple hq;have j9:=r'.length;exact len_tuple pl (by simp only[ZA]<;>lia) ⟨.int ys.length,H,I.tok _,⟨s.toks+1,by rw[ZA,j9]⟩,q⟩
theorem qw0:qi3 X (.type "list") (λxs H Q=>∃p ys,xs=[.ref p]/\(SqL X.K H p ys\/SqT X.K H p ys)/\∀l,H l=none->Q (.ref l) (upd H l (.lst ys))):=by
 intro j8 s σ H xs us Q I r h;obtain⟨p,ys,rfl,hq,q⟩:=h;obtain⟨u,rfl,rx⟩:=qn5 r;cases rx;have fin:∀(its:List Value),Vals ys its->ys.length<=sizeLine->∀(h':Heap) (c':Nat),(∀b o',s.heap.get? b=some o'->h'.get? b=some o') ->
   h'.get? s.heap.objs.size=some { cls:=.type "list",dict:=none,data:=.seq its.toArray c',slots:=#[] }->EP X j8 σ Q (.ref s.heap.objs.size) { s with heap:=h' }:=λits r' hz h' c' kp e=>
  ⟨.ref s.heap.objs.size,_,I.laid (t':=s.toks) kp (Ze _) (show ObjOk X.prog X.w _ h' _ (.lst ys) from ⟨hz,its,c',r',e⟩),rfl,q _ (I.hok.fresh (Ze _))⟩
 rcases hq with hq|hq
 ·obtain⟨its,r',pl,hz⟩:=I.list hq;have j9:=r'.length;obtain⟨o,ho,hc,n,hd⟩:=pl.isList;exact call_list_seq p (.inl rfl) ho hc hd (λh' c' kp e=>fin its r' hz h' c' kp e) (by simp only[ZA]<;>lia)
 ·obtain⟨its,r',pl,hz⟩:=I.tuple hq;have j9:=r'.length;obtain⟨o,ho,hc,n,hd⟩:=pl;exact call_list_seq p (.inr rfl) ho hc hd (λh' c' kp e=>fin its r' hz h' c' kp e) (by simp only[ZA]<;>lia)
theorem qg2:qi3 X (.type "tuple") (λxs H Q=>∃p ys,xs=[.ref p]/\((SqL X.K H p ys/\∀l,H l=none->Q (.ref l) (upd H l (.tup ys)))\/(SqT X.K H p ys/\Q (.ref p) H))):=by
 intro j8 s σ H xs us Q I r h;obtain⟨p,ys,rfl,h⟩:=h;obtain⟨u,rfl,rx⟩:=qn5 r;cases rx;rcases h with ⟨hq,q⟩|⟨hq,q⟩
 ·obtain⟨its,r',pl,hz⟩:=I.list hq;have j9:=r'.length;refine call_tuple_list pl.isList (λh' kp=>?_) (by simp only[ZA]<;>lia);have I1:Inv X j8 σ H { s with heap:=h' }:=I.kept (t':=s.toks) kp;have I2:Inv X j8 σ (upd H h'.objs.size (.tup ys)) { s with heap:=h'.push { cls:=.type "tuple",data:=.seq its.toArray } }:=
   I1.laid (t':=s.toks) (λb o e=>Zc _ e) (Ze _) (show ObjOk X.prog X.w _ _ _ (.tup ys) from ⟨hz,its,r',IsTupX.new _ _⟩)
  exact⟨.ref h'.objs.size,_,I2,rfl,q _ (I1.hok.fresh (Ze _))⟩
 ·obtain⟨its,r',pl,hz⟩:=I.tuple hq;exact call_tuple_same pl ⟨.ref p,H,I,rfl,q⟩
def tyV (K:PySem.W.Frag) (T:String) (x:V) (H:Hp):Prop:=match x with
 |.str _=>T = "str"
 |.int _=>T = "int"
 |.ref p=>(T = "list" /\ ∃xs,SqL K H p xs)\/(T = "tuple" /\ ∃o,K.lookup p=some o/\o.cls=.type "tuple" /\ o.dict=none) \/
   (T = "dict" /\ ((∃kvs,H p=some (.dK kvs))\/∃kvs,H p=some (.dT kvs)))\/(T = "set" /\ ∃S n,H p=some (.set S n))
 |_=>False
theorem xq8 {j8:List (Addr×Obj)}{σ:St}{H:Hp}{s:Shared}{T:String}{x:V}{v:Value}(I:Inv X j8 σ H s) (r:RelV x v) (ty:tyV X.K T x H) :
  s.TypeIs v T/\∀a,v=.ref a->∃ob,s.heap.get? a=some ob/\ob.dict=none:=by
 cases x with
 |str z=>
  obtain⟨t,rfl⟩:=r;cases (show T = "str" from ty);exact⟨typeIs_str s z t,λ_ e=>nomatch e⟩
 |int i=>
  obtain⟨t,rfl⟩:=r;cases (show T = "int" from ty);exact⟨typeIs_int s i t,λ_ e=>nomatch e⟩
 |ref p=>
  cases r;rcases ty with ⟨rfl,xs,hq⟩|⟨rfl,o,hk,hc,hd⟩|⟨rfl,hk⟩|⟨rfl,S,n,hk⟩
  ·obtain⟨its,_,pl,_⟩:=I.list hq;refine⟨pl.isList.typeIs,λa e=>?_⟩;cases e;obtain⟨o,n,e,c,hd,_⟩:=pl;exact⟨o,e,hd⟩
  ·refine⟨⟨o,I.kIn p o hk,hc⟩,λa e=>?_⟩;cases e;exact⟨o,I.kIn _ o hk,hd⟩
  ·have z:∃o,s.heap.get? p=some o/\o.ExactDict:=by
    rcases hk with ⟨kvs,hk⟩|⟨kvs,hk⟩
    ·obtain⟨_,_,_,_,o,_,_,e,ex,_⟩:=I.hok p _ hk;exact⟨o,e,ex⟩
    ·obtain⟨_,_,_,_,o,_,_,e,ex,_⟩:=I.hok p _ hk;exact⟨o,e,ex⟩
   obtain⟨o,e,ex⟩:=z;refine⟨⟨o,e,ex.1⟩,λa e2=>?_⟩;cases e2;exact⟨o,e,ex.2.1⟩
  ·obtain⟨o,_,_,_,e,ex,_⟩:=I.hok p _ hk;refine⟨⟨o,e,ex.1⟩,λa e2=>?_⟩;cases e2;exact⟨o,e,ex.2.1⟩
 |_=>exact False.elim ty
def tBM0 (K:PySem.W.Frag) (T:String) (r:V->List V->Hp->VK->Prop) (to:TE):TE:=λσ H Q=>to σ H λx H1=>tyV K T x H1/\r x [] H1 Q
def tBM (K:PySem.W.Frag) (T:String) (r:V->List V->Hp->VK->Prop) (to:TE) (t:TA):TE:=λσ H Q=>to σ H λx H1=>tyV K T x H1/\t σ H1 λxs H2=>r x xs H2 Q
variable {o e:Expr}{es:List Expr}{to:TE}{t:TA}{name:Str}{apos cpos:Pos}{T id:String}{r:V->List V->Hp->VK->Prop}
theorem xD1 (pa:PlainAttrs T) (slot:Slot T name id) (hty:typeOf (.builtin id)=pure (.type "method_descriptor")) (hm:MtR X id r) (ho:PE X o to)
  (hbase:attributeBase o name X.env (eval o X.env)=eval o X.env:=by rfl) (hline:(apos.endLine==cpos.line)=true:=by rfl):PE X (.Call (.Attribute o name apos) [] [] cpos) (tBM0 X.K T r to):=by
 intro j8 s σ H Q I h;refine wpAny_Call_method0_late hbase hline (thn (ho j8 s σ H _ I h) λv s1 ⟨x,H1,I1,r1,ty,q1⟩=>?_);obtain⟨h1,h2⟩:=xq8 I1 r1 ty;exact⟨T,id,pa,slot,hty,h1,h2,Calls.callWith_builtin rfl (PySem.evalArgs_none (hm j8 s1 σ H1 x [] v [] Q I1 r1 .nil q1))⟩
theorem qC4 (pa:PlainAttrs T) (slot:Slot T name id) (hty:typeOf (.builtin id)=pure (.type "method_descriptor")) (hm:MtR X id r) (ho:PE X o to) (ha:PA X (e::es) t)
  (hbase:attributeBase o name X.env (eval o X.env)=eval o X.env:=by rfl)
  (hfew:((backTo cpos (starEach (e::es) X.env)).all (λx=>!x.1)&&(backToKw cpos (keywordEach [] X.env)).all (λx=>x.1.isSome)
   && decide ((e::es).length+([]:List Keyword).length+(if ([]:List Keyword).isEmpty then 0 else 1)<30))=true:=by rfl)
  (hline:(apos.endLine==cpos.line)=true:=by rfl) (hs:starEach (e::es) X.env=(false,eval e X.env)::starEach es X.env:=by rfl) (hplain:(backTo cpos (starEach es X.env)).any (·.1)=false:=by rfl) :
  PE X (.Call (.Attribute o name apos) (e::es) [] cpos) (tBM X.K T r to t):=by
 intro j8 s σ H Q I h;refine wpAny_Call_method_late hbase hfew hline rfl (thn (ho j8 s σ H _ I h) λv s1 ⟨x,H1,I1,r1,ty,q1⟩=>?_);obtain⟨h1,h2⟩:=xq8 I1 r1 ty;refine⟨T,id,pa,slot,hty,h1,h2,?_⟩;have hA:=ha cpos j8 s1 σ H1 _ I1 q1;rw[hs] at hA ⊢;refine Calls.callWith_builtin (by show (false||(backTo cpos (starEach es X.env)).any (·.1))=false;rw[hplain]<;>rfl) (Calls.evalArgs_plain ?_);exact thn hA λus s2 ⟨vs,H2,I2,r2,q2⟩=>hm j8 s2 σ H2 x vs v us Q I2 r1 r2 q2
end
def MtM (X:Cx) (id:String) (r:V->List V->Hp->VK->Prop):Prop:=
 ∀(j8:List (Addr×Obj)) (s:Shared) (σ:St) (H:Hp) (x:V) (xs:List V) (v:Value) (us:List Value) (Q:VK),Inv X j8 σ H s->RelV x v->Vals xs us->r x xs H Q ->
  wpAny (model X.prog X.w) X.A (call (.builtin id) (v::us)) (EP X j8 σ Q) X.xe s
theorem Vals.one:∀{x:V}{us:List Value},Vals [x] us->∃u,us=[u]/\RelV x u
 |_,_,.cons r .nil=>⟨_,rfl,r⟩
theorem Vals.zero:∀{us:List Value},Vals [] us->us=[]
 |_,.nil=>rfl
section
variable {X:Cx}{j8:List (Addr×Obj)}{σ:St}{H:Hp}{s:Shared}{l b:Addr}{xs ys zs:List V}
theorem Inv.lset {its its':List Value}{n:Nat}{f:Array Value->Array Value}{t':Nat}(I:Inv X j8 σ H s) (hH:H l=some (.lst xs))
  (e:s.heap.get? l=some { cls:=.type "list",data:=.seq its.toArray n }) (hf:f its.toArray=its'.toArray) (hv:Vals ys its') (hz:ys.length<=sizeLine) :
  Inv X j8 σ (upd H l (.lst ys)) { s with heap:=s.heap.update l (Obj.mapSeq f),toks:=t' }:=by
 have q:=PySem.IsL.update e f;rw[hf] at q;refine I.write (x:=l) (e:=l) (by rw[hH];exact trivial) (.inl rfl) (λb' u hb hu=>(ZF s.heap (Obj.mapSeq f) (Yn hb)).trans hu) ⟨_,q⟩ ?_;exact⟨hz,its',_,hv,q⟩
theorem Inv.lnew {its:List Value}{t':Nat}(I:Inv X j8 σ H s) (hv:Vals ys its) (hz:ys.length<=sizeLine) :
  Inv X j8 σ (upd H s.heap.objs.size (.lst ys)) { s with heap:=s.heap.push { cls:=.type "list",data:=.seq its.toArray },toks:=t' }:=
 I.laid (λ_ _ q=>Zc _ q) (Ze _) ⟨hz,its,0,hv,Zn _ rfl⟩
theorem Inv.fresh (I:Inv X j8 σ H s):H s.heap.objs.size=none:=I.hok.fresh (Ze _)
theorem Inv.lstM (I:Inv X j8 σ H s) (hH:H l=some (.lst xs)):xs.length<=sizeLine/\∃(its:List Value) (n:Nat),Vals xs its/\xs.length=its.length/\s.heap.get? l=some { cls:=.type "list",data:=.seq its.toArray n }:=by
 obtain⟨z,its,n,r,e⟩:=I.hok l _ hH;exact⟨z,its,n,r,r.length,e⟩
theorem qU5 {n:Nat}(h:n<=sizeLine):Builtin.List.listTooLong n=false:=by
 unfold Builtin.List.listTooLong;exact Zk (by lia)
end
section
variable {X:Cx}
def qQ3:V->List V->Hp->VK->Prop:=λx vs H Q=>∃l xs y,x=.ref l/\vs=[y]/\H l=some (.lst xs)/\xs.length<sizeLine/\Q .non (upd H l (.lst (xs++[y])))
theorem qe5:MtM X "list.append" qQ3:=by
 intro j8 s σ H x vs v us Q I rx rv h;obtain⟨l,xs,y,rfl,rfl,hH,hz,q⟩:=h;cases rx;obtain⟨u,rfl,ru⟩:=rv.one;obtain⟨z,its,n,r,hl,e⟩:=I.lstM hH;refine W0 F.slot_list_append ⟨_,e,rfl⟩ F.entry_list_append (F.args_list_append_2 _ _) (PySem.list_append l its.toArray n u (by rw[ZA];lia)) ⟨e,?_⟩;refine⟨.non,_,I.lset (its':=its++[u]) hH e (by simp) (r.append (.cons ru .nil)) ?_,rfl,q⟩;rw[Zj,XB];lia
def xu9:V->List V->Hp->VK->Prop:=λx vs H Q=>∃l b xs zs,x=.ref l/\vs=[.ref b]/\H l=some (.lst xs)/\H b=some (.lst zs)/\xs.length+zs.length<=sizeLine/\Q .non (upd H l (.lst (xs++zs)))
theorem qK1:MtM X "list.extend" xu9:=by
 intro j8 s σ H x vs v us Q I rx rv h;obtain⟨l,b,xs,zs,rfl,rfl,hH,hB,hz,q⟩:=h;cases rx;obtain⟨u,rfl,ru⟩:=rv.one;cases ru;obtain⟨z,its,n,r,hl,e⟩:=I.lstM hH;obtain⟨z2,its2,n2,r2,k8,e2⟩:=I.lstM hB;have hsz:its.toArray.size+its2.toArray.size<=sizeLine:=by rw[ZA,ZA];lia
 have hlong:¬(!its.toArray.isEmpty&&Builtin.List.listTooLong (its.toArray.size+its2.toArray.size))=true:=by
  rw[qU5 hsz,Vl];exact Zu
 refine W0 F.slot_list_extend ⟨_,e,rfl⟩ F.entry_list_extend (F.args_list_extend_2 _ _)
  (AutoSeq1.list_extend_list_list_0 l its.toArray n b its2.toArray n2 hlong (by rw[ZA];lia) (by lia)) ⟨e,e2,?_⟩
 refine⟨.non,_,I.lset (its':=its++its2) hH e (by simp) (r.append r2) ?_,rfl,q⟩;rw[Zj];lia
def rCat:R2:=λx y H Q=>∃l b xs zs,x=.ref l/\y=.ref b/\H l=some (.lst xs)/\H b=some (.lst zs)/\xs.length+zs.length<=sizeLine/\∀p,H p=none->Q (.ref p) (upd H p (.lst (xs++zs)))
theorem ql6:OpR X (binaryOp .Add) rCat:=by
 intro j8 s σ H x y v u Q I rx ry h;obtain⟨l,b,xs,zs,rfl,rfl,hH,hB,hz,q⟩:=h;cases rx;cases ry;obtain⟨z,its,n,r,hl,e⟩:=I.lstM hH;obtain⟨z2,its2,n2,r2,k8,e2⟩:=I.lstM hB;refine PySem.P.add_list e e2 ?_ (by rw[ZA,ZA];lia);have ea:its.toArray++its2.toArray=(its++its2).toArray:=by simp
 rw[ea];exact⟨.ref _,_,I.lnew (t':=s.toks) (r.append r2) (by rw[Zj];lia),rfl,q _ I.fresh⟩
end
section
variable {prog:Program}{w:World}{A:Around}{E:Value->Shared->Prop}{s:Shared}
end
section
variable {X:Cx}
end
end L2
namespace Att
open PySem PySem.W PySem.Calls PyProof.Rows
theorem qz4 {P:Params}{h:Heap}:∀(ns:List Int) (vs:List Value),WellAll P h vs (ns.map WData.int)->IntsAre vs ns:=by
 intro ns
 induction ns with
 |nil=>
  intro vs w;rw[List.map_nil] at w;cases w;exact .nil
 |cons n ns ih=>
  intro vs w;rw[ZH] at w;cases w with
  |cons a b=>
   cases a;exact .cons _ _ (ih _ b)
theorem q75 {l:OpenLaw}{n:Nat}(hn:l.most=some n){P:Params}{h:Heap}{args:List WData}{vals:List Value}
  (hpre:l.row.toRowW.claim.pre args=true) (hwl:WellAll P h vals args) :
  ∃a vs ns,vals=[Value.ref a]/\args=[WData.list (ns.map WData.int)]/\h.get? a=some { cls:=.type "list",data:=.seq vs.toArray }/\IntsAre vs ns/\ns.length<=n:=by
 have hsh:WShape.hasAll [] args [.list .int]=true:=(pre_splitW hpre).1;have hc:l.pre.holds [] { args:=args }=true:=(pre_splitW hpre).2;obtain⟨d,r,rfl,h1,h2⟩:=hasAllW_cons hsh;obtain rfl:=hasAllW_nil h2;obtain⟨xs,rfl,h3⟩:=hasW_list h1;obtain⟨ns,rfl⟩:=items_int h3;have j9:ns.length<=n:=by
  unfold OpenLaw.pre at hc;have h4:(WTm.not (.lt (.lit (.int (n:Int))) (.len (.arg 0)))).holds [] { args:=[.list (ns.map .int)] }=true:=by
   have h4:=(holds_andW hc).1;rw[hn] at h4;exact h4
  have h5:=condW_of h4 (w_not (w_lt w_lit (w_len_list (w_arg rfl))));rw[Zb] at h5;refine XX λq=>?_;have q':(n:Int)<((ns.length:Nat):Int):=by lia
  first
   |(rw[Zi q'] at h5;exact absurd h5 (by decide))
   |(simp at h5;lia)
 cases hwl with
 |cons w1 w2=>
  cases w2;cases w1 with
  |list ho kH=>exact⟨_,_,ns,rfl,rfl,ho,qz4 ns _ kH,j9⟩
theorem q76 (l:OpenLaw) (args:List WData):l.row.toRowW.claim.post args (.bool true) args=true:=
 postW_of (r:=l.row.toRowW) (X:=(true==true))
  (show WShape.has [] (.bool true) .bool=true by first|rfl|decide|simp[WShape.has,WShape.arms,WShape.armsAll])
  (show (WTm.eq .res (.lit (.bool true))).value [] { args:=args,res:=some (.bool true),after:=args }=some (.bool (true==true)) from w_eq_bool (w_res rfl) w_lit) rfl
theorem attach_call {l:OpenLaw}{n:Nat}{q:Program}{loose:List Str}{XP:(Str->Option Value)->Heap->Prop}{YP:World->Heap->Prop}{d:DefRec}
  (hn:l.most=some n) (hdf:d.params.defaults=[])
  (call:∀(w:World) (s₀ s₁:Shared) (mg mb:Str->Option Value) (fa:Addr) (o:Obj) (pm cd doc:Value) (a:Addr) (vs:List Value) (ns:List Int),
   Ground q loose [] XP w s₀ mg mb s₁.heap->YP w s₁.heap ->
   s₁.heap.get? fa=some o->o.data=.func (docDef d.name d.params d.body d.scope pm cd doc)->s₁.heap.CodeRec cd d.name->mg d.name=some (.ref fa) ->
   s₁.heap.get? a=some { cls:=.type "list",data:=.seq vs.toArray }->IntsAre vs ns->ns.length<=n->s₁.gens=#[] ->
   codeAny (model l.prog w) callerA (.call (.ref fa) ⟨[.ref a],[]⟩) (λr s'=>r=.ok (.ret (.bool true))/\OldK s₁.heap s'.heap/\s'.os=s₁.os/\AllBare s'.gens) s₁) :
  WalkO q loose XP YP l.row.toRowW d [] (λf vs=>PySem.call f vs):=by
 intro w s₀ s₁ mg mb G Y fa o pm cd doc dV kV ho hd kP hD hmg hg args vals as hpre hlay hrd hwl hlo;obtain rfl:dV=.none:=Dflts.none hD hdf;obtain rfl:kV=.none:=Dflts.noKw hD;obtain⟨a,vs,ns,rfl,rfl,hobj,hints,j9⟩:=q75 hn hpre hwl;refine enter_call (Ws (call w s₀ s₁ mg mb fa o pm cd doc a vs ns G Y ho (fd_plain hd) kP hmg hobj hints j9 hg) λr s' hq=>?_);obtain⟨rfl,h2,h3,h4⟩:=hq;exact⟨.inl ⟨.bool true,.bool true,[],rfl,λ_=>rfl,.bool true,q76 l _,λ_=>⟨List.Pairwise.nil,λ_ hm=>(nomatch hm)⟩⟩,h2,h3,h4⟩
section
variable {prog:Program}{w:World}{A:Around}{E:Value->Shared->Prop}{s:Shared}{K:Frag}
end
end Att
namespace L2
open PySem PySem.Spec PyProof.Rows
theorem qK2:∀{vs:List Value}{ns:List Int},IntsAre vs ns->Vals (ns.map V.int) vs
 |_,_,.nil=>.nil
 |_,_,.cons n t h=>.cons ⟨t,rfl⟩ (qK2 h)
def Only (H:Hp):Prop:=∀b,H b=none\/∃o xs,H b=some (.frz o (.lst xs))
theorem xi2 {P:Program}{w:World}{K:PySem.W.Frag}{mg mb:Str->Option Value}{CX:CXT}{k:Nat}{fa a:Addr}{fd:FuncData}{x:Str}{sp:Sp}{s₁:Shared}{vs:List Value}{ns:List Int}
  (KX:K.In s₁.heap) (hns:s₁.heap.Ns mainGlobals mg) (hb:s₁.heap.Ns builtinsNs mb) (hbb:∀x:Str,x ≠ "__name__" -> mb x=bootBuiltins x) (hlim:s₁.heap.NoLimit) (hg:s₁.gens=#[])
  (ha:s₁.heap.get? a=some { cls:=.type "list",data:=.seq vs.toArray }) (hi:IntsAre vs ns) (hl:ns.length<=sizeLine) (hr:Room k callerA)
  (F:∀base:Heap,K.In base->base.Ns mainGlobals mg->FnOk P w K mg base CX k fa fd [x] sp) (hbind:∀(s:Shared) (u:Value),BindsTo s fd ⟨[u],[]⟩ [(x,u)])
  (kN:∀H:Hp,Only H->SqL K H a (ns.map V.int)->sp [.ref a] H (λv _=>v=.bl true) λ_ _ _=>False)
  (hCX:∀H e s',CX [] H s₁ (λ_ _ _=>False) e s'->False) :
  codeAny (model P w) callerA (.call (.ref fa) ⟨[.ref a],[]⟩) (λr s'=>r=.ok (.ret (.bool true))/\OldK s₁.heap s'.heap/\s'.os=s₁.os/\AllBare s'.gens) s₁:=by
 have rv:=qK2 hi;have lenV:=hi.length;have core:∀H:Hp,Only H->SqL K H a (ns.map V.int)->HOk P w H s₁.heap->(∀b,H b≠none->b=a)->(H a≠none->K.lookup a=none) ->
   codeAny (model P w) callerA (.call (.ref fa) ⟨[.ref a],[]⟩) (λr s'=>r=.ok (.ret (.bool true))/\OldK s₁.heap s'.heap/\s'.os=s₁.os/\AllBare s'.gens) s₁:=by
  intro H hO hS hok hA hK;have base_of:∀{b:Addr}{o:Obj},s₁.heap.get? b=some o->H b=none->(hidT s₁.heap H).get? b=some o:=λe n=>xh4 e n;have noA:∀{b:Addr}{o:Obj}{es:Array DictEntry}{ep:Nat},s₁.heap.get? b=some o->o.data=.dict es ep->H b=none:=λ{b o es ep} e d=>by
   cases q:H b with
   |none=>rfl
   |some u=>
    have e':b=a:=hA b (by rw[q];simp);subst e';rw[ha] at e;cases e;have d':Data.seq vs.toArray _=Data.dict es ep:=d;cases d'
  have nsK:∀{b:Addr}{m:Str->Option Value},s₁.heap.Ns b m->(hidT s₁.heap H).Ns b m:=λ{b m} ⟨o,es,ep,e,d,r⟩=>⟨o,es,ep,base_of e (noA e d),d,r⟩;have hKb:K.In (hidT s₁.heap H):=λb o e=>base_of (KX b o e) (by
   cases q:H b with
   |none=>rfl
   |some u=>
    have e':b=a:=hA b (by rw[q];simp);subst e';rw[hK (by rw[q];simp)] at e;cases e)
  have hM:Mod K mg (hidT s₁.heap H):=⟨hKb,nsK hns,⟨mb,nsK hb,hbb⟩,let ⟨mc,h1,h2⟩:=hlim;⟨mc,nsK h1,h2⟩⟩;have e0:Env0 P w K mg (hidT s₁.heap H) callerA [] s₁ H:=⟨rfl,hM,λb o e=>xu3 e,XV (q52 _ _),trivial,λb hb=>absurd (show b∈([]:List Addr) from hb) (by simp),hok,.of_eq hg⟩;refine Ws ((F _ hKb (nsK hns)).run callerA [] s₁ H ⟨[.ref a],[]⟩ [.ref a] [.ref a] _ _ hr e0 (hbind s₁ (.ref a)) (.cons rfl .nil) (kN H hO hS)) λr s' h=>?_;cases r with
  |error e=>exact (hCX H e s' h).elim
  |ok fl=>
   cases fl with
   |next=>exact False.elim h
   |brk=>exact False.elim h
   |cont=>exact False.elim h
   |ret u=>
    obtain⟨v,H',os,bare,un,hok',r',q⟩:=h;have q':v=.bl true:=q;subst q';obtain rfl:u=Value.bool true:=r';refine⟨rfl,OldK.of_keep λb o e=>?_,os,bare⟩;cases q:H b with
    |none=>exact un.keep b o e q (by intro z;exact absurd (show b∈([]:List Addr) from z) (by simp)) (by simp)
    |some u=>
     rcases hO b with z|⟨ob,xs,z⟩
     ·rw[q] at z;cases z
     ·have z2:=un.frzs b ob _ z;obtain⟨e1,_⟩:=hok b _ z;obtain⟨e2,_⟩:=hok' b _ z2;rw[e] at e1;cases e1;exact e2
 cases hk:K.lookup a with
 |some o=>
  have e:=KX a o hk;rw[ha] at e;cases e;refine core (λ_=>none) (λ_=>.inl rfl) (.inr ⟨_,vs.toArray,_,hk,rfl,rfl,rfl,by rw[ZA,lenV];exact hl,by simpa using rv⟩) (λb u z=>by have z':(none:Option HO)=some u:=z;cases z') (λb z=>absurd rfl z) λz=>absurd rfl z
 |none=>
  refine core (λb=>if b=a then some (.frz { cls:=.type "list",data:=.seq vs.toArray } (.lst (ns.map V.int))) else none) (λb=>?_) (.inl (.inr ⟨{ cls:=.type "list",data:=.seq vs.toArray },Zr rfl⟩)) (λb u z=>?_) (λb z=>?_) λ_=>hk
  ·by_cases hb:b=a
   ·exact .inr ⟨_,_,Zr hb⟩
   ·exact .inl (Zo hb)
  ·by_cases hb:b=a
   ·have z':=(Zr hb).symm.trans z;cases z';subst hb;exact⟨ha,by rw[Zb];exact hl,vs,_,rv,ha⟩
   ·have z':=(Zo hb).symm.trans z;cases z'
  ·by_cases hb:b=a
   ·exact hb
   ·exact absurd (Zo hb) z
theorem xv0 {l:PySem.W.OpenLaw}{n k:Nat}{q:Program}{loose:List Str}{XP:(Str->Option Value)->Heap->Prop}{YP:World->Heap->Prop}{d:DefRec}{K:Params->PySem.W.Frag}{CX:World->CXT}{sp:World->Sp}{x:Str}
  (hn:l.most=some n) (hn2:n<=sizeLine) (hdf:d.params.defaults=[]) (hr:Room k callerA)
  (hY:∀(w:World) (h:Heap),YP w h->(K w.params).In h)
  (F:∀(w:World) (mg:Str->Option Value) (fa:Addr) (h:Heap),(K w.params).In h->h.Ns mainGlobals mg->mg d.name=some (.ref fa) ->
   ∃fd:FuncData,(∀(s:Shared) (u:Value),BindsTo s fd ⟨[u],[]⟩ [(x,u)]) /\
    ∀base:Heap,(K w.params).In base->base.Ns mainGlobals mg->FnOk l.prog w (K w.params) mg base (CX w) k fa fd [x] (sp w))
  (kN:∀(w:World) (H:Hp) (a:Addr) (ns:List Int),ns.length<=n->Only H->SqL (K w.params) H a (ns.map V.int)->sp w [.ref a] H (λv _=>v=.bl true) λ_ _ _=>False)
  (hCX:∀(w:World) (H:Hp) (s:Shared) (e:Value) (s':Shared),CX w [] H s (λ_ _ _=>False) e s'->False) :
  PySem.W.WalkO q loose XP YP l.row.toRowW d [] (λf vs=>PySem.call f vs):=by
 refine Att.attach_call hn hdf λw s₀ s₁ mg mb fa o pm cd doc a vs ns G Y ho hd kP hmg hobj hints j9 hg=>?_;have KX:=hY w _ Y;obtain⟨fd,hb,hF⟩:=F w mg fa _ KX G.T.g hmg;exact xi2 KX G.T.g G.T.b G.T.builtins G.T.nolimit hg hobj hints (ZK j9 hn2) hr hF hb (λH hO hS=>kN w H a ns j9 hO hS) λH e s'=>hCX w H s₁ e s'
abbrev CX0:CXT:=λ_ _ _ _ _ _=>False
abbrev E0:XK:=λ_ _ _=>False
theorem xi3 {X:Cx}:qv9 CX0 X E0:=λ_ _ _ _ _ _ _ h=>h.elim
structure Fun (K:PySem.W.Frag) (x qual:Str) (st:Stmt) (f:Addr) (fd:FuncData):Prop where
 ex:∃(oc:Value) (od:Option Addr) (kV doc pm:Value) (an:Option Addr) (cdv ct:Value) (osl:Array (Option Value)),
  fd=PySem.W.fnOf x qual (qj7 st) (qh2 st) (qa4 st) .none kV doc pm an cdv ct/\K.lookup f=some ⟨oc,od,.func fd,osl⟩/\PySem.W.codeIn K cdv qual=true
 kp:PySem.W.keepIn K (.ref f)=true
section
variable {P:Program}{w:World}{K:PySem.W.Frag}{mg:Str->Option Value}{base:Heap}
theorem Fun.ok {x qual:Str}{st:Stmt}{f:Addr}{fd:FuncData}{N ps:List Str}{k:Nat}{sp:Sp}(F:Fun K x qual st f fd) (S:FnScope N ps (qa4 st)) (len:∀vs H Q E,sp vs H Q E->vs.length=ps.length)
  (jZ:∀(cdv:Value) (A:Around) (outer:List Env) (s:Shared) (H:Hp) (vs:List V) (Q:VK) (E:XK),Room k (A.deeper (envOfC qual (qa4 st) s.heap.objs.size f cdv))->sp vs H Q E ->
   ∃t,PSs (cxOf CX0 P w K mg base N qual (qa4 st) f cdv A outer s H E).nox (qh2 st) t/\t { nx:=λ_ H'=>Q .non H',rt:=Q } (qp6 N vs) H):FnOk P w K mg base CX0 (k+1) f fd ps sp:=by
 obtain⟨oc,od,kV,doc,pm,an,cdv,ct,osl,rfl,lk,kP⟩:=F.ex;refine xC6 lk kP S len λA outer s H vs Q E hr kN=>?_;obtain⟨t,h,q⟩:=jZ cdv A outer s H vs Q E hr kN;exact⟨t,h.nox,q⟩
theorem Fun.binds {x qual:Str}{st:Stmt}{f:Addr}{fd:FuncData}{ps:List Str}(F:Fun K x qual st f fd)
  (h:∀(kV doc pm:Value) (an:Option Addr) (cdv ct:Value) (us:List Value),us.length=ps.length->bindArgs (PySem.W.fnOf x qual (qj7 st) (qh2 st) (qa4 st) .none kV doc pm an cdv ct) ⟨us,[]⟩=pure (ps.zip us)):Binds K fd ps []:=by
 obtain⟨oc,od,kV,doc,pm,an,cdv,ct,osl,rfl,lk,kP⟩:=F.ex;exact .all (h kV doc pm an cdv ct)
theorem q77 {x qual:Str}{st:Stmt}{f:Addr}{oc:Value}{od an:Option Addr}{osl:Array (Option Value)}{kV doc pm cdv ct:Value}(l:K.lookup f=some ⟨oc,od,.func (PySem.W.fnOf x qual (qj7 st) (qh2 st) (qa4 st) .none kV doc pm an cdv ct),osl⟩)
  (c:PySem.W.codeIn K cdv qual=true) (k:PySem.W.keepIn K (.ref f)=true):Fun K x qual st f (PySem.W.fnOf x qual (qj7 st) (qh2 st) (qa4 st) .none kV doc pm an cdv ct):=⟨⟨oc,od,kV,doc,pm,an,cdv,ct,osl,rfl,l,c⟩,k⟩
end
theorem qh4 {n:Nat}(h:n<=1000):n<sizeLine:=Wj h (by decide)
section
variable {X:Cx}
theorem pv (i:Nat){x:Str}{pos:Pos}(hN:X.N[i]?=some x:=by rfl) (hv:Vis X.env.scope x:=by first|exact Or.inl rfl|exact Or.inr (Or.inl rfl)|exact Or.inr (Or.inr rfl)) (hd:(x==("__debug__" : Str))=false:=by decide)
  (kP:(x==("__classdict__" : Str))=false:=by decide):PE X (.Name x pos) (tVar i):=xC1 hN hv hd kP
end
theorem iteF {A B:Prop}(h:B):if false=true then A else B:=by
 rw[Zo Zu];exact h
theorem iteT {A B:Prop}(h:A):if true=true then A else B:=by
 rw[Zr rfl];exact h
theorem ite2 {c A B:Prop}[Decidable c] (h1:c->A) (h2:¬c->B):if c then A else B:=by
 by_cases h:c
 ·rw[Zr h];exact h1 h
 ·rw[Zo h];exact h2 h
theorem xv1 {c A B:Prop}[Decidable c] (hc:c) (h:B):if (!decide c)=true then A else B:=by
 rw[Zi hc];exact iteF h
def Same (H H':Hp):Prop:=∀b o,H b=some o->H' b=some o
theorem Same.refl (H:Hp):Same H H:=λ_ _ h=>h
theorem Same.trans {H H1 H2:Hp}(a:Same H H1) (b:Same H1 H2):Same H H2:=λc o h=>b c o (a c o h)
theorem Same.seq {K:PySem.W.Frag}{H H':Hp}{a:Addr}{xs:List V}(e:Same H H') (h:SqL K H a xs):SqL K H' a xs:=by
 rcases h with (h|⟨o,h⟩)|h
 ·exact .inl (.inl (e _ _ h))
 ·exact .inl (.inr ⟨o,e _ _ h⟩)
 ·exact .inr h
section
variable {X:Cx}
theorem qu4 {env:Env}:∀{names:List (Str×NameKind)}{acc:List (Str×Addr)},
  (∀p∈names,p.2=.free->∃c,cellOf env p.1=pure c/\env.cells.lookup p.1=some c) ->
  (∀y c,acc.lookup y=some c->env.cells.lookup y=some c) ->
  ∃cl:List (Str×Addr),(forIn names acc λp cs=>(if p.2==.free then (do let c <- cellOf env p.1;pure (ForInStep.yield ((p.1,c)::cs))) else pure (ForInStep.yield cs):Sem (ForInStep (List (Str×Addr)))))=pure cl /\
   (∀y c,cl.lookup y=some c->env.cells.lookup y=some c)/\(∀y,(acc.lookup y).isSome=true->(cl.lookup y).isSome=true)/\∀p∈names,p.2=.free->(cl.lookup p.1).isSome=true
 |[],acc,_,ha=>⟨acc,by simp,ha,λ_ h=>h,λ_ h=>absurd h (by simp)⟩
 |(n,k)::r,acc,hn,ha=>by
  by_cases hk:k=.free
  ·subst hk;obtain⟨c,e1,e2⟩:=hn (n,.free) ZC rfl;obtain⟨cl,h1,h2,h3,h4⟩:=qu4 (env:=env) (names:=r) (acc:=(n,c)::acc) (λp hp=>hn p (Zs _ hp)) (λy d h=>by
    rw[Yt] at h;cases hy:y==n with
    |true=>rw[hy] at h;cases h;rw[eq_of_beq hy];exact e2
    |false=>rw[hy] at h;exact ha y d h)
   refine⟨cl,?_,h2,λy hy=>h3 y (by
    rw[Yt];cases y==n with
    |true=>rfl
    |false=>exact hy),λp hp hf=>?_⟩
   ·rw[WL];have e1':cellOf env n=pure c:=e1;simp only[WG,Vr,e1',WX];exact h1
   ·rcases Zy.mp hp with rfl|hp
    ·exact h3 _ (by simp[Yt])
    ·exact h4 p hp hf
  ·obtain⟨cl,h1,h2,h3,h4⟩:=qu4 (env:=env) (names:=r) (acc:=acc) (λp hp=>hn p (Zs _ hp)) ha;refine⟨cl,?_,h2,h3,λp hp hf=>?_⟩
   ·rw[WL];have:(k==NameKind.free)=false:=by simpa using hk
    simp only[this,Yh,Wa,WX];exact h1
   ·rcases Zy.mp hp with rfl|hp
    ·exact absurd hf hk
    ·exact h4 p hp hf
def xv2 (wi:TI) (te:TE):TE:=λσ H Q=>wi σ H λJ H1=>∀D,H1 D=none->∃W:Nat->Nat->List V->Hp->Prop,(∃m,W 0 m [] (upd H1 D (.lst []))) /\
 ∀i m xs H2,W i m xs H2->H2 D=some (.lst xs)/\xs.length<sizeLine/\((J.stop i H2/\Q (.ref D) H2)\/(J.go i H2/\∀y H3,J.yld i H2 y H3 ->
  te (some y::σ) H3 λv H4=>H4 D=some (.lst xs)/\∃m',m'<m/\W (i+1) m' (xs++[v]) (upd H4 D (.lst (xs++[v])))))
theorem qo0 {scope:Scope}{env:Env}(hf:∀p∈scope.names,p.2=.free->∃c,env.cells.lookup p.1=some c) :
  ∃cl:List (Str×Addr),closureFor scope env=pure cl/\(∀y c,cl.lookup y=some c->env.cells.lookup y=some c)/\∀p∈scope.names,p.2=.free->(cl.lookup p.1).isSome=true:=by
 obtain⟨cl,h1,h2,_,h4⟩:=qu4 (env:=env) (names:=scope.names) (acc:=[]) (λp hp hk=>by
  obtain⟨c,e⟩:=hf p hp hk;refine⟨c,?_,e⟩;unfold cellOf;rw[e]) (λy c h=>by simp at h)
 refine⟨cl,?_,h2,h4⟩;unfold closureFor;refine Eq.trans ?_ h1;simp only[bind_pure]
theorem qk1 {env:Env}:∀{names:List (Str×NameKind)}{y:Str}{k:NameKind},(names.map λ(n,k)=>if (k==NameKind.free&&env.scope.kind==.function&&env.kindOf n==some .cell) then (n,NameKind.cell) else (n,k)).lookup y=some k ->
  (∀p∈names,p.2≠.cell)->(k=.cell\/k=.free)->∃p∈names,p.1=y/\p.2=.free
 |[],_,_,h,_,_=>by simp at h
 |(n,k0)::r,y,k,h,hc,hk=>by
  rw[ZH] at h;by_cases hy:y=n
  ·subst hy;by_cases h0:k0=.free
   ·exact⟨(y,k0),ZC,rfl,h0⟩
   ·exfalso;have e:(k0==NameKind.free)=false:=by simpa using h0
    simp only[e,Vk,Yh,Wa,Yt,WG,Option.some.injEq] at h;rcases hk with z|z
    ·exact hc _ ZC (h.trans z)
    ·exact h0 (h.trans z)
  ·have hb:(y==n)=false:=by simpa using hy
   have h':(r.map λ(n,k)=>if (k==NameKind.free&&env.scope.kind==.function&&env.kindOf n==some .cell) then (n,NameKind.cell) else (n,k)).lookup y=some k:=by
    revert h;dsimp only;split<;>(intro h;simpa only [Yt,hb] using h)
   obtain⟨p,hp,e⟩:=qk1 h' (λp hp=>hc p (Zs _ hp)) hk;exact⟨p,Zs _ hp,e⟩
theorem qr4 {env:Env}:∀{names:List (Str×NameKind)}{y:Str},(names.map λ(n,k)=>if (k==NameKind.free&&env.scope.kind==.function&&env.kindOf n==some .cell) then (n,NameKind.cell) else (n,k)).lookup y=some .local ->
  names.lookup y=some .local
 |[],_,h=>by simp at h
 |(n,k0)::r,y,h=>by
  rw[ZH] at h;by_cases hy:y=n
  ·subst hy;rw[Yt,WG];revert h;dsimp only;split
   ·intro h;simp[Yt] at h
   ·intro h;simpa [Yt] using h
  ·have hb:(y==n)=false:=by simpa using hy
   rw[Yt,hb];refine qr4 (env:=env) ?_;revert h;dsimp only;split<;>(intro h;simpa only [Yt,hb] using h)
end
section
variable {κ:Type}[DecidableEq κ]
def valV (kvs:List (κ×V)) (k:κ):Option V:=(kvs.find? λkv=>decide (kv.1=k)).map (·.2)
def putK (kvs:List (κ×V)) (k:κ) (v:V):List (κ×V):=
 if (kvs.any λkv=>decide (kv.1=k))=true then kvs.map (λkv=>if kv.1=k then (kv.1,v) else kv) else kvs++[(k,v)]
theorem xi4 {k:κ}:valV ([]:List (κ×V)) k=none:=rfl
theorem qg3 {p:κ×V}{r:List (κ×V)}{k:κ}(e:p.1=k):valV (p::r) k=some p.2:=by simp[valV,Xx,e]
theorem qe8 {p:κ×V}{r:List (κ×V)}{k:κ}(e:¬p.1=k):valV (p::r) k=valV r k:=by simp[valV,Xx,e]
theorem qj2 (k:κ):∀kvs:List (κ×V),(kvs.any λkv=>decide (kv.1=k))=(valV kvs k).isSome
 |[]=>rfl
 |p::r=>by
  rw[Xj];by_cases e:p.1=k
  ·simp only[qg3 e,Zi e,Bool.true_or,Option.isSome_some]
  ·rw[qe8 e,Zk e,Bool.false_or];exact qj2 k r
theorem qU6 (k j:κ) (y:V):∀kvs:List (κ×V),valV (kvs.map λkv=>if kv.1=k then (kv.1,y) else kv) j=(valV kvs j).map λx=>if j=k then y else x
 |[]=>rfl
 |p::r=>by
  have ih:=qU6 k j y r;rw[ZH];by_cases h:p.1=k
  ·rw[Zr h];by_cases e:p.1=j
   ·rw[qg3 (p:=(p.1,y)) e,qg3 e,WM,Zr (e.symm.trans h)]
   ·rw[qe8 (p:=(p.1,y)) e,qe8 e,ih]
  ·rw[Zo h];by_cases e:p.1=j
   ·rw[qg3 (p:=p) e,qg3 e,WM,Zo (λz=>h (e.trans z))]
   ·rw[qe8 (p:=p) e,qe8 e,ih]
theorem qK3 (k j:κ) (y:V):∀kvs:List (κ×V),valV kvs k=none->valV (kvs++[(k,y)]) j=if j=k then some y else valV kvs j
 |[],_=>by
  by_cases e:k=j
  ·rw[Zr e.symm];exact qg3 (p:=(k,y)) e
  ·rw[Zo (λz=>e z.symm)];exact qe8 (p:=(k,y)) e
 |p::r,hn=>by
  rw[List.cons_append];have hk:¬p.1=k:=λz=>by rw[qg3 z] at hn;cases hn
  rw[qe8 hk] at hn;have ih:=qK3 k j y r hn;by_cases e:p.1=j
  ·rw[qg3 e,qg3 e,Zo (λz=>hk (e.trans z))]
  ·rw[qe8 e,qe8 e,ih]
theorem qF2 (kvs:List (κ×V)) (k j:κ) (y:V):valV (putK kvs k y) j=if j=k then some y else valV kvs j:=by
 unfold putK;by_cases a:(kvs.any λkv=>decide (kv.1=k))=true
 ·rw[Zr a,qU6];rw[qj2] at a;by_cases e:j=k
  ·obtain⟨x,hx⟩:=Xi.mp a;rw[Zr e,e,hx,WM,Zr rfl]
  ·rw[Zo e];cases valV kvs j with
   |none=>rfl
   |some x=>rw[WM,Zo e]
 ·rw[Zo a];refine qK3 k j y kvs ?_;rw[qj2] at a;cases q:valV kvs k with
  |none=>rfl
  |some x=>rw[q] at a;exact (a rfl).elim
theorem qm6 (kvs:List (κ×V)) (k:κ) (v:V):(putK kvs k v).length<=kvs.length+1:=by
 unfold putK;split
 ·rw[Zb];lia
 ·rw[Zj,ZQ,List.length_nil];lia
theorem xi5 {kvs:List (κ×V)}{k:κ}(v:V) (h:valV kvs k=none):putK kvs k v=kvs++[(k,v)]:=by
 unfold putK;rw[qj2,h];exact Zo (by decide)
theorem RelO.isSome_eq {o:Option V}{u:Option Value}(r:RelO o u):o.isSome=u.isSome:=by
 cases o with
 |none=>cases u with
  |none=>rfl
  |some _=>exact (show False from r).elim
 |some _=>cases u with
  |none=>exact (show False from r).elim
  |some _=>rfl
theorem KV.val {kvs:List (κ×V)}{vs:List (κ×Value)}(r:KV kvs vs) (k:κ):RelO (valV kvs k) (valueAt vs k):=by
 unfold KV at r
 induction r with
 |nil=>exact True.intro
 |@cons p q ps qs h t ih=>
  obtain⟨h1,h2⟩:=h;by_cases e:p.1=k
  ·have e':q.1=k:=h1.symm.trans e;have b:valueAt (q::qs) k=some q.2:=by simp[valueAt,Xx,e']
   rw[qg3 e,b];exact h2
  ·have e':¬q.1=k:=λz=>e (h1.trans z);have b:valueAt (q::qs) k=valueAt qs k:=by simp[valueAt,Xx,e']
   rw[qe8 e,b];exact ih
theorem KV.any {kvs:List (κ×V)}{vs:List (κ×Value)}(r:KV kvs vs) (k:κ):(kvs.any λkv=>decide (kv.1=k))=vs.any λkv=>decide (kv.1=k):=by
 unfold KV at r
 induction r with
 |nil=>rfl
 |cons h t ih=>rw[Xj,Xj,ih,h.1]
theorem KV.repl {kvs:List (κ×V)}{vs:List (κ×Value)}(r:KV kvs vs) (k:κ){y:V}{u:Value}(ry:RelV y u) :
  KV (kvs.map λkv=>if kv.1=k then (kv.1,y) else kv) (vs.map λkv=>if kv.1=k then (kv.1,u) else kv):=by
 unfold KV at r ⊢
 induction r with
 |nil=>exact .nil
 |@cons p q ps qs h t ih=>
  rw[ZH,ZH];refine .cons ?_ ih;obtain⟨h1,h2⟩:=h;by_cases e:p.1=k
  ·rw[Zr e,Zr (h1.symm.trans e)];exact⟨h1,ry⟩
  ·rw[Zo e,Zo (λz=>e (h1.trans z))];exact⟨h1,h2⟩
theorem KV.put {kvs:List (κ×V)}{vs:List (κ×Value)}(r:KV kvs vs) (k:κ){y:V}{u:Value}(ry:RelV y u):KV (putK kvs k y) (stored vs k u):=by
 unfold putK stored;rw[r.any k];by_cases e:(vs.any λkv=>decide (kv.1=k))=true
 ·rw[Zr e,Zr e];exact r.repl k ry
 ·rw[Zo e,Zo e];exact Paired.snoc r ⟨rfl,ry⟩
theorem KV.keys {kvs:List (κ×V)}{vs:List (κ×Value)}(r:KV kvs vs):kvs.map (·.1)=vs.map (·.1):=by
 unfold KV at r
 induction r with
 |nil=>rfl
 |cons h t ih=>rw[ZH,ZH,ih,h.1]
theorem KV.length {kvs:List (κ×V)}{vs:List (κ×Value)}(r:KV kvs vs):kvs.length=vs.length:=Va r
end
theorem q11 {P:Program}{w:World}{k:Key}{u:Value}(r:RelV (kV k) u):(qd6 P w).is k u=true:=by
 cases k with
 |inl i=>obtain⟨t,e⟩:=(show ∃t,u=Value.int i t from r);subst e;exact qP8 P w i t
 |inr x=>obtain⟨t,e⟩:=(show ∃t,u=Value.str x t from r);subst e;exact qP9 P w x t
theorem qK4 {P:Program}{w:World}:∀{ks:List Key}{us:List Value},Vals (ks.map kV) us->ItemsAre (qd6 P w) ks us
 |[],_,r=>by rw[List.map_nil] at r;cases r;exact .nil
 |k::ks,_,r=>by
  rw[ZH] at r;cases r with
  |cons h t=>exact .cons (q11 h) (qK4 t)
abbrev KT (H:Hp):List (List Key×V)->List (List Key×Addr×Value)->Prop:=Paired λp q=>p.1=q.1/\H q.2.1=some (.tup (p.1.map kV))/\RelV p.2 q.2.2
theorem KT.val {H:Hp}{kvs:List (List Key×V)}{xs:List (List Key×Addr×Value)}(r:KT H kvs xs) (k:List Key):RelO (valV kvs k) ((atKey xs k).map (·.2)):=by
 induction r with
 |nil=>exact True.intro
 |@cons p q ps qs h t ih=>
  obtain⟨h1,_,h2⟩:=h;by_cases e:p.1=k
  ·have e':q.1=k:=h1.symm.trans e;have b:atKey (q::qs) k=some q.2:=by simp[atKey,Xx,e']
   rw[qg3 e,b];exact h2
  ·have e':¬q.1=k:=λz=>e (h1.trans z);have b:atKey (q::qs) k=atKey qs k:=by simp[atKey,Xx,e']
   rw[qe8 e,b];exact ih
theorem KT.repl {H:Hp}{kvs:List (List Key×V)}{xs:List (List Key×Addr×Value)}(r:KT H kvs xs) (k:List Key){y:V}{u:Value}(ry:RelV y u) :
  KT H (kvs.map λkv=>if kv.1=k then (kv.1,y) else kv) (xs.map (putAt k u)):=by
 induction r with
 |nil=>exact .nil
 |@cons p q ps qs h t ih=>
  rw[ZH,ZH];refine .cons ?_ ih;obtain⟨h1,h2,h3⟩:=h;unfold putAt;by_cases e:p.1=k
  ·rw[Zr e,Zr (h1.symm.trans e)];exact⟨h1,h2,ry⟩
  ·rw[Zo e,Zo (λz=>e (h1.trans z))];exact⟨h1,h2,h3⟩
theorem KT.put {H:Hp}{kvs:List (List Key×V)}{xs:List (List Key×Addr×Value)}(r:KT H kvs xs) (k:List Key){b:Addr}{y:V}{u:Value}(hb:H b=some (.tup (k.map kV))) (ry:RelV y u) :
  KT H (putK kvs k y) (storedH xs k b u):=by
 have e:(kvs.any λkv=>decide (kv.1=k))=(atKey xs k).isSome:=by
  rw[qj2,(r.val k).isSome_eq,W5]
 unfold putK storedH;rw[e];by_cases q:(atKey xs k).isSome=true
 ·rw[Zr q,Zr q];exact r.repl k ry
 ·rw[Zo q,Zo q];exact Paired.snoc r ⟨rfl,hb,ry⟩
theorem KT.keeps {H H':Hp}{kvs:List (List Key×V)}{xs:List (List Key×Addr×Value)}(r:KT H kvs xs) (ht:∀b ys,H b=some (.tup ys)->H' b=some (.tup ys)):KT H' kvs xs:=
 Paired.mapP r λ_ _ z=>⟨z.1,ht _ _ z.2.1,z.2.2⟩
section
variable {P:Program}{w:World}{H:Hp}{h:Heap}{a:Addr}
theorem xD2 {u:HO}(ok:HOk P w H h) (e:Rd H a u):ObjOk P w H h a u:=e.ok ok
theorem q78 {kvs:List (Key×V)}(ok:HOk P w H h) (e:Rd H a (.dK kvs)):kvs.length<=sizeLine/\(a==sysModules)=false/\∃vs,KV kvs vs/\h.DictOf (qd6 P w) a vs:=
 show ObjOk P w H h a (.dK kvs) from xD2 ok e
theorem xv3 {kvs:List (Key×V)}(ok:HOk P w H h) (e:H a=some (.dK kvs)):kvs.length<=sizeLine/\(a==sysModules)=false/\∃vs,KV kvs vs/\h.DictOf (qd6 P w) a vs:=q78 ok (.inl e)
theorem qD4 {ks:List Key}(ok:HOk P w H h) (e:H a=some (.tup (ks.map kV))):(tupleKind (qd6 P w)).is h ks a:=by
 obtain⟨_,its,r,o,h1,h2,n,h3⟩:=(show ObjOk P w H h a (.tup (ks.map kV)) from ok a _ e);exact⟨o,its.toArray,n,h1,h2,h3,by simpa using qK4 r⟩
theorem q79 {kvs:List (List Key×V)}(ok:HOk P w H h) (e:Rd H a (.dT kvs)):kvs.length<=sizeLine/\(a==sysModules)=false /\
  ∃xs,KT H kvs xs/\h.DictOfH (tupleKind (qd6 P w)) a xs:=by
 obtain⟨z,y,xs,r,o,es,ep,h1,h2,h3,h4,h5⟩:=(show ObjOk P w H h a (.dT kvs) from xD2 ok e);refine⟨z,y,xs,r,o,es,ep,h1,h2,h3,h4,λx hx=>?_,h5⟩;have all:∀{l:List (List Key×V)}{m:List (List Key×Addr×Value)},KT H l m->∀x∈m,(tupleKind (qd6 P w)).is h x.1 x.2.1:=by
  intro l m q
  induction q with
  |nil=>intro x hx;exact nomatch hx
  |@cons p q ps qs hq t ih=>
   intro x hx;rcases Zy.mp hx with e|hx
   ·subst e;exact qD4 ok (by rw[<- hq.1];exact hq.2.1)
   ·exact ih x hx
 exact all r x hx
theorem xD3 {kvs:List (List Key×V)}(ok:HOk P w H h) (e:H a=some (.dT kvs)):kvs.length<=sizeLine/\(a==sysModules)=false /\
  ∃xs,KT H kvs xs/\h.DictOfH (tupleKind (qd6 P w)) a xs:=q79 ok (.inl e)
end
def DGet (H:Hp) (a:Addr) (y:V) (r:Option V):Prop:=
 (∃kvs k,Rd H a (.dK kvs)/\y=kV k/\r=valV kvs k)\/∃kvs k b,Rd H a (.dT kvs)/\y=.ref b/\H b=some (.tup (k.map kV))/\r=valV kvs k
def DPut (H:Hp) (a:Addr) (y v:V) (H':Hp):Prop:=
 (∃kvs k,H a=some (.dK kvs)/\y=kV k/\kvs.length<sizeLine/\H'=upd H a (.dK (putK kvs k v))) \/
 ∃kvs k b,H a=some (.dT kvs)/\y=.ref b/\H b=some (.tup (k.map kV))/\kvs.length<sizeLine/\H'=upd H a (.dT (putK kvs k v))
theorem DGet.k {H:Hp}{a:Addr}{kvs:List (Key×V)}{k:Key}(e:H a=some (.dK kvs)):DGet H a (kV k) (valV kvs k):=.inl ⟨kvs,k,.inl e,rfl,rfl⟩
theorem DGet.t {H:Hp}{a b:Addr}{kvs:List (List Key×V)}{k:List Key}(e:H a=some (.dT kvs)) (eb:H b=some (.tup (k.map kV))):DGet H a (.ref b) (valV kvs k):=.inr ⟨kvs,k,b,.inl e,rfl,eb,rfl⟩
theorem DPut.k {H:Hp}{a:Addr}{kvs:List (Key×V)}{k:Key}{v:V}(e:H a=some (.dK kvs)) (hl:kvs.length<sizeLine):DPut H a (kV k) v (upd H a (.dK (putK kvs k v))):=.inl ⟨kvs,k,e,rfl,hl,rfl⟩
theorem DPut.t {H:Hp}{a b:Addr}{kvs:List (List Key×V)}{k:List Key}{v:V}(e:H a=some (.dT kvs)) (eb:H b=some (.tup (k.map kV))) (hl:kvs.length<sizeLine) :
  DPut H a (.ref b) v (upd H a (.dT (putK kvs k v))):=.inr ⟨kvs,k,b,e,rfl,eb,hl,rfl⟩
section
variable {X:Cx}{j8:List (Addr×Obj)}{σ:St}{H:Hp}{s:Shared}{a:Addr}{y v:V}{u r:Value}{o:Option V}{A:Around}{E:Value->Shared->Prop}
theorem Inv.big (I:Inv X j8 σ H s):sysModules<s.heap.objs.size:=by
 have h:mainGlobals<s.heap.objs.size:=(I.mod.glob.keeps I.bk).lt;exact Ww (by decide) h
theorem q80 {Q:Value->Shared->Prop}(hu:A.units+1<cLine) (I:Inv X j8 σ H s) (g:DGet H a y (some v)) (ry:RelV y u) (h:∀w' s',Inv X j8 σ H s'->RelV v w'->Q w' s') :
  wpAny (model X.prog X.w) A (getItem (.ref a) u) Q E s:=by
 rcases g with ⟨kvs,k,e,ey,l⟩|⟨kvs,k,b,e,ey,eb,l⟩
 ·subst ey;obtain⟨z,hd,vs,rel,dd⟩:=q78 I.hok e;obtain⟨w',hw,rw'⟩:=RelO.some_of (v:=v) (o:=valueAt vs k) (by rw[l];exact rel.val k);exact wpAny_getItem_of (q11 ry) dd.mapOf hw (h w' _ (I.tok _) rw')
 ·subst ey;cases (show u=Value.ref b from ry);obtain⟨z,hd,xs,rel,dd⟩:=q79 I.hok e;obtain⟨w',hw,rw'⟩:=RelO.some_of (v:=v) (o:=(atKey xs k).map (·.2)) (by rw[l];exact rel.val k);obtain⟨p,hp,jI⟩:=Zw.mp hw;refine wpAny_getItem_heap (Xs hu) (qD4 I.hok eb) dd hp ?_;rw[jI];exact h w' _ (I.tok _) rw'
theorem d_in {Q:Value->Shared->Prop}(hu:A.units+1<cLine) (I:Inv X j8 σ H s) (g:DGet H a y o) (ry:RelV y u) (h:∀s',Inv X j8 σ H s'->Q (.bool o.isSome) s') :
  wpAny (model X.prog X.w) A (compareOp .In u (.ref a)) Q E s:=by
 rcases g with ⟨kvs,k,e,ey,l⟩|⟨kvs,k,b,e,ey,eb,l⟩
 ·subst ey;obtain⟨z,hd,vs,rel,dd⟩:=q78 I.hok e;refine wpAny_in_of (q11 ry) hd dd.mapOf ?_;rw[<- (rel.val k).isSome_eq,<- l];exact h _ (I.tok _)
 ·subst ey;cases (show u=Value.ref b from ry);obtain⟨z,hd,xs,rel,dd⟩:=q79 I.hok e;refine wpAny_in_heap (Xs hu) (qD4 I.hok eb) hd dd ?_;have q:=(rel.val k).isSome_eq;rw[W5] at q;rw[<- q,<- l];exact h _ (I.tok _)
theorem xv4 {Q:Value->Shared->Prop}(hu:A.units+1<cLine) (I:Inv X j8 σ H s) (g:DGet H a y o) (ry:RelV y u) (h:∀s',Inv X j8 σ H s'->Q (.bool (!o.isSome)) s') :
  wpAny (model X.prog X.w) A (compareOp .NotIn u (.ref a)) Q E s:=by
 rcases g with ⟨kvs,k,e,ey,l⟩|⟨kvs,k,b,e,ey,eb,l⟩
 ·subst ey;obtain⟨z,hd,vs,rel,dd⟩:=q78 I.hok e;refine wpAny_notIn_of (q11 ry) hd dd.mapOf ?_;rw[<- (rel.val k).isSome_eq,<- l];exact h _ (I.tok _)
 ·subst ey;cases (show u=Value.ref b from ry);obtain⟨z,hd,xs,rel,dd⟩:=q79 I.hok e;refine wpAny_notIn_heap (Xs hu) (qD4 I.hok eb) hd dd ?_;have q:=(rel.val k).isSome_eq;rw[W5] at q;rw[<- q,<- l];exact h _ (I.tok _)
theorem qF3 {h':Heap}{t':Nat}{ob:HO}(I:Inv X j8 σ H s) (mu:Mut (H a)) (hs:Heap.SameBut a s.heap h') (he:∃q,h'.get? a=some q) (new:ObjOk X.prog X.w (upd H a ob) h' a ob) :
  Inv X j8 σ (upd H a ob) { s with heap:=h',toks:=t' }:=
 I.write (x:=a) (e:=a) mu (.inl rfl) (λb q hb z=>(hs.2 b hb).trans z) he new
theorem xq9 {P:Program}{w:World}{H':Hp}{h':Heap}{kvs:List (Key×V)}{vs:List (Key×Value)}(z:kvs.length<=sizeLine) (hd:(a==sysModules)=false) (rel:KV kvs vs) (dd:h'.DictOf (qd6 P w) a vs) :
  ObjOk P w H' h' a (.dK kvs):=⟨z,hd,vs,rel,dd⟩
theorem q81 {H':Hp}{Q:Unit->Shared->Prop}(hu:A.units+1<cLine) (I:Inv X j8 σ H s) (g:DPut H a y v H') (ry:RelV y u) (rv:RelV v r) (h:∀s',Inv X j8 σ H' s'->Q () s') :
  wpAny (model X.prog X.w) A (setItem (.ref a) u r) Q E s:=by
 rcases g with ⟨kvs,k,e,ey,l,eH⟩|⟨kvs,k,b,e,ey,eb,l,eH⟩
 ·subst ey eH;obtain⟨z,hd,vs,rel,dd⟩:=xv3 I.hok e;have hz:vs.length<=sizeLine:=by rw[<- rel.length];exact z
  have hl:(putK kvs k v).length<=sizeLine:=by have:=qm6 kvs k v;lia
  refine wpAny_setItem_pairs (hsz:=hz) (q11 ry) dd λh' dd' hs=>h _ ?_;have he:∃q,h'.get? a=some q:=let ⟨q,_,_,hq,_⟩:=dd';⟨q,hq⟩;exact qF3 I (by rw[e];exact True.intro) hs he (xq9 hl hd (rel.put k rv) dd')
 ·subst ey eH;cases (show u=Value.ref b from ry);obtain⟨z,hd,xs,rel,dd⟩:=xD3 I.hok e;have hz:xs.length<=sizeLine:=by rw[<- Va rel];exact z
  have hl:(putK kvs k v).length<=sizeLine:=by have:=qm6 kvs k v;lia
  refine wpAny_setItem_heap (hsz:=hz) (Xs hu) (qD4 I.hok eb) dd λh' dd' hs=>h _ ?_;obtain⟨q,es,ep,hq,h2,h3,h4,_,h5⟩:=dd';refine qF3 I (by rw[e];exact True.intro) hs ⟨q,hq⟩ ⟨hl,hd,_,(rel.put k eb rv).keeps λc ys ec=>?_,q,es,ep,hq,h2,h3,h4,h5⟩;rw[qa6 (qp9 ec e (λz=>nomatch z))];exact ec
end
section
variable {X:Cx}{j8:List (Addr×Obj)}{σ:St}{H:Hp}{s:Shared}{a:Addr}{kvs:List (Key×V)}{k:Key}{u:Value}{A:Around}{E:Value->Shared->Prop}
end
def NoSl (i:Expr):Prop:=∀ov iv,subscripted i false ov iv=operate [ov,iv] (getItem ov iv)
theorem xv5 {prog:Program}{w:World}{A:Around}{E:Value->Shared->Prop}{s:Shared}{env:Env}{value slice:Expr}{pos:Pos}{T id:String}{Q:Value->Shared->Prop}
  (hl:typeLookup (.type T) "__getitem__" = pure (some (.builtin id))) (hs:NoSl slice)
  (h:wpAny (model prog w) A (eval value env) (λo s₁=>wpAny (model prog w) A (eval slice env) (λi s₂=>s₂.TypeIs o T/\wpAny (model prog w) A (getItem o i) Q E s₂) E s₁) E s) :
  wpAny (model prog w) A (eval (.Subscript value slice pos) env) Q E s:=by
 refine Subscript_ (Yq h (λo s₁ h₁=>Yq h₁ (λi s₂ h₂=>?_) λ_ _ x=>x) λ_ _ x=>x);obtain⟨hT,h₂⟩:=h₂;unfold subscriptTail;refine Za ?_;rw[getitemInPython_of_ne hT.not_modules];refine Za (wpAny_specialOf hT hl ?_);have fin:wpAny (model prog w) A (subscripted slice false o i) (λr s₃=>wpAny (model prog w) A (letTemporaryGo value o r >>= λ_=>pure r) Q E s₃) E s₂:=by
  rw[hs o i];exact wpAny_operating (Yq h₂ (λr s₃ h₃=>Za (wpAny_letTemporaryGo (Zm h₃))) λ_ _ x=>x)
 first
  |exact Zm (Za fin)
  |exact Za (Zm (Za fin))
  |exact Za fin
theorem qQ4 {X:Cx}{j8:List (Addr×Obj)}{σ:St}{H:Hp}{s:Shared}{a:Addr}{y:V}{o:Option V}(I:Inv X j8 σ H s) (g:DGet H a y o):s.TypeIs (.ref a) "dict":=by
 rcases g with ⟨kvs,k,e,_,_⟩|⟨kvs,k,b,e,_,_,_⟩
 ·obtain⟨_,_,vs,_,dd⟩:=q78 I.hok e;exact dd.typeIs
 ·obtain⟨_,_,xs,_,dd⟩:=q79 I.hok e;exact dd.typeIs
def xK0 (td ty:TE):TE:=λσ H Q=>td σ H λx H1=>ty σ H1 λy H2=>∃a v,x=.ref a/\DGet H2 a y (some v)/\Q v H2
def tDIn (ty td:TE):TE:=λσ H Q=>ty σ H λy H1=>td σ H1 λx H2=>∃a o,x=.ref a/\DGet H2 a y o/\Q (.bl o.isSome) H2
def xv6 (ty td:TE):TE:=λσ H Q=>ty σ H λy H1=>td σ H1 λx H2=>∃a o,x=.ref a/\DGet H2 a y o/\Q (.bl (!o.isSome)) H2
def xK1 (td ty tv:TE):TS:=λD σ H=>tv σ H λv H1=>td σ H1 λx H2=>ty σ H2 λy H3=>∃a H4,x=.ref a/\DPut H3 a y v H4/\D.nx σ H4
section
variable {X:Cx}{o i e value:Expr}{pos pos' tpos:Pos}{td ty tv:TE}
theorem qQ5 (hu:X.A.units+1<cLine) (ho:PE X o td) (hi:PE X i ty) (hs:NoSl i):PE X (.Subscript o i pos) (xK0 td ty):=by
 intro j8 s σ H Q I h;refine xv5 PySem.F.slot_dict_getitem.lookup hs (thn (ho j8 s σ H _ I h) λu s1 ⟨x,H1,I1,rx,q1⟩=>thn (hi j8 s1 σ H1 _ I1 q1) λiv s2 ⟨y,H2,I2,ry,a,v,ex,g,q2⟩=>?_);subst ex;obtain rfl:u=Value.ref a:=rx;exact⟨qQ4 I2 g,q80 hu I2 g ry λw' s3 I3 rw'=>⟨v,H2,I3,rw',q2⟩⟩
theorem xr0 (hu:X.A.units+1<cLine) (hi:PE X i ty) (ho:PE X o td):PC X .In i o (tDIn ty td):=by
 intro j8 s σ H Q I h;refine thn (hi j8 s σ H _ I h) λiv s1 ⟨y,H1,I1,ry,q1⟩=>thn (ho j8 s1 σ H1 _ I1 q1) λu s2 ⟨x,H2,I2,rx,a,ov,ex,g,q2⟩=>?_;subst ex;obtain rfl:u=Value.ref a:=rx;exact d_in hu I2 g ry λs3 I3=>⟨.bl ov.isSome,H2,I3,rfl,q2⟩
theorem qK5 (hu:X.A.units+1<cLine) (hi:PE X i ty) (ho:PE X o td):PC X .NotIn i o (xv6 ty td):=by
 intro j8 s σ H Q I h;refine thn (hi j8 s σ H _ I h) λiv s1 ⟨y,H1,I1,ry,q1⟩=>thn (ho j8 s1 σ H1 _ I1 q1) λu s2 ⟨x,H2,I2,rx,a,ov,ex,g,q2⟩=>?_;subst ex;obtain rfl:u=Value.ref a:=rx;exact xv4 hu I2 g ry λs3 I3=>⟨.bl (!ov.isSome),H2,I3,rfl,q2⟩
theorem qF4 (hu:X.A.units+1<cLine) (ho:PE X o td) (hi:PE X i ty) (hv:PE X value tv) (hs:swapsWith value (some (.Subscript o i pos')) pos.line X.env=pure false) :
  PS X (.Assign [.Subscript o i pos'] value pos) (xK1 td ty tv):=by
 intro j8 s σ H D I h;refine wpAny_Assign_Subscript (thn (hv j8 s σ H _ I h) λr s1 ⟨v,H1,I1,rv,q1⟩=>thn (ho j8 s1 σ H1 _ I1 q1) λu s2 ⟨x,H2,I2,rx,q2⟩=>thn (hi j8 s2 σ H2 _ I2 q2) λiv s3 ⟨y,H3,I3,ry,a,H4,ex,g,q3⟩=>?_) hs;subst ex;obtain rfl:u=Value.ref a:=rx;exact q81 hu I3 g ry rv λs4 I4=>⟨σ,H4,I4,q3⟩
end
theorem xi6 {P:Program}{w:World}{H:Hp}(h:Heap) (hb:sysModules<h.objs.size):ObjOk P w H (h.push { cls:=.type "dict",data:=.dict #[] }) h.objs.size (.dK []):=
 ⟨ZN _,Yk.mpr (Yn (Zz hb)),[],.nil,Heap.DictOf.new h⟩
theorem xi7 {P:Program}{w:World}{H:Hp}(h:Heap) (hb:sysModules<h.objs.size):ObjOk P w H (h.push { cls:=.type "dict",data:=.dict #[] }) h.objs.size (.dT []):=
 ⟨ZN _,Yk.mpr (Yn (Zz hb)),[],.nil,_,#[],0,Zn _ rfl,⟨rfl,rfl,rfl⟩,rfl,rfl,Vm⟩
def xD4:TE:=λ_ H Q=>∀p,H p=none->Q (.ref p) (upd H p (.dT []))
section
variable {X:Cx}{pos:Pos}
theorem qU7:PE X (.Dict [] [] pos) xD4:=λj8 s σ H Q I h=>
 wpAny_Dict_empty ⟨.ref s.heap.objs.size,_,I.laid (a:=s.heap.objs.size) (o:=.dT []) (t':=s.toks) (λ_ _ q=>Zc _ q) (Ze _) (xi7 s.heap I.big),rfl,h _ (I.hok.fresh (Ze _))⟩
end
def q82:List (TE×TE)->St->Hp->(List (V×V)->Hp->Prop)->Prop
 |[],_,H,Q=>Q [] H
 |(tk,tv)::r,σ,H,Q=>tk σ H λx H1=>tv σ H1 λy H2=>q82 r σ H2 λps H3=>Q ((x,y)::ps) H3
abbrev VV:List (V×V)->List (Value×Value)->Prop:=Paired λp q=>RelV p.1 q.1/\RelV p.2 q.2
def PPs (X:Cx) (pos:Pos) (keys:List (Option Expr)) (values:List Expr) (trs:List (TE×TE)):Prop:=
 ∀(j8:List (Addr×Obj)) (s:Shared) (σ:St) (H:Hp) (Q:List (V×V)->Hp->Prop),Inv X j8 σ H s->q82 trs σ H Q ->
  wpAny (model X.prog X.w) X.A (evalPairs (pairTrees keys values X.env pos)) (λvs s'=>∃ps H',Inv X j8 σ H' s'/\VV ps vs/\Q ps H') X.xe s
theorem xv7 {X:Cx}{pos:Pos}:PPs X pos [] [] []:=λj8 s σ H Q I h=>pairTrees_nil_walk ⟨[],H,I,.nil,h⟩
theorem xi8 {X:Cx}{pos:Pos}{k v:Expr}{ks:List (Option Expr)}{vs:List Expr}{tk tv:TE}{trs:List (TE×TE)}(hk:PE X k tk) (hv:PE X v tv) (hr:PPs X pos ks vs trs) :
  PPs X pos (some k::ks) (v::vs) ((tk,tv)::trs):=λj8 s σ H Q I h=>
 pairTrees_cons_walk (thn (hk j8 s σ H _ I h) λu s1 ⟨x,H1,I1,rx,q1⟩=>thn (hv j8 s1 σ H1 _ I1 q1) λw2 s2 ⟨y,H2,I2,ry,q2⟩=>
  thn (hr j8 s2 σ H2 _ I2 q2) λws s3 ⟨ps,H3,I3,rel,q3⟩=>⟨(x,y)::ps,H3,I3,.cons ⟨rx,ry⟩ rel,q3⟩)
def qz5 (kvs more:List (Key×V)):List (Key×V):=more.foldl (λacc kv=>putK acc kv.1 kv.2) kvs
theorem KV.merge:∀{more:List (Key×V)}{rs:List (Key×Value)}{kvs:List (Key×V)}{vs:List (Key×Value)},KV more rs->KV kvs vs->KV (qz5 kvs more) (merged vs rs):=by
 intro more rs kvs vs r;unfold KV at r
 induction r generalizing kvs vs with
 |nil=>intro q;exact q
 |@cons p q ps qs h t ih=>
  intro r0;have e:KV (putK kvs p.1 p.2) (stored vs q.1 q.2):=by
   have:=r0.put p.1 h.2;rw[<- h.1];exact this
  exact ih e
theorem qr5:∀(more kvs:List (Key×V)),(qz5 kvs more).length<=kvs.length+more.length
 |[],kvs=>by show kvs.length<=kvs.length+0;lia
 |p::r,kvs=>by
  have h1:=qr5 r (putK kvs p.1 p.2);have h2:=qm6 kvs p.1 p.2;show (qz5 (putK kvs p.1 p.2) r).length<=_;rw[ZQ];lia
theorem qD5 {P:Program}{w:World}:∀{kvs:List (Key×V)}{ws:List (Value×Value)},VV (kvs.map λkv=>(kV kv.1,kv.2)) ws->∃rs,Carries (qd6 P w) ws rs/\KV kvs rs
 |[],_,r=>by rw[List.map_nil] at r;cases r;exact⟨[],True.intro,.nil⟩
 |p::kvs,_,r=>by
  rw[ZH] at r;cases r with
  |@cons a b as bs h t=>
   obtain⟨rs,c,q⟩:=qD5 (P:=P) (w:=w) t;obtain⟨b1,b2⟩:=b;exact⟨(p.1,b2)::rs,⟨q11 h.1,rfl,c⟩,.cons ⟨rfl,h.2⟩ q⟩
def xD5 (trs:List (TE×TE)):TE:=λσ H Q=>∀p,H p=none->q82 trs σ (upd H p (.dK [])) λps H2=>H2 p=some (.dK [])/\∃kvs:List (Key×V),ps=kvs.map (λkv=>(kV kv.1,kv.2))/\kvs.length<=15/\Q (.ref p) (upd H2 p (.dK (qz5 [] kvs)))
theorem xv8 {X:Cx}{pos:Pos}{keys:List (Option Expr)}{values:List Expr}{trs:List (TE×TE)}(h:PPs X pos keys values trs) (kH:keys.all (·.isSome)=true) (hl:keys.length=values.length) (h0:keys≠[])
  (h15:keys.length<=15):PE X (.Dict keys values pos) (xD5 trs):=by
 intro j8 s σ H Q I q;have hn:=I.hok.fresh (Ze s.heap.objs.size);have I1:=I.laid (a:=s.heap.objs.size) (o:=.dK []) (h':=s.heap.push { cls:=.type "dict",data:=.dict #[] }) (t':=s.toks) (λ_ _ q=>Zc _ q) (Ze _) (xi6 s.heap I.big);refine wpAny_Dict_walk (knd:=qd6 X.prog X.w) kH hl h0 h15 (thn (h j8 _ σ _ _ I1 (q _ hn)) λws s2 ⟨ps,H2,I2,rel,e,kvs,ep,lk,q2⟩=>?_);subst ep;obtain⟨rs,c,rk⟩:=qD5 (P:=X.prog) (w:=X.w) rel;obtain⟨z,hd,vs0,r0,dd⟩:=xv3 I2.hok e;cases r0;refine⟨rs,c,dd,λh' dd' hs=>⟨.ref s.heap.objs.size,_,?_,rfl,q2⟩⟩;have hz:(qz5 [] kvs).length<=sizeLine:=by
  have h1:=qr5 kvs [];rw[List.length_nil] at h1;rw[XJ];lia
 have he:∃q,h'.get? s.heap.objs.size=some q:=let ⟨q,_,_,hq,_⟩:=dd';⟨q,hq⟩;exact qF3 I2 (by rw[e];exact True.intro) hs he (xq9 hz hd (rk.merge .nil) dd')
section
variable {X:Cx}{j8:List (Addr×Obj)}{σ:St}{H:Hp}{s:Shared}{a:Addr}{y d:V}{u r:Value}{o:Option V}{A:Around}{E:Value->Shared->Prop}
end
section
variable {X:Cx}{o e f:Expr}{apos cpos:Pos}{td ty tx:TE}
end
section
variable {X:Cx}{j8:List (Addr×Obj)}{σ:St}{H:Hp}{s:Shared}{a:Addr}{kvs:List (Key×V)}{A:Around}{E:Value->Shared->Prop}
end
section
variable {X:Cx}{j8:List (Addr×Obj)}{σ:St}{H:Hp}{s:Shared}{a:Addr}{y:V}{u:Value}{A:Around}{E:Value->Shared->Prop}
end
section
variable {X:Cx}
end
section
variable {κ:Type}[DecidableEq κ]
end
end L2
namespace SetT
open PySem
end SetT
namespace SetT
open PySem PySem.Spec PyProof.Rows
section
variable {prog:Program}{w:World}{K:Type}[DecidableEq K]{knd:KeyKind prog w K}{A:Around}{E:Value->Shared->Prop}{s:Shared}
end
section
variable {prog:Program}{w:World}{K:Type}[DecidableEq K]{knd:KeyKind prog w K}
variable {A:Around}{R:Result->Shared->Prop}{I:Addr}{fp wr:List Addr}{G:Array GenState->Array GenState->Prop}{n:Nat}{P:Nat->Value->Prop}{St:Nat->Shared->Prop}
end
end SetT
namespace SetT
open PySem PySem.Spec
section
variable {prog:Program}{w:World}{K:Type}[DecidableEq K]{knd:KeyKind prog w K}{A:Around}{E:Value->Shared->Prop}{s:Shared}
end
end SetT
namespace L2
open PySem PySem.Spec PyProof.Rows PySem.W
def xK2 (h base:Heap) (e:Addr) (cls fl:Value):Prop:=∃oe vs T oT ts,h.get? e=some oe/\oe.cls=cls/\oe.data=.fields vs/\vs[1]?=some (.ref T)/\vs[2]?=some .none/\base.get? T=none/\T≠e/\h.get? T=some oT/\oT.data=.fields ts/\ts[3]?=some fl
structure Over (base:Heap) (l:List Env) (e:Addr) (cls fl:Value) (h:Heap):Prop where
 stays:base.StaysIn h
 new:base.get? e=none
 frames:h.FunFrames base l
 noted:xK2 h base e cls fl
section
variable {M:Model}{A:Around}{E:Value->Shared->Prop}{s:Shared}{base:Heap}{env:Env}{outer:List Env}{L e:Addr}{oe:Obj}{vs:Array Value}{head:Value}{hadNext:Bool}
theorem qK6 {Q:Unit->Shared->Prop}(jN:A.frames=some (env::outer)) (hl:s.heap.FunFrames base (env::outer)) (hf:env.frame=some L) (he:s.heap.get? e=some oe) (kb:base.StaysIn s.heap) (ne:base.get? e=none)
  (hd:oe.data=.fields vs) (h2:vs[2]?=some .none) (hQ:∀h',Over base (env::outer) e oe.cls (rawInt L) h'->s.heap.UpToSlots h'->Q () { s with heap:=h' }) :
  wpAny M A (do let a <- frameOf env;let pl <- entryPlaceOf L hadNext;let b <- EntryCells.newEntry head a .none (rawInt L) .none pl;setField (.ref e) 1 b) Q E s:=by
 have v1:1<vs.size:=Ww (by decide) (XM.mp h2).1;have nf:e∉(env::outer).filterMap (·.frame):=λz=>by
  obtain⟨_,o,q1,q2⟩:=hl.mem z;rw[he] at q1;cases q1;exact q2 vs hd
 refine Za (wpAny_frameOf_fun jN hl hf λg1 c1=>?_);refine Za (wpAny_entryPlaceOf λpl jQ=>?_);unfold EntryCells.newEntry newFields;refine Za (Yg ?_ (jQ.sizeOk5 _ _ _ _ _));dsimp only;have e1:g1.get? e=some oe:=(c1.2.1 e nf).trans he;have k1:base.StaysIn g1:=λb o q=>(c1.2.1 b (λz=>by rw[(hl.mem z).1] at q;cases q)).trans (kb b o q);have hts:(([head,.ref L,.none,rawInt L,.none]++(if pl.isEmpty then List.replicate 6 Value.none else pl)).toArray:Array Value)[3]?=some (rawInt L):=by
  simp
 generalize ([head,.ref L,.none,rawInt L,.none]++(if pl.isEmpty then List.replicate 6 Value.none else pl)).toArray=ts at hts;have e2:(g1.push { cls:=.type "traceback",dict:=none,data:=.fields ts }).get? e=some oe:=Zc _ e1;have nT:g1.objs.size≠e:=Vf (Zl e1);refine Xp e2 hd v1 (hQ _ ⟨?_,ne,?_,?_⟩ ?_)
 ·exact λb o q=>(ZF _ _ (λz=>by rw[z,q] at ne;cases ne)).trans (Zc _ (k1 b o q))
 ·refine hl.of_keeps λb o q d=>?_;obtain⟨sl,q1⟩:=c1.2.2 b o q;exact⟨_,(ZF _ _ (λz=>by rw[<- z,he] at q;cases q;exact d vs hd)).trans (Zc _ q1),rfl⟩
 ·refine⟨_,_,g1.objs.size,_,ts,YL _ e2 (XC (YQ hd _)),W6 _ _,YQ hd _,by simp[v1],?_,k1.fresh,nT,(ZF _ _ (Yn nT)).trans (Zn g1 rfl),rfl,hts⟩;rw[Array.getElem?_setIfInBounds_ne (by decide)];exact h2
 ·intro b o q d;obtain⟨sl,q1⟩:=c1.2.2 b o q;exact⟨sl,(ZF _ _ (λz=>by rw[<- z,he] at q;cases q;exact d vs hd)).trans (Zc _ q1)⟩
theorem qo8 {Q:Unit->Shared->Prop}{l:List Env}{cls fl:Value}(O:Over base l e cls fl s.heap) (hQ:∀h',Over base l e cls .none h'->s.heap.UpToSlots h'->Q () { s with heap:=h' }):wpAny M A (setFlight (.ref e) none) Q E s:=by
 obtain⟨kb,ne,hl,oe,vs,T,oT,ts,he,hc,hd,h1,h2,bT,nT,hT,dT,h3⟩:=O;have t3:=(XM.mp h3).1;unfold setFlight;refine Za (Z7 he hd h1 ?_);rw[Zr (by simp)];refine Xp hT dT t3 (hQ _ ⟨?_,ne,?_,?_⟩ ?_)
 ·exact λb o q=>(ZF _ _ (λz=>by rw[z,q] at bT;cases bT)).trans (kb b o q)
 ·exact hl.of_keeps λb o q d=>⟨o,(ZF _ _ (λz=>by rw[<- z,hT] at q;cases q;exact d ts dT)).trans q,rfl⟩
 ·exact⟨oe,vs,T,_,_,(ZF _ _ nT).trans he,hc,hd,h1,h2,bT,nT,YL _ hT (XC (YQ dT _)),YQ dT _,by simp[t3]⟩
 ·exact λb o q d=>⟨o.slots,(ZF _ _ (λz=>by rw[<- z,hT] at q;cases q;exact d ts dT)).trans q⟩
theorem q12 {Q:Unit->Shared->Prop}(jN:A.frames=some (env::outer)) (hl:s.heap.FunFrames base (env::outer)) (hf:env.frame=some L) (he:s.heap.get? e=some oe) (kb:base.StaysIn s.heap) (ne:base.get? e=none)
  (hd:oe.data=.fields vs) (h1:vs[1]?=some .none) (h2:vs[2]?=some .none) (hQ:∀h',Over base (env::outer) e oe.cls (rawInt L) h'->s.heap.UpToSlots h'->Q () { s with heap:=h' }):wpAny M A (noteFrame (.ref e) env) Q E s:=by
 unfold noteFrame;simp only[hf];refine Za (Z7 he hd h1 ?_);rw[Zo (by decide)];exact qK6 jN hl hf he kb ne hd h2 hQ
theorem qK7 {Q:Unit->Shared->Prop}{cls:Value}(jN:A.frames=some (env::outer)) (hf:env.frame=some L) (O:Over base (env::outer) e cls .none s.heap) (hQ:∀h',Over base (env::outer) e cls (rawInt L) h'->s.heap.UpToSlots h'->Q () { s with heap:=h' }) :
  wpAny M A (noteFrame (.ref e) env) Q E s:=by
 obtain⟨kb,ne,hl,oe,vs,T,oT,ts,he,hc,hd,h1,h2,bT,nT,hT,dT,h3⟩:=O;subst hc;have t3:=(XM.mp h3).1;unfold noteFrame;simp only[hf];refine Za (Z7 he hd h1 ?_);rw[Zr (by simp)];refine Za (Z7 hT dT h3 ?_);rw[Zo (by simp[rawInt])];refine Za (Xp hT dT t3 ?_);have ot:∀b o,s.heap.get? b=some o->(∀ws,o.data≠.fields ws)->T≠b:=λb o q d z=>by rw[<- z,hT] at q;cases q;exact d ts dT
 refine qK6 (s:={ s with heap:=_ }) jN ?_ hf ((ZF _ _ nT).trans he) ?_ ne hd h2 λh' O' U'=>hQ h' O' λb o q d=>?_
 ·exact hl.of_keeps λb o q d=>⟨o,(ZF _ _ (ot b o q d)).trans q,rfl⟩
 ·exact λb o q=>(ZF _ _ (λz=>by rw[z,q] at bT;cases bT)).trans (kb b o q)
 ·exact U' b o ((ZF _ _ (ot b o q d)).trans q) d
theorem qQ6 {Q:Unit->Shared->Prop}(jN:A.frames=some (env::outer)) (hl:s.heap.FunFrames base (env::outer)) (hf:env.frame=some L) (he:s.heap.get? e=some oe) (kb:base.StaysIn s.heap) (ne:base.get? e=none)
  (hd:oe.data=.fields vs) (h1:vs[1]?=some .none) (h2:vs[2]?=some .none) (hQ:∀h',Over base outer e oe.cls .none h'->s.heap.UpToSlots h'->Q () { s with heap:=h' }):wpAny M A (leaving env (.ref e)) Q E s:=by
 unfold leaving;refine Za (q12 jN hl hf he kb ne hd h1 h2 λg O U=>?_);refine qo8 O λg' O' U'=>hQ g' ⟨O'.stays,O'.new,O'.frames.2.2,O'.noted⟩ (U.trans U')
theorem q13 {Q:Unit->Shared->Prop}{cls:Value}(jN:A.frames=some (env::outer)) (hf:env.frame=some L) (O:Over base (env::outer) e cls .none s.heap) (hQ:∀h',Over base outer e cls .none h'->s.heap.UpToSlots h'->Q () { s with heap:=h' }) :
  wpAny M A (leaving env (.ref e)) Q E s:=by
 unfold leaving;refine Za (qK7 jN hf O λg O1 U=>?_);refine qo8 O1 λg' O' U'=>hQ g' ⟨O'.stays,O'.new,O'.frames.2.2,O'.noted⟩ (U.trans U')
end
end L2
namespace L2
open PySem PySem.Spec PyProof.Rows
theorem ObjOk.there {P:Program}{w:World}{H:Hp}{h:Heap}{a:Addr}{o:HO}(x:ObjOk P w H h a o):∃ob,h.get? a=some ob:=by
 cases o with
 |lst xs=>obtain⟨_,_,_,_,e⟩:=x;exact⟨_,e⟩
 |tup xs=>obtain⟨_,_,_,o,e,_⟩:=x;exact⟨_,e⟩
 |dK kvs=>obtain⟨_,_,_,_,o,_,_,e,_⟩:=x;exact⟨_,e⟩
 |dT kvs=>obtain⟨_,_,_,_,o,_,_,e,_⟩:=x;exact⟨_,e⟩
 |set S n=>obtain⟨o,_,_,_,e,_⟩:=x;exact⟨_,e⟩
 |ins C dx fs=>obtain⟨_,_,_,e,_⟩:=x;exact⟨_,e⟩
 |own y=>exact x
 |xd fs=>obtain⟨_,⟨_,_,_,e,_⟩,_⟩:=x;exact⟨_,e⟩
 |rng lo hi=>obtain⟨_,_,_,e⟩:=x;exact⟨_,e⟩
 |frz ob u=>obtain⟨e,_⟩:=x;exact⟨_,e⟩
 |tbl ps=>exact⟨_,(show h.get? a=some _ from x)⟩
 |met f y=>exact⟨_,(show h.get? a=some _ from x)⟩
 |ext φ=>exact x.2.1
def Fly (P:Program) (w:World) (outer:List Env) (H H':Hp) (h h':Heap) (x:Addr) (cls:Value):Prop:=
 ∃(B:Heap),Un (frs outer) [] H H' h h'/\HOk P w H' h'/\Over B outer x cls .none h'/\(∀b o,h.get? b=some o->b∉frs outer->∃ob,B.get? b=some ob)/\(∀b o,H' b=some o->∃ob,B.get? b=some ob)/\H' x=none
def CX1 (P:Program) (w:World):CXT:=λouter H s E e s'=>∃(x:Addr) (cls:Value) (H':Hp),e=.ref x/\s'.os=s.os/\AllBare s'.gens/\Fly P w outer H H' s.heap s'.heap x cls/\E cls none H'
def xr1 (X:Cx) (E:XK):Prop:=∀(j8:List (Addr×Obj)) (σ:St) (H:Hp) (s:Shared) (h':Heap) (e:Addr) (cls:Value) (args:List Value),Inv X j8 σ H s->Heap.MadeExcOf s.heap h' e cls args->E cls none H->X.xe (.ref e) { s with heap:=h' }
section
variable {P:Program}{w:World}{H H1 H':Hp}{h h1 h':Heap}{outer:List Env}{env:Env}{x L:Addr}{cls:Value}
theorem Fly.left {B:Heap}(U0:Un (frs outer) [] H H1 h h1) (hL:∀b o,h.get? b=some o->b≠L) (hf:env.frame=some L) (U1:Un (frs (env::outer)) [] H1 H' h1 h') (K:HOk P w H' h')
  (c1:∀b o,h1.get? b=some o->b∉frs (env::outer)->∃ob,B.get? b=some ob) (c2:∀b o,H' b=some o->∃ob,B.get? b=some ob) (hx:H' x=none) (st:B.StaysIn h') (ff:h.FunFrames B' outer)
  {h2:Heap}(F2:Over B outer x cls .none h2) (sm:h'.UpToSlots h2):Fly P w outer H H' h h2 x cls:=by
 have fr:∀b,b∉frs outer->b≠L->b∉frs (env::outer):=λb hb hn hm=>by
  unfold frs at hm hb;rw[YH,hf] at hm;rcases Zy.mp hm with z|z
  ·exact hn z
  ·exact hb z
 have fr':∀b,b∈frs outer->b∈frs (env::outer):=λb hb=>by
  unfold frs at hb ⊢;rw[YH,hf];exact Zs _ hb
 have nox:∀b:Addr,b∉([]:List Addr):=λb=>by simp
 have same:∀b ob o,B.get? b=some ob->h'.get? b=some o->h2.get? b=some o:=λb ob o e1 e2=>by
  have q1:=st b ob e1;have q2:=F2.stays b ob e1;rw[e2] at q1;cases q1;exact q2
 refine⟨B,⟨λb o e n hb _=>?_,λb o e n hb _=>?_,λb o e n _=>?_,λb o e _=>?_,λb xs e=>U1.tups b xs (U0.tups b xs e),λb o u e=>U1.frzs b o u (U0.frzs b o u e),λb ps e=>?_⟩,λb o e=>?_,F2,λb o e hb=>?_,c2,hx⟩
 ·have e1:=U0.keep b o e n hb (nox b);have hb':=fr b hb (hL b o e);have e2:=U1.keep b o e1 (U0.free b o e n (nox b)) hb' (nox b);obtain⟨ob,z⟩:=c1 b o e1 hb';exact same b ob o z e2
 ·obtain⟨sl,e1⟩:=U0.slot b o e n hb (nox b);obtain⟨sl',e2⟩:=U1.slot b _ e1 (U0.free b o e n (nox b)) (fr' b hb) (nox b);obtain⟨_,o',ho',hd⟩:=ff.mem hb;rw[e] at ho';cases ho';obtain⟨sl2,e3⟩:=sm b _ e2 hd;exact⟨sl2,e3⟩
 ·obtain⟨o',e1⟩:=U0.there b o e (nox b);exact U1.free b o' e1 (U0.free b o e n (nox b)) (nox b)
 ·obtain⟨o1,e1⟩:=U0.there b o e (nox b);by_cases hb:b∈frs (env::outer)
  ·by_cases kM:b∈frs outer
   ·obtain⟨_,o2,e2,_⟩:=F2.frames.mem kM;exact⟨o2,e2⟩
   ·exact absurd hb (fr b kM (hL b o e))
  ·obtain⟨ob,z⟩:=c1 b o1 e1 hb;exact⟨ob,F2.stays b ob z⟩
 ·obtain⟨m1,e1⟩:=U0.tbls b ps e;obtain⟨m2,e2⟩:=U1.tbls b _ e1;exact⟨m1++m2,by rw[e2,Array.append_assoc]⟩
 ·refine (K b o e).stay (λc u hc q=>?_) (λ_ q=>q) λ_ _ q=>q;rcases hc with z|z
  ·obtain⟨ob,zz⟩:=c2 b o e;rw[z] at q ⊢;exact same b ob u zz q
  ·obtain⟨ob,zz⟩:=c2 c _ z;exact same c ob u zz q
 ·obtain⟨o1,e1⟩:=U0.there b o e (nox b);exact c1 b o1 e1 (fr b hb (hL b o e))
end
section
variable {P:Program}{w:World}{K:PySem.W.Frag}{mg:Str->Option Value}{base:Heap}{N:List Str}{qual:Str}{scope:Scope}{f:Addr}{cd:Value}{A:Around}{outer:List Env}{s₀:Shared}{H₀:Hp}{E:XK}
theorem qQ7:qv9 (CX1 P w) (cxOf (CX1 P w) P w K mg base N qual scope f cd A outer s₀ H₀ E) E:=by
 intro j8 σ H s e s' I h;obtain⟨x,cls,H',rfl,ho,hb,⟨B,U,HK,FW,c1,c2,hx⟩,hE⟩:=h;have hf:(envOfC qual scope s₀.heap.objs.size f cd).frame=some s₀.heap.objs.size:=rfl;refine q13 I.ok.frames hf FW λh2 F2 sm=>?_;refine⟨x,cls,H',rfl,ho.trans I.os,hb,?_,hE⟩;exact Fly.left I.base (λb o e=>Zz (Zl e)) hf U HK c1 c2 hx FW.stays I.ok.funs F2 sm
theorem q83:xr1 (cxOf (CX1 P w) P w K mg base N qual scope f cd A outer s₀ H₀ E) E:=by
 intro j8 σ H s h' e cls args I hm hE;have hf:(envOfC qual scope s₀.heap.objs.size f cd).frame=some s₀.heap.objs.size:=rfl;have FS:s.heap.FunFrames base (envOfC qual scope s₀.heap.objs.size f cd::outer):=I.stack;have jO:∀env∈(envOfC qual scope s₀.heap.objs.size f cd::outer),∀a,env.frame=some a->a∈frs (envOfC qual scope s₀.heap.objs.size f cd::outer):=λenv he a ha=>WY.mpr ⟨env,he,ha⟩;obtain⟨t,he,_,_⟩:=hm.there;have hen:(PySem.W.hideAll s.heap (frs (envOfC qual scope s₀.heap.objs.size f cd::outer))).get? e=none:=by
  cases q:(PySem.W.hideAll s.heap (frs (envOfC qual scope s₀.heap.objs.size f cd::outer))).get? e with
  |none=>rfl
  |some o=>
   have:=Wh _ q;rw[hm.new] at this;cases this
 have hxn:H e=none:=by
  cases z:H e with
  |none=>rfl
  |some o=>
   obtain⟨ob,q⟩:=(I.hok e o z).there;rw[hm.new] at q;cases q
 refine qQ6 (base:=PySem.W.hideAll s.heap (frs (envOfC qual scope s₀.heap.objs.size f cd::outer))) I.ok.frames ((PySem.W.funFrames_hide FS jO).of_keeps λb o hb _=>⟨o,hm.keeps b o hb,rfl⟩) hf he
  (λb o hb=>hm.keeps b o (Wh _ hb)) hen rfl rfl rfl λh2 O2 k4=>?_
 refine⟨e,cls,H,rfl,I.os,I.bare,?_,hE⟩;refine Fly.left (B:=PySem.W.hideAll s.heap (frs (envOfC qual scope s₀.heap.objs.size f cd::outer))) (h':=h') I.base (λb o z=>Zz (Zl z)) hf (Un.kept hm.keeps) (I.hok.kept hm.keeps) (λb o z hb=>⟨o,WS _ z hb⟩) (λb o z=>?_) hxn (λb o hb=>hm.keeps b o (Wh _ hb)) I.ok.funs O2 k4;obtain⟨ob,q⟩:=(I.hok b o z).there;refine⟨ob,WS _ q λhmm=>?_⟩;have:=I.stkFree b hmm;rw[z] at this;cases this
end
section
variable {X:Cx}
end
mutual
inductive DataAt (H:Hp):V->PyData->Prop
 |non:DataAt H .non .none
 |bl (b:Bool):DataAt H (.bl b) (.bool b)
 |int (i:Int):DataAt H (.int i) (.int i)
 |str (x:Str):DataAt H (.str x) (.str x)
 |lst {a:Addr}{xs:List V}{ds:List PyData}(h:H a=some (.lst xs)) (r:DatasAt H xs ds):DataAt H (.ref a) (.list ds)
 |tup {a:Addr}{xs:List V}{ds:List PyData}(h:H a=some (.tup xs)) (r:DatasAt H xs ds):DataAt H (.ref a) (.tuple ds)
inductive DatasAt (H:Hp):List V->List PyData->Prop
 |nil:DatasAt H [] []
 |cons {x:V}{xs:List V}{d:PyData}{ds:List PyData}(h:DataAt H x d) (r:DatasAt H xs ds):DatasAt H (x::xs) (d::ds)
end
section
variable {P:Program}{w:World}{H:Hp}{h:Heap}
mutual
theorem DataAt.reads (ok:HOk P w H h):∀{x:V}{d:PyData}{u:Value},DataAt H x d->RelV x u->∃as,Reads h u d as
 |_,_,u,.non,r=>⟨[],by cases (show u=Value.none from r);exact .none⟩
 |_,_,u,.bl b,r=>⟨[],by cases (show u=Value.bool b from r);exact .bool b⟩
 |_,_,u,.int i,r=>⟨[],by obtain⟨t,rfl⟩:=r;exact .int i t⟩
 |_,_,u,.str x,r=>⟨[],by obtain⟨t,rfl⟩:=r;exact .str x t⟩
 |_,_,u,.lst (a:=a) e rs,r=>by
  cases (show u=Value.ref a from r);obtain⟨_,its,n,rv,ho⟩:=ok a _ e;obtain⟨as,ra⟩:=DatasAt.reads ok rs rv;exact⟨a::as,.list ho rfl rfl (by simpa using ra)⟩
 |_,_,u,.tup (a:=a) e rs,r=>by
  cases (show u=Value.ref a from r);obtain⟨_,its,rv,o,ho,hc,n,hd⟩:=ok a _ e;obtain⟨as,ra⟩:=DatasAt.reads ok rs rv;exact⟨as,.tuple ho hc hd (by simpa using ra)⟩
theorem DatasAt.reads (ok:HOk P w H h):∀{xs:List V}{ds:List PyData}{us:List Value},DatasAt H xs ds->Vals xs us->∃as,ReadsAll h us ds as
 |_,_,_,.nil,.nil=>⟨[],.nil⟩
 |_,_,_,.cons h1 r1,.cons r rr=>by
  obtain⟨as,ra⟩:=DataAt.reads ok h1 r;obtain⟨bs,rb⟩:=DatasAt.reads ok r1 rr;exact⟨as++bs,.cons ra rb⟩
end
mutual
theorem DataAt.same {H':Hp}(s:∀b o,H b=some o->H' b=some o):∀{x:V}{d:PyData},DataAt H x d->DataAt H' x d
 |_,_,.non=>.non
 |_,_,.bl b=>.bl b
 |_,_,.int i=>.int i
 |_,_,.str x=>.str x
 |_,_,.lst e r=>.lst (s _ _ e) (DatasAt.same s r)
 |_,_,.tup e r=>.tup (s _ _ e) (DatasAt.same s r)
theorem DatasAt.same {H':Hp}(s:∀b o,H b=some o->H' b=some o):∀{xs:List V}{ds:List PyData},DatasAt H xs ds->DatasAt H' xs ds
 |_,_,.nil=>.nil
 |_,_,.cons h r=>.cons (DataAt.same s h) (DatasAt.same s r)
end
theorem DatasAt.ints:∀(ns:List Int),DatasAt H (ns.map V.int) (ns.map PyData.int)
 |[]=>.nil
 |n::ns=>.cons (.int n) (DatasAt.ints ns)
end
section
variable {X:Cx}
theorem qU8 {k:Nat}(hr:Room k X.A):OpR X (compareOp .Eq) (λx y H Q=>∃d e,DataAt H x d/\DataAt H y e/\d.canLay0=true/\e.canLay0=true/\d.depth<=60/\Q (.bl (PyData.eqv d e)) H):=by
 intro j8 s σ H x y v u Q I rx ry h;obtain⟨d,e,hd,he,c1,c2,dp,q⟩:=h;obtain⟨as,ra⟩:=hd.reads I.hok rx;obtain⟨bs,rb⟩:=he.reads I.hok ry;have un:=hr.units;exact SeqAt.rcAt_reads ra rb c1 c2 (by lia) X.prog X.w X.xe _ ⟨.bl _,H,I,rfl,q⟩
theorem q84 {k:Nat}(hr:Room k X.A):OpR X (compareOp .NotEq) (λx y H Q=>∃d e,DataAt H x d/\DataAt H y e/\d.canLay0=true/\e.canLay0=true/\d.depth<=60/\Q (.bl (!PyData.eqv d e)) H):=by
 intro j8 s σ H x y v u Q I rx ry h;obtain⟨d,e,hd,he,c1,c2,dp,q⟩:=h;obtain⟨as,ra⟩:=hd.reads I.hok rx;obtain⟨bs,rb⟩:=he.reads I.hok ry;have un:=hr.units;exact SeqAt.rcNeAt_reads ra rb c1 c2 (by lia) X.prog X.w X.xe _ ⟨.bl _,H,I,rfl,q⟩
theorem q14 {k:Nat}(hr:Room k X.A):qi3 X (.builtin "repr") (λxs H Q=>∃(p:Addr) (d:PyData),xs=[.ref p]/\DataAt H (.ref p) d/\d.showable=true/\d.hasDict=false/\d.depth<=60/\d.shown.length<=sizeLine/\Q (.str d.shown) H):=by
 intro j8 s σ H xs us Q I r h;obtain⟨p,d,rfl,hd,hs,hn,dp,hz,q⟩:=h;obtain⟨u,rfl,rx⟩:=qn5 r;cases rx;obtain⟨as,ra⟩:=hd.reads (u:=.ref p) I.hok rfl;have un:=hr.units;exact repr_of_reads' ra hs (λz=>by rw[hn] at z;cases z) hr.gd (by lia) (λb o e=>e) (λh' u tk kp=>⟨.str _,H,I.kept kp,⟨_,rfl⟩,q⟩) hz
end
theorem qm7:∀(a b:List Int),PyData.eqvAll (a.map PyData.int) (b.map PyData.int)=decide (a=b)
 |[],[]=>by simp[PyData.eqvAll]
 |x::a,[]=>by simp[PyData.eqvAll]
 |[],y::b=>by simp[PyData.eqvAll]
 |x::a,y::b=>by
  show (PyData.eqv (.int x) (.int y)&&PyData.eqvAll (a.map PyData.int) (b.map PyData.int))=_;rw[qm7 a b,show PyData.eqv (.int x) (.int y)=(x==y) by simp[PyData.eqv]];rw[YJ];simp
theorem qz6:∀(a:List Int),PyData.canLayAll0 (a.map PyData.int)=true
 |[]=>by simp[PyData.canLayAll0]
 |x::a=>by
  show (PyData.canLay0 (.int x)&&PyData.canLayAll0 (a.map PyData.int))=true;rw[qz6 a];simp[PyData.canLay0]
def dT (ns:List Int):PyData:=.tuple (ns.map PyData.int)
theorem qr6 (ns:List Int):(dT ns).canLay0=true:=by
 show PyData.canLayAll0 (ns.map PyData.int)=true;exact qz6 ns
theorem xr2 (a b:List Int):PyData.eqv (dT a) (dT b)=decide (a=b):=by
 show PyData.eqvAll _ _=_;exact qm7 a b
end L2
namespace EnumT
open PySem PySem.Spec
section
variable {prog:Program}{w:World}{A:Around}{E:Value->Shared->Prop}{s:Shared}
theorem q15 {it t:Addr}{i:Nat}{items:Array Value}{x:Value}{Q:Value->Shared->Prop}(st:s.heap.IsTupleIter it t i) (ht:s.heap.IsTuple t items) (hx:items[i]?=some x)
  (q:∀h',h'.IsTupleIter it t (i+1)->Heap.SameBut it s.heap h'->Q x { s with heap:=h' }):wpAny (model prog w) A (Builtin.SmallTypes.nextOf (.ref it)) Q E s:=by
 obtain⟨o,e1,e2,e3⟩:=id st;obtain⟨ot,f1,_,nt,f2⟩:=ht;unfold Builtin.SmallTypes.nextOf;refine Za (Yc (name:=Str.ofString "__next__") st.typeIs Y7 (YC Y7 st.typeIs F.entry_tuple_iterator_next ?_ (F.args_tuple_iterator_next_1 _)));show wpAny _ _ (field (.ref it) 0 >>= _) _ _ s;refine Za (Z7 e1 e3 (x:=.ref t) rfl ?_);show wpAny _ _ (if (Value.ref t==Value.none)=true then _ else _) _ _ s;rw[Zo (show ¬((Value.ref t==Value.none)=true) from Zu)];show wpAny _ _ (field (.ref it) 1 >>= _) _ _ s;refine Za (Z7 e1 e3 (x:=.int i 0) rfl ?_);show wpAny _ _ (seqItems? (.ref t) >>= _) _ _ s;refine Za (wpAny_seqItems f1 f2 ?_);simp only[Wv,hx];refine Za (Xp e1 e3 (by simp) (Zm ⟨x,rfl,Zm (q _ ⟨_,YL _ e1 (XC (YQ e3 _)),(W6 ..).trans e2,?_⟩ (Xl ..))⟩));rw[YQ e3];simp[rawInt]
theorem q85 {it t:Addr}{i:Nat}{items:Array Value}{Q:Value->Shared->Prop}(hh:A.handled=none) (st:s.heap.IsTupleIter it t i) (ht:s.heap.IsTuple t items) (hx:items[i]?=none)
  (q:∀h' e,Heap.ExtBut it s.heap h'->(∃o,h'.get? e=some o/\o.cls=.type "StopIteration")->E (.ref e) { s with heap:=h' }):wpAny (model prog w) A (Builtin.SmallTypes.nextOf (.ref it)) Q E s:=by
 obtain⟨o,e1,e2,e3⟩:=id st;obtain⟨ot,f1,_,nt,f2⟩:=ht;unfold Builtin.SmallTypes.nextOf;refine Za (Yc (name:=Str.ofString "__next__") st.typeIs Y7 (YC Y7 st.typeIs F.entry_tuple_iterator_next ?_ (F.args_tuple_iterator_next_1 _)));show wpAny _ _ (field (.ref it) 0 >>= _) _ _ s;refine Za (Z7 e1 e3 (x:=.ref t) rfl ?_);show wpAny _ _ (if (Value.ref t==Value.none)=true then _ else _) _ _ s;rw[Zo (show ¬((Value.ref t==Value.none)=true) from Zu)];show wpAny _ _ (field (.ref it) 1 >>= _) _ _ s;refine Za (Z7 e1 e3 (x:=.int i 0) rfl ?_);show wpAny _ _ (seqItems? (.ref t) >>= _) _ _ s;refine Za (wpAny_seqItems f1 f2 ?_);simp only[Wv,hx];refine Za (Y1 (Za (Xp e1 e3 (by simp) ?_)));show wpAny _ _ (newExc (.type "StopIteration") [] >>= _) _ _ _;refine Za ?_;simp only[newExc,newTuple];refine Za (Yg ?_ (by size_fits));refine Za (m:=firstArgMember _ _) (wpAny_of_eq (a:=Value.none) (by first|rfl|(simp only[firstArgMember];rfl)) ?_);refine Yg ?_ (by size_fits);simp only[raiseNew];refine Za (wpAny_handled ?_)
 first|rw[show A.in1.handled=none from hh]|rw[hh]
 refine Za (Zm (wpAny_throw ?_));exact q _ _ (((Xl ..).extBut.push _).push _) ⟨_,Zn _ rfl,rfl⟩
theorem pair_next {e it:Addr}{i:Nat}{x old:Value}{St:Heap->Prop}{Q:Value->Shared->Prop}(he:IsEnum s.heap e it i old) (jS:e≠it)
  (nx:∀Q':Value->Shared->Prop,(∀h',Heap.SameBut it s.heap h'->St h'->Q' x { s with heap:=h' })->wpAny (model prog w) A (Builtin.SmallTypes.nextOf (.ref it)) Q' E s)
  (q:∀h1 h',Heap.SameBut it s.heap h1->St h1->IsEnumOut h' e it ((i:Int)+1) x s.heap.objs.size->h'.get? s.heap.objs.size=some { cls:=.type "tuple",data:=.seq #[.int i s.toks,x] } ->
   (∀b o,b≠e->h1.get? b=some o->h'.get? b=some o)->Q (.ref s.heap.objs.size) { s with heap:=h',toks:=s.toks+1 }) :
  wpAny (model prog w) A (Builtin.«enumerate.__next__» ⟨[.ref e],[]⟩) (λfin s'=>∃v,fin=.done (.ret v)/\Q v s') E s:=by
 obtain⟨hp,g,d,tk,os⟩:=s;show wpAny _ _ (field (.ref e) 2 >>= _) _ _ _;refine Za (Z7 he rfl (x:=.ref it) rfl ?_);refine Za (nx _ λh₁ s1 st1=>?_)
 replace s1:Heap.SameBut it hp h₁:=s1
 have he₁:IsEnum h₁ e it i old:=(s1.2 e jS).trans he;show wpAny _ _ (field (.ref e) 3 >>= _) _ _ ⟨h₁,g,d,tk,os⟩;refine Za (Z7 he₁ rfl (x:=rawInt i) rfl ?_);show wpAny _ _ (field (.ref e) 4 >>= _) _ _ ⟨h₁,g,d,tk,os⟩;refine Za (Z7 he₁ rfl (x:=.none) rfl ?_);show wpAny _ _ (mkInt i >>= _) _ _ ⟨h₁,g,d,tk,os⟩;refine Za (wpAny_mkInt ?_);show wpAny _ _ (setField (.ref e) 3 (rawInt ((i:Int)+1)) >>= _) _ _ ⟨h₁,g,d,tk+1,os⟩;refine Za (Xu he₁ (by simp) λh₂ he₂ s2=>?_)
 replace s2:Heap.SameBut e h₁ h₂:=s2
 replace he₂:IsEnum h₂ e it ((i:Int)+1) old:=he₂
 show wpAny _ _ (setField (.ref e) 4 .none >>= _) _ _ ⟨h₂,g,d,tk+1,os⟩;refine Za (Xu he₂ (by simp) λh₃ he₃ s3=>?_)
 replace s3:Heap.SameBut e h₂ h₃:=s3
 replace he₃:IsEnum h₃ e it ((i:Int)+1) old:=he₃
 show wpAny _ _ (newTuple [.int i tk,x] >>= _) _ _ ⟨h₃,g,d,tk+1,os⟩;refine Za (wpAny_newTuple ?_);have z3:h₃.objs.size=hp.objs.size:=by rw[s3.1,s2.1,s1.1]
 have elt:e<hp.objs.size:=Zl he;obtain⟨h₄,e4⟩:∃h₄,h₃.push { cls:=.type "tuple",data:=.seq #[.int i tk,x] }=h₄:=⟨_,rfl⟩;have he₄:IsEnum h₄ e it ((i:Int)+1) old:=by rw[<- e4];exact Zc _ he₃
 have ht₄:h₄.get? hp.objs.size=some { cls:=.type "tuple",data:=.seq #[.int i tk,x] }:=by rw[<- e4,<- z3];exact Zn _ rfl
 have k4:∀b o,b≠e->h₁.get? b=some o->h₄.get? b=some o:=λb o hb eb=>by
  rw[<- e4];exact Zc _ (s3.extBut b o hb (s2.extBut b o hb eb))
 rw[e4];show wpAny _ _ (Builtin.SmallTypes.ownedTupleIsFree (.ref e) >>= _) _ _ ⟨h₄,g,d,tk+1,os⟩;rw[z3];refine Za ?_;unfold Builtin.SmallTypes.ownedTupleIsFree;refine Za (Z7 he₄ rfl (x:=.none) rfl (Zm ?_));simp only[Vr];refine Za (Y1 ?_);refine Za (Z7 he₄ rfl (x:=old) rfl ?_);refine Za (Xu he₄ (by simp) λh₅ he₅ s5=>?_)
 replace s5:Heap.SameBut e h₄ h₅:=s5
 replace he₅:IsEnum h₅ e it ((i:Int)+1) x:=he₅
 show wpAny _ _ (Builtin.SmallTypes.ownedTupleHandOut (.ref e) (.ref hp.objs.size) >>= _) _ _ ⟨h₅,g,d,tk+1,os⟩;refine Za ?_;unfold Builtin.SmallTypes.ownedTupleHandOut;refine Za (Xu he₅ (by simp) λh₆ he₆ s6=>?_)
 replace s6:Heap.SameBut e h₅ h₆:=s6
 replace he₆:IsEnumOut h₆ e it ((i:Int)+1) x hp.objs.size:=he₆
 refine Xu he₆ (by simp) λh₇ he₇ s7=>?_
 replace s7:Heap.SameBut e h₆ h₇:=s7
 replace he₇:IsEnumOut h₇ e it ((i:Int)+1) x hp.objs.size:=he₇
 have k7:∀b o,b≠e->h₄.get? b=some o->h₇.get? b=some o:=λb o hb eb=>s7.extBut b o hb (s6.extBut b o hb (s5.extBut b o hb eb));exact Za (wpAny_letGo (Zm ⟨_,rfl,q h₁ h₇ s1 st1 he₇ (k7 _ _ (Vf elt) ht₄) λb o hb eb=>k7 b o hb (k4 b o hb eb)⟩))
theorem next_pair {e it t:Addr}{i:Nat}{items:Array Value}{x old:Value}{Q:Option Value->Shared->Prop}(he:IsEnum s.heap e it i old) (jS:e≠it) (st:s.heap.IsTupleIter it t i) (ht:s.heap.IsTuple t items) (hx:items[i]?=some x)
  (q:∀h1 h',Heap.SameBut it s.heap h1->IsEnumOut h' e it ((i:Int)+1) x s.heap.objs.size->h'.IsTupleIter it t (i+1)->h'.get? s.heap.objs.size=some { cls:=.type "tuple",data:=.seq #[.int i s.toks,x] } ->
   (∀b o,b≠e->h1.get? b=some o->h'.get? b=some o)->Q (some (.ref s.heap.objs.size)) { s with heap:=h',toks:=s.toks+1 }):wpAny (model prog w) A (pyNext (.ref e)) Q E s:=by
 have hT:s.TypeIs (.ref e) "enumerate":=⟨_,he,rfl⟩;unfold pyNext;refine Za (Wb (Yc (name:=Str.ofString "__next__") hT YM (YC YM hT Wx
  (pair_next (St:=λh=>h.IsTupleIter it t (i+1)) he jS (λQ' q'=>q15 st ht hx λh' st' sb=>q' h' sb st') λh1 h' sb st1 ho hT' kp=>Zm (q h1 h' sb ho ?_ hT' kp)) (Wo _))))
 obtain⟨o,x1,x2⟩:=st1;exact⟨o,kp it o (Yn jS) x1,x2⟩
theorem next_end {e it t:Addr}{i:Nat}{items:Array Value}{old:Value}{Q:Option Value->Shared->Prop}(hh:A.handled=none) (he:IsEnum s.heap e it i old) (st:s.heap.IsTupleIter it t i) (ht:s.heap.IsTuple t items) (hx:items[i]?=none)
  (q:∀h',Heap.ExtBut it s.heap h'->Q none { s with heap:=h' }):wpAny (model prog w) A (pyNext (.ref e)) Q E s:=by
 have hT:s.TypeIs (.ref e) "enumerate":=⟨_,he,rfl⟩;unfold pyNext;refine Za (Wb (Yc (name:=Str.ofString "__next__") hT YM (YC YM hT Wx ?_ (Wo _))));show wpAny _ _ (field (.ref e) 2 >>= _) _ _ _;refine Za (Z7 he rfl (x:=.ref it) rfl ?_);refine Za (q85 hh st ht hx λh' x eb ⟨o,ho,hc⟩=>?_);exact Za (wpAny_isInstance (T:= "StopIteration") (b:=true) ⟨o,ho,hc⟩ isSubtype_stop (Zm (q _ eb)))
theorem q86 (l:Addr) (items:Array Value) (n:Nat) (dct:Option Addr) (sl:Array (Option Value)) :
  Meets (Builtin.«enumerate.__new__» ⟨[.type "enumerate",.ref l],[]⟩) (λ_ R s=>s.heap.get? l=some { cls:=.type "tuple",dict:=dct,data:=.seq items n,slots:=sl } /\
   R (.ok (.ret (.ref (s.heap.push { cls:=.type "tuple_iterator",data:=.fields #[.ref l,.int 0 0] }).objs.size)))
    { s with heap:=(s.heap.push { cls:=.type "tuple_iterator",data:=.fields #[.ref l,.int 0 0] }).push { cls:=.type "enumerate",data:=.fields #[.none,.bool false,.ref s.heap.objs.size,rawInt 0,.none,.none] } }):=
 .of_wp λprog w A R s h=>by
  obtain⟨hp,g,d,tk,os⟩:=s;obtain⟨hl,h⟩:=h;have f0:=sub_enumerate;have hL:Heap.IsTuple (Shared.heap ⟨hp,g,d,tk,os⟩) l items:=⟨_,hl,rfl,n,rfl⟩
  wp_walk using YS hl
  refine wpAny_stack_any λst=>Zm ?_;split
  ·rename_i c _ _ _ _ _;cases (c==Value.type "enumerate")
   all_goals
    wp_walk using YS hl,Wi hL
    exact⟨_,rfl,h⟩
  ·wp_walk using YS hl,Wi hL
   exact⟨_,rfl,h⟩
theorem call_new {l:Addr}{items:Array Value}{Q:Value->Shared->Prop}(hL:s.heap.IsTuple l items)
  (q:∀h',IsEnum h' (s.heap.objs.size+1) s.heap.objs.size 0 .none->h'.IsTupleIter s.heap.objs.size l 0->(∀b o,s.heap.get? b=some o->h'.get? b=some o)->Q (.ref (s.heap.objs.size+1)) { s with heap:=h' }) :
  wpAny (model prog w) A (call (.type "enumerate") [.ref l]) Q E s:=by
 obtain⟨⟨c,dct,dt,sl⟩,hl,hc,n,hd⟩:=hL
 replace hc:c=.type "tuple":=hc
 replace hd:dt=.seq items n:=hd
 subst hc hd;refine callType_new F.called_enumerate (by decide) (F.typeCall_enumerate_1 _) (F.newCall_enumerate_1 _) (λobj=>F.args_object_init_2 obj _) F.entry_enumerate_new (q86 l items n dct sl) ⟨hl,?_⟩;have z1:(s.heap.push { cls:=.type "tuple_iterator",data:=.fields #[.ref l,.int 0 0] }).objs.size=s.heap.objs.size+1:=Yi ..;show _/\_;rw[z1];have he:=Zn (s.heap.push { cls:=.type "tuple_iterator",data:=.fields #[.ref l,.int 0 0] }) (o:={ cls:=.type "enumerate",data:=.fields #[.none,.bool false,.ref s.heap.objs.size,rawInt 0,.none,.none] }) rfl;rw[z1] at he;exact⟨⟨_,he,rfl⟩,q _ he ⟨_,Zc _ (Zn _ rfl),rfl,rfl⟩ λb o x=>Zc _ (Zc _ x)⟩
end
end EnumT
namespace L2
open PySem PySem.Spec PyProof.Rows
def Ite (K:PySem.W.Frag) (a:Addr):It:=
 ⟨λi H=>∃xs x,SqT K H a xs/\xs[i]?=some x,λi H y H'=>∃p x,H p=none/\(∀xs,SqT K H a xs->xs[i]?=some x)/\H'=upd H p (.tup [.int i,x])/\y=.ref p,λi H=>∃xs,SqT K H a xs/\xs.length<=i⟩
theorem qF5 {h:Heap}{o o':Obj}{b:Addr}(e:(h.push o).get? b=some o') (jC:b<h.objs.size):h.get? b=some o':=by
 unfold Heap.get? Heap.push at *;simp only[Array.getElem?_push] at e;rw[Zo (Zz jC)] at e;exact e
theorem q16 {P:Program}{w:World}{K:PySem.W.Frag}{elts:List Expr}{x1:Nat}{tpos:Pos}(a e it:Addr) (jS:e≠it) :
  Turn P w K (.Tuple elts x1 tpos) (Ite K a) [e,it] e (λi h=>(∃old,IsEnum h e it i old)/\h.IsTupleIter it a i) where
 mem:=by simp
 obj:=λi h st b hb=>by
  rcases Zy.mp hb with rfl|hb
  ·obtain⟨⟨old,z⟩,_⟩:=st;exact⟨_,z,λv q=>by
    have q':Data.fields _=Data.cell v:=q;cases q'⟩
  ·have:b=it:=by simpa using hb
   subst this;obtain⟨_,o,z,_,d⟩:=st;exact⟨o,z,λv q=>by rw[d] at q;cases q⟩
 keep:=λi h h' st k=>by
  obtain⟨⟨old,z⟩,st2⟩:=st;exact⟨⟨old,k e (by simp) _ z⟩,st2.at λo q=>k it (by simp) o q⟩
 item:=by
  intro X hP hw hK hc i j8 s σ H E I hf st hg;subst hP hw hK;obtain⟨⟨old,he⟩,st2⟩:=st;obtain⟨xs,x,hq,hx⟩:=hg;obtain⟨its,rv,p,hz⟩:=I.tuple hq;obtain⟨u,hu,ru⟩:=rv.get hx;obtain⟨e0,e1,e2,e3,e4,e5⟩:=hf e (by simp);obtain⟨f0,f1,f2,f3,f4,f5⟩:=hf it (by simp);refine EnumT.next_pair he jS st2 (show s.heap.IsTuple a its.toArray from p) (x:=u) (by simpa using hu) λh1 h' sb ho st3 ht kp=>?_;refine⟨_,rfl,wpAny_letOwnedTupleGo_enum ho λh2 kX sb2=>?_⟩;have elt:e<s.heap.objs.size:=Zl he;have ilt:it<s.heap.objs.size:=by obtain⟨o,z,_⟩:=st2;exact Zl z
  have fresh:H s.heap.objs.size=none:=I.hok.fresh (Ze _);have z1:h1.objs.size=s.heap.objs.size:=sb.1;have J0:Inv X j8 σ (upd H s.heap.objs.size (.tup [.int i,x])) { s with heap:=s.heap.push { cls:=.type "tuple",data:=.seq #[.int i s.toks,u] },toks:=s.toks+1 }:=
   I.laid (λb o q=>Zc _ q) (Ze _) ⟨by show 2<=sizeLine;decide,[.int i s.toks,u],.cons ⟨_,rfl⟩ (.cons ru .nil),_,Zn _ rfl,rfl,⟨_,rfl⟩,rfl⟩
  have ne1:(upd H s.heap.objs.size (.tup [.int i,x])) it=none:=by rw[qa6 (Zz ilt)];exact f0
  have ne2:(upd H s.heap.objs.size (.tup [.int i,x])) e=none:=by rw[qa6 (Zz elt)];exact e0
  have J1:=J0.turned (it:=it) (h':=h1.push { cls:=.type "tuple",data:=.seq #[.int i s.toks,u] }) (t':=s.toks+1) (λb o hb q=>by
    have q:(s.heap.push { cls:=.type "tuple",data:=.seq #[.int i s.toks,u] }).get? b=some o:=q;by_cases jC:b<s.heap.objs.size
    ·have q':s.heap.get? b=some o:=qF5 q jC;exact Zc _ ((sb.2 b hb).trans q')
    ·have kM:b<s.heap.objs.size+1:=by have:=Zl q;rw[Yi] at this;exact this
     have eb:b=s.heap.objs.size:=WN (Wy kM) (XX jC);subst eb;rw[Zn _ rfl] at q;cases q;have:=Zn h1 (o:={ cls:=.type "tuple",data:=.seq #[.int i s.toks,u] }) rfl;rw[z1] at this;exact this) ne1 f1 f3 f4 f5
  have J2:=J1.turned (it:=e) (h':=h') (t':=s.toks+1) (λb o hb q=>by
    have q:(h1.push { cls:=.type "tuple",data:=.seq #[.int i s.toks,u] }).get? b=some o:=q;by_cases jC:b<s.heap.objs.size
    ·have q':h1.get? b=some o:=qF5 q (by rw[z1];exact jC);exact kp b o hb q'
    ·have kM:b<s.heap.objs.size+1:=by have:=Zl q;rw[Yi,z1] at this;exact this
     have eb:b=s.heap.objs.size:=WN (Wy kM) (XX jC);subst eb;have:=Zn h1 (o:={ cls:=.type "tuple",data:=.seq #[.int i s.toks,u] }) rfl;rw[z1] at this;rw[this] at q;cases q;exact ht) ne2 e1 e3 e4 e5
  have J3:=J2.turned (it:=e) (h':=h2) (t':=s.toks+1) (λb o hb q=>(sb2.2 b hb).trans q) ne2 e1 e3 e4 e5;refine⟨.ref s.heap.objs.size,_,J3,rfl,⟨_,x,fresh,λys hy=>by rw[I.tuple_inj hy hq];exact hx,rfl,rfl⟩,⟨⟨u,by
   have:(((i+1:Nat)):Int)=(i:Int)+1:=by lia
   rw[this];exact kX⟩,st3.at λo q=>(sb2.2 it (Yn jS)).trans q⟩,λb hb=>?_⟩
  rcases Zy.mp hb with rfl|hb
  ·exact ne2
  ·have:b=it:=by simpa using hb
   subst this;exact ne1
 done:=by
  intro X hP hw hK hc i j8 s σ H E I hf st hg;subst hP hw hK;obtain⟨⟨old,he⟩,st2⟩:=st;obtain⟨xs,hq,hx⟩:=hg;obtain⟨its,rv,p,hz⟩:=I.tuple hq;obtain⟨f0,f1,f2,f3,f4,f5⟩:=hf it (by simp);have hl:=rv.length;exact EnumT.next_end (I.ok.hd hc) he st2 (show s.heap.IsTuple a its.toArray from p) (by simp;lia) λh' eb=>⟨rfl,I.turned (t':=s.toks) (λb o hb e=>eb b o hb e) f0 f1 f3 f4 f5⟩
 self:=λ_ _ _ _ _ st h=>by
  obtain⟨⟨old,he⟩,_⟩:=st;exact Wz he h
section
variable {X:Cx}{elts:List Expr}{x1:Nat}{tpos:Pos}
def xD6 (K:PySem.W.Frag) (ta:TA):TI:=λσ H R=>ta σ H λvs H1=>∃a,vs=[.ref a]/\(∃xs,SqT K H1 a xs)/\R (Ite K a) H1
theorem qr7 {e:Expr}{ta:TA}{p pos:Pos}(hg:Gl X "enumerate") (hm:X.mg "enumerate" = none) (ha:PA X [e] ta) (hs:starEach [e] X.env=[(false,eval e X.env)]:=by rfl):PI X (.Tuple elts x1 tpos) (.Call (.Name "enumerate" p) [e] [] pos) (xD6 X.K ta):=by
 intro j8 s σ H R I h;refine Call_ (qC9 I hg hm WW (Y4 (thn (ha pos j8 s σ H _ I h) λus s1 ⟨vs,H1,I1,r1,q1⟩=>?_) hs rfl));obtain⟨a,rfl,⟨xs,hq⟩,q⟩:=q1;obtain⟨u,rfl,ru⟩:=qn5 r1;cases ru;obtain⟨its,rv,pt,hz⟩:=I1.tuple hq;refine EnumT.call_new (show s1.heap.IsTuple a its.toArray from pt) λh' he st kp=>?_;refine Wz he ?_;have J:Inv X j8 σ H1 { s1 with heap:=h' }:=I1.kept (t':=s1.toks) kp;refine⟨s1.heap.objs.size+1,[s1.heap.objs.size+1,s1.heap.objs.size],_,_,H1,rfl,J,q16 a _ _ (Nat.succ_ne_self _),⟨⟨.none,he⟩,st⟩,λb hb=>?_,q⟩;rcases Zy.mp hb with rfl|hb
 ·exact I1.fpOk (Wm _) (I1.hok.fresh (Wm _))
 ·have:b=s1.heap.objs.size:=by simpa using hb
  subst this;exact I1.fpOk (Ze _) (I1.hok.fresh (Ze _))
end
section
variable {X:Cx}
def qc9 (X:Cx) (scope:Scope) (cl:List (Str×Addr)) (C:Addr) (ns:List Str) (fp:List Addr) (s₀:Shared) (H₀:Hp):Cx:=
 { X with N:=ns++X.N,s₀:=s₀,H₀:=H₀,env:=compEnvC scope cl C X.env,outer:=X.stack,stack:=X.stack,ex:=fp,fn:=λ_=>false,pn:=[],xe:=λ_ _=>False }
def qw1 (n:Nat) (wi:TI) (g:TG) (tt:TT) (te:TE):TE:=λσ H Q=>wi σ H λJ H1=>∀D,H1 D=none->∃W:Nat->Nat->List V->Hp->Prop,(∃m,W 0 m [] (upd H1 D (.lst []))) /\
 ∀i m xs H2,W i m xs H2->H2 D=some (.lst xs)/\xs.length<sizeLine/\((J.stop i H2/\Q (.ref D) H2)\/(J.go i H2/\∀y H3,J.yld i H2 y H3->∀os:St,os.length=n ->
  g y (os++σ) H3 λσ4 H4=>tt σ4 H4 λb H5=>if b=true then te σ4 H5 λv H6=>H6 D=some (.lst xs)/\∃m',m'<m/\W (i+1) m' (xs++[v]) (upd H6 D (.lst (xs++[v]))) else ∃m',m'<m/\W (i+1) m' xs H5))
theorem qK8 {prog:Program}{w:World}{A:Around}{R:Result->Shared->Prop}{s:Shared}{elt target iter:Expr}{ifs:List Expr}{scope:Scope}{pos:Pos}{it acc:Value}{env:Env}(T:Sem Bool)
  (hT:compTurn (.ListComp elt [⟨target,iter,ifs,0⟩] scope pos) 0 it acc env=(standAt iter.pos >>= λ_=>pyNext it >>= λr=>match r with
   |none=>pure (.done .next)
   |some v=>letOwnedTupleGo target it v >>= λ_=>assign target env v >>= λ_=>T >>= λok=>(if ok=true then (eval elt env >>= λx=>call (.builtin "list.append") [acc,x] >>= λ_=>pure ()) else pure ()) >>= λ_=>
     again (.compLoop (.ListComp elt [⟨target,iter,ifs,0⟩] scope pos) 0 it acc env)))
  (I:Nat->Shared->Prop)
  (turn:∀n s,I n s->wpAny (model prog w) A (pyNext it) (λr s₁=>match r with
   |none=>R (.ok .next) s₁
   |some v=>wpAny (model prog w) A (letOwnedTupleGo target it v) (λ_ s₁'=>wpAny (model prog w) A (assign target env v) (λ_ s₂=>wpAny (model prog w) A T (λok s₃=>
     if ok=true then wpAny (model prog w) A (eval elt env) (λx s₄=>wpAny (model prog w) A (call (.builtin "list.append") [acc,x]) (λ_ s₅=>∃m,m<n/\I m s₅) (λ_ _=>False) s₄) (λ_ _=>False) s₃
     else ∃m,m<n/\I m s₃) (λ_ _=>False) s₂) (λ_ _=>False) s₁') (λ_ _=>False) s₁) (λ_ _=>False) s)
  (n:Nat) (h:I n s):codeAny (model prog w) A (.compLoop (.ListComp elt [⟨target,iter,ifs,0⟩] scope pos) 0 it acc env) R s:=by
 refine codeAny_loop rfl I (λn s hI=>?_) n h;show wpAny _ A ((compTurn (.ListComp elt [⟨target,iter,ifs,0⟩] scope pos) 0 it acc env).onRaise (λx=>do noteFrame x env;theTreesLotGoes x)) _ _ s;refine wpAny_noted ?_;rw[hT];refine Za (wpAny_standAt (Za (Yq (turn n s hI) (λr s₁ h₁=>?_) λ_ _ h'=>h'.elim)));cases r with
 |none=>exact Zm h₁
 |some v=>
  refine Za (Yq h₁ (λ_ s₁' h₁'=>?_) λ_ _ h'=>h'.elim);refine Za (Yq h₁' (λ_ s₂ h₂=>Za (Yq h₂ (λok s₃ h₃=>?_) λ_ _ h'=>h'.elim)) λ_ _ h'=>h'.elim);cases ok with
  |true=>
   rw[Zr rfl] at h₃;simp only[Vr];exact Za (Za (Yq h₃ (λx s₄ h₄=>Za (Yq h₄ (λ_ s₅ h₅=>Zm (Zm ⟨rfl,h₅⟩)) λ_ _ h'=>h'.elim)) λ_ _ h'=>h'.elim))
  |false=>
   rw[Zo Zu] at h₃;simp only[Yh,Wa];exact Za (Zm (Zm ⟨rfl,h₃⟩))
theorem q87 (elt target iter:Expr) (scope:Scope) (pos:Pos) (it acc:Value) (env:Env):compTurn (.ListComp elt [⟨target,iter,[],0⟩] scope pos) 0 it acc env=(standAt iter.pos >>= λ_=>pyNext it >>= λr=>match r with
   |none=>pure (.done .next)
   |some v=>letOwnedTupleGo target it v >>= λ_=>assign target env v >>= λ_=>(pure true:Sem Bool) >>= λok=>(if ok=true then (eval elt env >>= λx=>call (.builtin "list.append") [acc,x] >>= λ_=>pure ()) else pure ()) >>= λ_=>
     again (.compLoop (.ListComp elt [⟨target,iter,[],0⟩] scope pos) 0 it acc env)):=by
 rw[compTurn_list1];congr 1
theorem qF6 (elt target iter c:Expr) (scope:Scope) (pos:Pos) (it acc:Value) (env:Env):compTurn (.ListComp elt [⟨target,iter,[c],0⟩] scope pos) 0 it acc env=(standAt iter.pos >>= λ_=>pyNext it >>= λr=>match r with
   |none=>pure (.done .next)
   |some v=>letOwnedTupleGo target it v >>= λ_=>assign target env v >>= λ_=>isTrue c env (eval c env) >>= λok=>(if ok=true then (eval elt env >>= λx=>call (.builtin "list.append") [acc,x] >>= λ_=>pure ()) else pure ()) >>= λ_=>
     again (.compLoop (.ListComp elt [⟨target,iter,[c],0⟩] scope pos) 0 it acc env)):=by
 rw[compTurn_list];refine Vh λ_=>Vh λr=>?_;cases r with
 |none=>rfl
 |some v=>
  refine Vh λ_=>Vh λ_=>?_;simp only[WL,Vn,Vr,bind_assoc,WX];refine Vh λok=>?_;cases ok<;>simp
theorem qz7 {j8:List (Addr×Obj)}{σ:St}{H:Hp}{s:Shared}{h':Heap}{tk:Nat}{scope:Scope}{cl:List (Str×Addr)}{C:Addr}{nn:List Str}{fp:List Addr}{m:Str->Option Value}
  (I:Inv X j8 σ H s) (hC:C=s.heap.objs.size) (keep:∀b o,s.heap.get? b=some o->h'.get? b=some o) (ns:h'.Ns C m) (hfp:∀b∈fp,FpOk X j8 H b) (hfs:∀b∈fp,b<s.heap.objs.size)
  (jD:scope.kind=.function) (jB:∀y∈scope.names,y.2≠.cell) (jL:∀y∈X.N,scope.names.lookup y≠some .local)
  (jU:∀y c,cl.lookup y=some c->X.env.cells.lookup y=some c) (hcl2:∀p∈scope.names,p.2=.free->(cl.lookup p.1).isSome=true)
  (jN:∀p∈scope.names,p.2=.free->Vis X.env.scope p.1/\X.env.scope.names.lookup p.1≠some .local) :
  Inv (qc9 X scope cl C nn fp s H) [] ((nn.map λ_=>none)++σ) H { s with heap:=h',toks:=tk }:=by
 have cells:∀y c,cl.lookup y=some c->∃v,s.heap.IsCell c v:=λy c e=>I.cell y c (jU y c e);have celllt:∀y c,cl.lookup y=some c->c<s.heap.objs.size:=λy c e=>by
  obtain⟨v,q⟩:=cells y c e;exact q.lt
 have cellk:∀c v,s.heap.IsCell c v->h'.IsCell c v:=λc v ⟨o,e,d⟩=>⟨o,keep c o e,d⟩;have stkl:∀b∈frs X.stack,∃o,s.heap.get? b=some o:=λb hb=>by
  rcases Zy.mp (I.stkSub b hb) with e|hb
  ·obtain⟨_,⟨o,_,_,ho,_⟩,_⟩:=I.loc;exact⟨o,by rw[e];exact ho⟩
  ·obtain⟨_,o,ho,_⟩:=I.funs.mem hb;exact⟨o,ho⟩
 refine⟨⟨I.ok.mod,jD,I.ok.glob,I.ok.blt,XV hC.symm,λy z c h1 h2=>I.ok.inj y z c (jU y c h1) (jU z c h2),λy hy=>?_,λy c h _=>Bool.noConfusion h,I.ok.hd,I.ok.frames,.inl rfl,λb hb=>⟨?_,λy c e z=>?_⟩,I.bs,
  ZK I.ok.bsz I.sz,λb o e hb=>?_,λb hb hf=>?_,I.stack,I.stkFree⟩,rfl,I.bare,Un.kept keep,⟨m,ns,λi y v h1 h2 h3=>?_⟩,λy c e=>?_,?_,λy c e=>?_,λp hp=>absurd hp (by simp[qc9]),I.hok.kept keep,?_⟩
 ·
  have hy:(relabel scope X.env).names.lookup y=some .cell\/(relabel scope X.env).names.lookup y=some .free:=hy;obtain⟨p,hp,e1,e2⟩:∃p∈scope.names,p.1=y/\p.2=.free:=by
   rcases hy with hy|hy
   ·exact qk1 hy jB (.inl rfl)
   ·exact qk1 hy jB (.inr rfl)
  obtain⟨c,e⟩:=Xi.mp (hcl2 p hp e2);exact⟨c,by rw[<- e1];exact e⟩
 ·show b≠C;rw[hC];exact Zz (hfs b hb)
 ·exact (hfp b hb).2.2.2.2.1 y c (jU y c e) z
 ·rcases (hfp b hb).2.2.2.1 with z|z
  ·exact I.ok.noex b o e z
  ·exact absurd (ZM (Zl (I.ok.bs b o e).1) z) (YF _)
 ·rcases Zy.mp (I.stkSub b hf) with z|z
  ·exact (hfp b hb).2.1 z
  ·exact (hfp b hb).2.2.1 z
 ·
  by_cases jO:i<nn.length
  ·rw[Zg (by simpa using jO)] at h2;simp at h2
  ·obtain⟨j,rfl⟩:∃j,i=nn.length+j:=⟨i-nn.length,by lia⟩;have h1:X.N[j]?=some y:=by
    have h1:(nn++X.N)[nn.length+j]?=some y:=h1;rw[Zh (Vc _ _),Nat.add_sub_cancel_left] at h1;exact h1
   have h2:σ[j]?=some (some v):=by
    rw[Zh (by simp)] at h2;simpa using h2
   have h3:(relabel scope X.env).names.lookup y=some .local\/(relabel scope X.env).names.lookup y=some .cell\/(relabel scope X.env).names.lookup y=some .free:=h3;rcases h3 with h3|h3
   ·exact absurd (qr4 h3) (jL y (Zx h1))
   ·obtain⟨p,hp,e1,e2⟩:∃p∈scope.names,p.1=y/\p.2=.free:=by
     rcases h3 with h3|h3
     ·exact qk1 h3 jB (.inl rfl)
     ·exact qk1 h3 jB (.inr rfl)
    obtain⟨hv,hnl⟩:=jN p hp e2;rw[e1] at hv hnl;obtain⟨m0,_,hl0⟩:=I.loc;obtain⟨u,ru,lk⟩:=hl0 j y v h1 h2 hv;rcases lk with ⟨lk,_⟩|⟨_,c,hc,hcv⟩
    ·exact absurd lk hnl
    ·obtain⟨c',e'⟩:=Xi.mp (hcl2 p hp e2);rw[e1] at e';have:=jU y c' e';rw[hc] at this;cases this;refine⟨u,ru,.inr ⟨h3,c,e',cellk c _ hcv⟩⟩
 ·obtain⟨v,q⟩:=cells y c e;exact⟨v,cellk c v q⟩
 ·show H C=none;exact I.hok.fresh (XV hC.symm)
 ·exact I.freeC y c (jU y c e)
 ·show ((nn.map λ_=>none)++σ).length=(nn++X.N).length;simp[I.len]
theorem qK9 {j8:List (Addr×Obj)}{σ σ':St}{H H':Hp}{s s':Shared}{h':Heap}{scope:Scope}{cl:List (Str×Addr)}{C:Addr}{nn:List Str}{fp:List Addr}
  (I:Inv X j8 σ H s) (hC:C=s.heap.objs.size) (hfp:∀b∈fp,FpOk X j8 H b) (J:Inv (qc9 X scope cl C nn fp s H) [] σ' H' s') (sb:Heap.SameBut C s'.heap h'):Inv X j8 σ H' { s' with heap:=h' }:=by
 have ne:∀b o,s.heap.get? b=some o->b≠C:=λb o e=>by rw[hC];exact Zz (Zl e)
 have B:Un (frs X.stack) fp H H' s.heap s'.heap:=J.base;have U:Un (frs X.stack) fp H H' s.heap h':=
  ⟨λb o e n hb hx=>(sb.2 b (ne b o e)).trans (B.keep b o e n hb hx),λb o e n hb hx=>by
   obtain⟨sl,q⟩:=B.slot b o e n hb hx;exact⟨sl,(sb.2 b (ne b o e)).trans q⟩,B.free,λb o e hx=>by
   obtain⟨o',q⟩:=B.there b o e hx;exact⟨o',(sb.2 b (ne b o e)).trans q⟩,B.tups,B.frzs,B.tbls⟩
 have hf:H' C=none:=J.free;have K:HOk X.prog X.w H' h':=λb o e=>(J.hok b o e).stay (λc u hc q=>(sb.2 c (by
  rintro rfl;rcases hc with z|z
  ·rw[z,e] at hf;cases hf
  ·rw[hf] at z;cases z)).trans q) (λ_ q=>q) λ_ _ q=>q
 refine I.call' (s':={ s' with heap:=h' }) (ch:=fp) J.os U K J.bare λb hb=>?_;obtain⟨_,h2,_,h4,h5,h6⟩:=hfp b hb;exact⟨h4,h2,h5,h6⟩
theorem qx2 {nn:List Str}{tg:Expr}{ifs:List Expr}{pos:Pos}{elt iter:Expr}{scope:Scope}{wi:TI}{g:TG}{tt:TT}{te:TE}(T:Env->Sem Bool) (hc:X.calm=true) (hi:PI X tg iter wi)
  (hturn:∀it acc env,compTurn (.ListComp elt [⟨tg,iter,ifs,0⟩] scope pos) 0 it acc env=(standAt iter.pos >>= λ_=>pyNext it >>= λr=>match r with
   |none=>pure (.done .next)
   |some v=>letOwnedTupleGo tg it v >>= λ_=>assign tg env v >>= λ_=>T env >>= λok=>(if ok=true then (eval elt env >>= λx=>call (.builtin "list.append") [acc,x] >>= λ_=>pure ()) else pure ()) >>= λ_=>
     again (.compLoop (.ListComp elt [⟨tg,iter,ifs,0⟩] scope pos) 0 it acc env)))
  (hgt:∀cl C fp s₀ H₀,PG (qc9 X scope cl C nn fp s₀ H₀) tg g)
  (hloc2:∀y (os σ:St) H R,os.length=nn.length->g y (os++σ) H R->g y (os++σ) H λσ' H'=>(∃os':St,os'.length=nn.length/\σ'=os'++σ)/\R σ' H')
  (htt:∀cl C fp s₀ H₀ (j8:List (Addr×Obj)) (s:Shared) (σ:St) (H:Hp) (Q:Bool->Hp->Prop),Inv (qc9 X scope cl C nn fp s₀ H₀) j8 σ H s->tt σ H Q->wpAny (model X.prog X.w) X.A (T (compEnvC scope cl C X.env)) (TP (qc9 X scope cl C nn fp s₀ H₀) j8 σ Q) (λ_ _=>False) s)
  (he:∀cl C fp s₀ H₀,PE (qc9 X scope cl C nn fp s₀ H₀) elt te)
  (jD:scope.kind=.function) (jB:∀y∈scope.names,y.2≠.cell) (jF:∀y∈scope.names,y.2=.local->scope.names.lookup y.1=some .local)
  (jL:∀y∈X.N,scope.names.lookup y≠some .local) (jN:∀p∈scope.names,p.2=.free->Vis X.env.scope p.1/\X.env.scope.names.lookup p.1≠some .local)
  (hs:∀x,foldedSetIterable iter X.env x=pure x):PE X (.ListComp elt [⟨tg,iter,ifs,0⟩] scope pos) (qw1 nn.length wi g tt te):=by
 intro j8 s σ H Q I h;rw[eval_ListComp];obtain⟨cl,hclos,jU,hcl2⟩:=qo0 (scope:=scope) (env:=X.env) (λp hp hk=>by
  obtain⟨hv,hn⟩:=jN p hp hk;refine I.ok.has p.1 ?_;rcases hv with z|z
  ·exact absurd z hn
  ·exact z)
 refine wpAny_comprehension_free (use:=none) rfl hs hclos jD jF (thn (hi j8 s σ H _ I h) λv s1 h1=>thn h1 λitv s2 h2=>?_);obtain⟨it,fp,tn,J,H2,rfl,I2,T',st2,f2,q⟩:=h2;have hD:H2 s2.heap.objs.size=none:=I2.hok.fresh (Ze _);obtain⟨W,⟨m0,w0⟩,turn⟩:=q _ hD;refine Yg (wpAny_newFunctionEnv jB (by intro y hy;simp at hy) (λh₁ hns₁ hsb₁=>?_) jD);dsimp only at hns₁ hsb₁ ⊢;have I3:Inv X j8 σ (upd H2 s2.heap.objs.size (.lst [])) { s2 with heap:=s2.heap.push { cls:=.type "list",dict:=none,data:=.seq ([]:List Value).toArray } }:=
  I2.laid (t':=s2.toks) (λb u e=>Zc _ e) (Ze _) ⟨ZN _,[],0,.nil,Zn _ rfl⟩
 have fpn:∀b∈fp,b≠s2.heap.objs.size:=λb hb=>by
  obtain⟨o,e,_⟩:=T'.obj 0 s2.heap st2 b hb;exact Zz (Zl e)
 have fplt:∀b∈fp,b<(s2.heap.push { cls:=.type "list",dict:=none,data:=.seq ([]:List Value).toArray }).objs.size:=λb hb=>by
  obtain⟨o,e,_⟩:=T'.obj 0 s2.heap st2 b hb;rw[Yi];exact YX (Zl e)
 have f3:∀b∈fp,FpOk X j8 (upd H2 s2.heap.objs.size (.lst [])) b:=λb hb=>⟨by rw[qa6 (fpn b hb)];exact (f2 b hb).1,(f2 b hb).2⟩;generalize kA:s2.heap.push { cls:=.type "list",dict:=none,data:=.seq ([]:List Value).toArray }=g2 at hns₁ hsb₁ I3 fplt ⊢;have keep:∀b o,g2.get? b=some o->h₁.get? b=some o:=λb o e=>(hsb₁.2 b (Zz (Zl e))).trans (Zc _ e);have J0:=qz7 (nn:=nn) (tk:=s2.toks+([]:List (Str×Value)).length) I3 (C:=g2.objs.size) rfl keep hns₁ f3 fplt jD jB jL jU hcl2 jN;generalize hY:qc9 X scope cl g2.objs.size nn fp { s2 with heap:=g2 } (upd H2 s2.heap.objs.size (.lst []))=Y at J0;have eY:PE Y elt te:=by rw[<- hY];exact he _ _ _ _ _
 have eG:PG Y tg g:=by rw[<- hY];exact hgt _ _ _ _ _
 have eT:∀(j8:List (Addr×Obj)) (s:Shared) (σ:St) (H:Hp) (Q:Bool->Hp->Prop),Inv Y j8 σ H s->tt σ H Q->wpAny (model Y.prog Y.w) Y.A (T Y.env) (TP Y j8 σ Q) Y.xe s:=by rw[<- hY];exact htt _ _ _ _ _
 have eP:Y.prog=X.prog:=by rw[<- hY];rfl
 have eW:Y.w=X.w:=by rw[<- hY];rfl
 have eK:Y.K=X.K:=by rw[<- hY];rfl
 have eA:Y.A=X.A:=by rw[<- hY];rfl
 have eC:Y.calm=true:=by rw[<- hY];exact hc
 have eE:Y.env=compEnvC scope cl g2.objs.size X.env:=by rw[<- hY];rfl
 have eX:Y.xe=λ_ _=>False:=by rw[<- hY];rfl
 have eN:Y.N=nn++X.N:=by rw[<- hY];rfl
 have eEx:Y.ex=fp:=by rw[<- hY];rfl
 have eFs:Y.fs=frs X.stack:=by rw[<- hY];rfl
 have ePn:Y.pn=[]:=by rw[<- hY];rfl
 have fpY:∀{H':Hp},(∀b∈fp,H' b=none)->∀b∈fp,FpOk Y [] H' b:=λhn b hb=>by
  have g:=f3 b hb;refine⟨hn b hb,?_,?_,.inl (by rw[eEx];exact hb),?_,λp hp=>absurd hp (by rw[ePn];simp)⟩
  ·rw[eE];exact Zz (fplt b hb)
  ·rw[eFs];intro z;rcases Zy.mp (I3.stkSub b z) with z|z
   ·exact g.2.1 z
   ·exact g.2.2.1 z
  ·rw[eE];exact λy c e=>g.2.2.2.2.1 y c (jU y c e)
 have loop:∀s₃:Shared,s₃={ s2 with heap:=h₁,toks:=s2.toks+([]:List (Str×Value)).length } ->
   codeAny (model X.prog X.w) X.A (.compLoop (.ListComp elt [⟨tg,iter,ifs,0⟩] scope pos) 0 (.ref it) (.ref s2.heap.objs.size) (compEnvC scope cl g2.objs.size X.env))
    (compPost (model X.prog X.w) X.A X.xe none (EP X j8 σ Q) (.ref s2.heap.objs.size) g2.objs.size) s₃:=by
  rintro s₃ rfl;refine qK8 (T (compEnvC scope cl g2.objs.size X.env)) (hturn _ _ _) (λn s'=>∃i xs H' os,os.length=nn.length/\Inv Y [] (os++σ) H' s'/\tn i s'.heap/\(∀b∈fp,H' b=none)/\W i n xs H') ?_ m0
   ⟨0,[],_,nn.map λ_=>none,by simp,J0,T'.keep 0 _ _ st2 (λb hb o e=>keep b o (by rw[<- kA];exact Zc _ e)),λb hb=>(f3 b hb).1,w0⟩
  rintro n s3 ⟨i,xs,H3,os,kW,I4,st3,fr3,w3⟩;obtain⟨hDx,hlx,alt⟩:=turn i n xs H3 w3;rcases alt with ⟨stop,qn⟩|⟨go,step⟩
  ·have D1:=T'.done Y eP eW eK eC i [] s3 _ H3 (λ_ _=>False) I4 (fpY fr3) st3 stop;rw[eA] at D1;refine thn D1 λr s4 ⟨hr,I5⟩=>?_;subst hr;obtain⟨m4,kG,_⟩:=id I5.loc;rw[eE] at kG;refine⟨m4,kG,λh' sb=>⟨.ref _,H3,?_,rfl,qn⟩⟩;rw[<- hY] at I5;exact qK9 I3 rfl f3 I5 sb
  ·have G1:=T'.item Y eP eW eK eC i [] s3 _ H3 (λ_ _=>False) I4 (fpY fr3) st3 go;rw[eA] at G1;refine thn G1 λr s4 ⟨u,hr,h4⟩=>?_;subst hr;refine thn h4 λ_ s5 ⟨y,H5,I5,r5,y5,st5,fr5⟩=>?_;have I5':=I5.pinned (fpY fr5) (T'.obj _ _ st5);have S1:=eG _ s5 _ H5 y u _ I5' r5 (hloc2 y os σ H5 _ kW (step y _ y5 os kW));rw[eP,eW,eA,eE,eX] at S1;refine thn S1 λ_ s6 ⟨σ6,H6,I6,⟨os6,hos6,e6⟩,q6⟩=>?_;subst e6;have S2:=eT _ s6 _ _ _ I6 q6;rw[eP,eW,eA,eE,eX] at S2;refine thn S2 λok s7 ⟨H7,I7,q7⟩=>?_;have back:∀{s9:Shared}{H9:Hp}{m':Nat}{zs:List V},Inv Y ([]++qD1 fp s5.heap) (os6++σ) H9 s9->m'<n->W (i+1) m' zs H9->∃m,m<n/\∃i xs H' os,os.length=nn.length/\Inv Y [] (os++σ) H' s9/\tn i s9.heap/\(∀b∈fp,H' b=none)/\W i m xs H':=λ{s9 H9 m' zs} I9 hm' w9=>by
    have pin:∀b∈fp,∀ob,s5.heap.get? b=some ob->s9.heap.get? b=some ob/\H9 b=none:=λb hb ob e=>by
     have z:=I9.pin (b,ob) (ZR _ (ZR _ (ql4 hb e)));exact⟨z.1,z.2.1⟩
    refine⟨m',hm',i+1,zs,H9,os6,hos6,I9.unpinned,T'.keep _ _ _ st5 (λb hb ob e=>(pin b hb ob e).1),λb hb=>?_,w9⟩;obtain⟨ob,e,_⟩:=T'.obj _ _ st5 b hb;exact (pin b hb ob e).2
   cases ok with
   |true=>
    rw[Zr rfl] at q7;rw[Zr rfl];have S3:=eY _ s7 _ _ _ I7 q7;rw[eP,eW,eA,eE,eX] at S3;refine thn S3 λxv s8 ⟨v8,H8,I8,r8,hD8,m',hm',w8⟩=>?_;have S4:=qe5 (X:=Y) _ s8 _ H8 (.ref s2.heap.objs.size) [v8] (.ref s2.heap.objs.size) [xv] (λ_ H9=>H9=upd H8 s2.heap.objs.size (.lst (xs++[v8]))) I8 rfl (.cons r8 .nil) ⟨_,xs,v8,rfl,rfl,hD8,hlx,rfl⟩;rw[eP,eW,eA,eX] at S4;refine thn S4 λ_ s9 ⟨v9,H9,I9,_,e9⟩=>?_;subst e9;exact back I9 hm' w8
   |false=>
    rw[Zo Zu] at q7;rw[Zo Zu];obtain⟨m',hm',w8⟩:=q7;exact back I7 hm' w8
 exact codeAny_compStart_list (loop _ rfl) (T'.self _ 0 _ _ _ (T'.keep 0 _ _ st2 (λb hb o e=>keep b o (by rw[<- kA];exact Zc _ e))) (loop _ rfl))
theorem qo1 {scope sc:Scope}{N:List Str}(vD:X.N=N) (kZ:X.env.scope=sc)
  (jB:scope.names.all (λy=>y.2 != .cell)=true) (jF:scope.names.all (λy=>y.2 != .local||scope.names.lookup y.1==some .local)=true) (jL:N.all (λy=>scope.names.lookup y != some .local)=true)
  (jN:scope.names.all (λp=>p.2 != .free||(sc.names.lookup p.1==some .cell||sc.names.lookup p.1==some .free))=true) :
  (∀y∈scope.names,y.2≠.cell)/\(∀y∈scope.names,y.2=.local->scope.names.lookup y.1=some .local)/\(∀y∈X.N,scope.names.lookup y≠some .local)/\(∀p∈scope.names,p.2=.free->Vis X.env.scope p.1/\X.env.scope.names.lookup p.1≠some .local):=by
 refine⟨λy hy=>?_,λy hy hl=>?_,λy hy=>?_,λp hp hk=>?_⟩
 ·have:=Z6.mp jB y hy;simpa using this
 ·have:=Z6.mp jF y hy;simpa [hl] using this
 ·have:=Z6.mp jL y (by rw[<- vD];exact hy);simpa using this
 ·have:=Z6.mp jN p hp;rw[hk] at this;have z:sc.names.lookup p.1=some .cell\/sc.names.lookup p.1=some .free:=by simpa using this
  rw[kZ];refine⟨.inr z,λq=>?_⟩;rcases z with z|z<;>(rw[z] at q;cases q)
theorem loc1 {y:V}{os σ:St}{H:Hp}{R:St->Hp->Prop}(ho:os.length=1) (h:qh3 0 y (os++σ) H R):qh3 0 y (os++σ) H λσ' H'=>(∃os':St,os'.length=1/\σ'=os'++σ)/\R σ' H':=by
 match os,ho with
 |[o],_=>exact⟨⟨[some y],rfl,rfl⟩,h⟩
theorem loc2 {K:PySem.W.Frag}{y:V}{os σ:St}{H:Hp}{R:St->Hp->Prop}(ho:os.length=2) (h:gTup K 2 (qu3 (qh3 0) (qu3 (qh3 1) gNil)) y (os++σ) H R) :
  gTup K 2 (qu3 (qh3 0) (qu3 (qh3 1) gNil)) y (os++σ) H λσ' H'=>(∃os':St,os'.length=2/\σ'=os'++σ)/\R σ' H':=by
 match os,ho with
 |[o1,o2],_=>
  obtain⟨a,xs,e1,e2,e3,v,r,e4,v2,r2,e5,e6,q⟩:=h;exact⟨a,xs,e1,e2,e3,v,r,e4,v2,r2,e5,e6,⟨[some v,some v2],rfl,rfl⟩,q⟩
theorem qL0 {x:Str}{px pos:Pos}{elt iter c:Expr}{scope:Scope}{wi:TI}{tt:TT}{te:TE}(N:List Str) (sc:Scope) (vD:X.N=N) (kZ:X.env.scope=sc) (hc:X.calm=true) (hN:X.N.Nodup) (hi:PI X (.Name x px) iter wi)
  (ht:∀cl C fp s₀ H₀,PT (qc9 X scope cl C [x] fp s₀ H₀) c tt) (he:∀cl C fp s₀ H₀,PE (qc9 X scope cl C [x] fp s₀ H₀) elt te)
  (jD:scope.kind=.function:=by rfl) (jB:scope.names.all (λy=>y.2 != .cell)=true:=by decide +kernel) (jF:scope.names.all (λy=>y.2 != .local||scope.names.lookup y.1==some .local)=true:=by decide +kernel)
  (hx:scope.names.lookup x=some .local:=by rfl) (jL:N.all (λy=>scope.names.lookup y != some .local)=true:=by decide +kernel)
  (jN:scope.names.all (λp=>p.2 != .free||(sc.names.lookup p.1==some .cell||sc.names.lookup p.1==some .free))=true:=by decide +kernel)
  (hs:∀x,foldedSetIterable iter X.env x=pure x:=by intro _;rfl):PE X (.ListComp elt [⟨.Name x px,iter,[c],0⟩] scope pos) (qw1 1 wi (qh3 0) tt te):=by
 obtain⟨s1,s2,s3,s4⟩:=qo1 vD kZ jB jF jL jN;refine qx2 (nn:=[x]) (λenv=>isTrue c env (eval c env)) hc hi (λit acc env=>qF6 elt _ iter c scope pos it acc env) (λcl C fp s₀ H₀=>?_) (λy os σ H R ho h=>loc1 ho h) (λcl C fp s₀ H₀ j8 s σ H Q I h=>ht cl C fp s₀ H₀ j8 s σ H Q I h) he jD s1 s2 s3 s4 hs;have l:(qc9 X scope cl C [x] fp s₀ H₀).env.scope.names.lookup x=some .local:=XN hx;exact qy6 (i:=0) (Y0.mpr ⟨λz=>s3 x z hx,hN⟩) rfl (.inl l) (.inr l)
theorem xv9 {x y:Str}{p1 p2 tpos:Pos}{k:Nat}{scope:Scope}{cl:List (Str×Addr)}{C:Addr}{fp:List Addr}{s₀:Shared}{H₀:Hp}(hc:X.calm=true) (hN:X.N.Nodup) (vZ:x≠y) (s3:∀z∈X.N,scope.names.lookup z≠some .local) (hx:scope.names.lookup x=some .local) (hy:scope.names.lookup y=some .local) :
  PG (qc9 X scope cl C [x,y] fp s₀ H₀) (.Tuple [.Name x p1,.Name y p2] k tpos) (gTup X.K 2 (qu3 (qh3 0) (qu3 (qh3 1) gNil))):=by
 have lx:(qc9 X scope cl C [x,y] fp s₀ H₀).env.scope.names.lookup x=some .local:=XN hx;have ly:(qc9 X scope cl C [x,y] fp s₀ H₀).env.scope.names.lookup y=some .local:=XN hy;have nd:(qc9 X scope cl C [x,y] fp s₀ H₀).N.Nodup:=Y0.mpr ⟨λz=>by
  rcases Zy.mp z with z|z
  ·exact vZ z
  ·exact s3 x z hx,Y0.mpr ⟨λz=>s3 y z hy,hN⟩⟩
 exact qn7 (X:=qc9 X scope cl C [x,y] fp s₀ H₀) hc (qb6 (qy6 (i:=0) nd rfl (.inl lx) (.inr lx)) (qb6 (qy6 (i:=1) nd rfl (.inl ly) (.inr ly)) qj8))
def xi9:TT:=λ_ H Q=>Q true H
theorem qU9 {x y:Str}{p1 p2 tpos pos:Pos}{k:Nat}{elt iter:Expr}{scope:Scope}{wi:TI}{te:TE}(N:List Str) (sc:Scope) (vD:X.N=N) (kZ:X.env.scope=sc) (hc:X.calm=true) (hN:X.N.Nodup) (hi:PI X (.Tuple [.Name x p1,.Name y p2] k tpos) iter wi)
  (he:∀cl C fp s₀ H₀,PE (qc9 X scope cl C [x,y] fp s₀ H₀) elt te) (vZ:x≠y:=by decide)
  (jD:scope.kind=.function:=by rfl) (jB:scope.names.all (λy=>y.2 != .cell)=true:=by decide +kernel) (jF:scope.names.all (λy=>y.2 != .local||scope.names.lookup y.1==some .local)=true:=by decide +kernel)
  (hx:scope.names.lookup x=some .local:=by rfl) (hy:scope.names.lookup y=some .local:=by rfl) (jL:N.all (λy=>scope.names.lookup y != some .local)=true:=by decide +kernel)
  (jN:scope.names.all (λp=>p.2 != .free||(sc.names.lookup p.1==some .cell||sc.names.lookup p.1==some .free))=true:=by decide +kernel)
  (hs:∀x,foldedSetIterable iter X.env x=pure x:=by intro _;rfl):PE X (.ListComp elt [⟨.Tuple [.Name x p1,.Name y p2] k tpos,iter,[],0⟩] scope pos) (qw1 2 wi (gTup X.K 2 (qu3 (qh3 0) (qu3 (qh3 1) gNil))) xi9 te):=by
 obtain⟨s1,s2,s3,s4⟩:=qo1 vD kZ jB jF jL jN;exact qx2 (nn:=[x,y]) (λ_=>pure true) hc hi (λit acc env=>q87 elt _ iter scope pos it acc env) (λcl C fp s₀ H₀=>xv9 hc hN vZ s3 hx hy) (λy os σ H R ho h=>loc2 ho h) (λcl C fp s₀ H₀ j8 s σ H Q I h=>Zm ⟨H,I,h⟩) he jD s1 s2 s3 s4 hs
theorem q17 {x y:Str}{p1 p2 tpos pos:Pos}{k:Nat}{elt iter c:Expr}{scope:Scope}{wi:TI}{tt:TT}{te:TE}(N:List Str) (sc:Scope) (vD:X.N=N) (kZ:X.env.scope=sc) (hc:X.calm=true) (hN:X.N.Nodup) (hi:PI X (.Tuple [.Name x p1,.Name y p2] k tpos) iter wi)
  (ht:∀cl C fp s₀ H₀,PT (qc9 X scope cl C [x,y] fp s₀ H₀) c tt) (he:∀cl C fp s₀ H₀,PE (qc9 X scope cl C [x,y] fp s₀ H₀) elt te) (vZ:x≠y:=by decide)
  (jD:scope.kind=.function:=by rfl) (jB:scope.names.all (λy=>y.2 != .cell)=true:=by decide +kernel) (jF:scope.names.all (λy=>y.2 != .local||scope.names.lookup y.1==some .local)=true:=by decide +kernel)
  (hx:scope.names.lookup x=some .local:=by rfl) (hy:scope.names.lookup y=some .local:=by rfl) (jL:N.all (λy=>scope.names.lookup y != some .local)=true:=by decide +kernel)
  (jN:scope.names.all (λp=>p.2 != .free||(sc.names.lookup p.1==some .cell||sc.names.lookup p.1==some .free))=true:=by decide +kernel)
  (hs:∀x,foldedSetIterable iter X.env x=pure x:=by intro _;rfl):PE X (.ListComp elt [⟨.Tuple [.Name x p1,.Name y p2] k tpos,iter,[c],0⟩] scope pos) (qw1 2 wi (gTup X.K 2 (qu3 (qh3 0) (qu3 (qh3 1) gNil))) tt te):=by
 obtain⟨s1,s2,s3,s4⟩:=qo1 vD kZ jB jF jL jN;exact qx2 (nn:=[x,y]) (λenv=>isTrue c env (eval c env)) hc hi (λit acc env=>qF6 elt _ iter c scope pos it acc env) (λcl C fp s₀ H₀=>xv9 hc hN vZ s3 hx hy) (λy os σ H R ho h=>loc2 ho h) (λcl C fp s₀ H₀ j8 s σ H Q I h=>ht cl C fp s₀ H₀ j8 s σ H Q I h) he jD s1 s2 s3 s4 hs
end
end L2
namespace L2
open PySem PySem.Spec PyProof.Rows PySem.W PySem.Builtin PySem.Builtin.ObjectAttr PySem.Builtin.Getset_descriptor
section
variable {prog:Program}{w:World}{A:Around}{E:Value->Shared->Prop}{s:Shared}{K:Frag}{x C:Addr}
def ExcAt (x C:Addr) (h:Heap):Prop:=∃ox vs,h.get? x=some ox/\ox.cls=.ref C/\ox.data=.fields vs/\vs[2]?=some .none
theorem ExcAt.type {M:Model}{h:Heap}(I:ExcAt x C h):Looks M h (typeOf (.ref x)) (.ref C):=by
 obtain⟨ox,_,h1,h2,_⟩:=I;have z:=(Looks.ld (M:=M) (part:=none) h1).andThen (f:=λo=>pure o.cls) (Looks.now (a:=ox.cls));rw[h2] at z;exact z
theorem xw0 {tp:Value}{R:Result->Shared->Prop}(X:K.In s.heap) (I:ExcAt x C s.heap) (hm:mroIn K C (.type "object")=some true) (h:R (.ok (.ret (.ref C))) s) :
  codeAny (model prog w) A (.call (.builtin "getset_descriptor.__get__") ⟨[.builtin "object.__class__",.ref x,tp],[]⟩) R s:=by
 obtain⟨h1,g1,d1,t1,o1⟩:=s;have Lt:=I.type (M:=model prog w);have Lm:=looks_mroIn (M:=model prog w) X hm;refine codeAny_call_builtin KF.slot_gs.plain KF.entry_gs ?_;refine KF.slot_gs.check _ _ _ _ _ _ _ _ KF.type_class (KF.args_gs _ _ _) ?_;unfold Builtin.«getset_descriptor.__get__» descrGet;rw[dga_obj];refine Za (Zm ?_);unfold descrGetter descrCheckInstance descrNameAndClass isInstance;simp only[KF.owner_class]
 repeat lk
 refine⟨Code.quiet_builtin _ (by decide +kernel),codeAny_builtin KF.entry_class ?_⟩;unfold Builtin.«object.__class__» shownTypeOf
 repeat lk
 exact h
theorem q88 {tk:Tok}{Q:Fin->Shared->Prop}(X:K.In s.heap) (I:ExcAt x C s.heap)
  (ha:findIn K (.ref C) "__class__" = some (some (.builtin "object.__class__"))) (hn:specialIn K (.builtin "object.__class__") "__get__" = some (some (.builtin "getset_descriptor.__get__"))) (htk:takesIn K (.builtin "object.__class__")=some true)
  (hm:mroIn K C (.type "object")=some true) (hc:(clsIn K C).isSome=true) (h:Q (.done (.ret (.ref C))) s):wpAny (model prog w) A (Builtin.«object.__getattribute__» ⟨[.ref x,.str "__class__" tk],[]⟩) Q E s:=by
 obtain⟨hh,g,d,t,os⟩:=s;have L0:=I.type (M:=model prog w);have L4:Looks (model prog w) hh (Builtin.ObjectAttr.find (.ref x) (.ref C) "__class__") (Builtin.ObjectAttr.Found.bind (.builtin "getset_descriptor.__get__") (.builtin "object.__class__")):=by
  have y1:=looks_findIn (M:=model prog w) X ha;have y2:Looks (model prog w) hh (Builtin.ObjectAttr.getOf (some (.builtin "object.__class__"))) (some (.builtin "getset_descriptor.__get__")):=looks_specialIn X hn;have y3:=looks_takesIn (M:=model prog w) X htk;have y4:Looks (model prog w) hh (Builtin.ObjectAttr.dataDescriptor? (some (.builtin "object.__class__")) (some (.builtin "getset_descriptor.__get__"))) (some (.builtin "getset_descriptor.__get__",.builtin "object.__class__")):=y3.andThen .now;exact y1.andThen (y2.andThen (y4.andThen (Looks.tag .now)))
 unfold Builtin.«object.__getattribute__»
 repeat (first|with_reducible refine L0.at ?_|with_reducible refine L4.at ?_|wp_step)
 refine xw0 X I hm ?_
 repeat (any_goals (first|assumption|wp_step))
theorem q89 {M:Model}{nameV:Value}{P:Unit->Shared->Prop}(X:K.In s.heap) (I:ExcAt x C s.heap) (hb:mroIn K C (.type "BaseException")=some true) (h:P () s) :
  wpAny M A (checkBuiltinCall "BaseException.__getattribute__" ⟨[.ref x,nameV],[]⟩) P E s:=by
 have hk:builtinKind "BaseException.__getattribute__" = some .slot:=by decide +kernel
 have hsplit:splitId "BaseException.__getattribute__" = some ("BaseException", "__getattribute__"):=by decide +kernel
 have hargs:=F.args_bexc_ga (.ref x) nameV;obtain⟨hh,g,d,t,os⟩:=s;have L0:=I.type (M:=M);have L3:=looks_mroIn (M:=M) X hb;simp only[checkBuiltinCall,hk,hsplit];refine Za ?_;unfold isInstance;refine Za (L0.at (L3.at ?_))
 repeat (first|assumption|wp_step)
theorem xj0 {tk:Tok}{R:Result->Shared->Prop}(X:K.In s.heap) (I:ExcAt x C s.heap)
  (ha:findIn K (.ref C) "__class__" = some (some (.builtin "object.__class__"))) (hn:specialIn K (.builtin "object.__class__") "__get__" = some (some (.builtin "getset_descriptor.__get__"))) (htk:takesIn K (.builtin "object.__class__")=some true)
  (hm:mroIn K C (.type "object")=some true) (hb:mroIn K C (.type "BaseException")=some true) (hc:(clsIn K C).isSome=true) (h:R (.ok (.ret (.ref C))) s) :
  codeAny (model prog w) A (.call (.builtin "BaseException.__getattribute__") ⟨[.ref x,.str "__class__" tk],[]⟩) R s:=
 codeAny_call_builtin F.excAttr_ValueError.ga.plain F.entry_bexc_ga (q89 X I hb (q88 X I ha hn htk hm hc h))
theorem q90 {Q:Option Value->Shared->Prop}(X:K.In s.heap) (I:ExcAt x C s.heap) (hga:findIn K (.ref C) "__getattribute__" = some (some (.builtin "BaseException.__getattribute__"))) (hgt:findIn K (.ref C) "__getattr__" = some none)
  (ha:findIn K (.ref C) "__class__" = some (some (.builtin "object.__class__"))) (hn:specialIn K (.builtin "object.__class__") "__get__" = some (some (.builtin "getset_descriptor.__get__"))) (htk:takesIn K (.builtin "object.__class__")=some true)
  (hm:mroIn K C (.type "object")=some true) (hb:mroIn K C (.type "BaseException")=some true) (hc:(clsIn K C).isSome=true) (h:Q (some (.ref C)) { s with toks:=s.toks+1 }) :
  wpAny (model prog w) A (getAttr? (.ref x) "__class__") Q E s:=by
 have go:=λ(A':Around) (R:Result->Shared->Prop) (tk:Tok)=>xj0 (prog:=prog) (w:=w) (A:=A') (R:=R) (s:={ s with toks:=s.toks+1 }) (tk:=tk) X I ha hn htk hm hb hc;obtain⟨hh,g,d,t,os⟩:=s;have L0:=I.type (M:=model prog w);have L1:=looks_findIn (M:=model prog w) X hga;have L2:=looks_findIn (M:=model prog w) X hgt;have f3:=F.excAttr_ValueError.ga.bind (.ref x);have hx2:(Value.builtin "BaseException.__getattribute__" == Value.builtin "object.__getattribute__")=false:=by decide +kernel
 have hx1:(onTheHeap (Value.ref C)&&Value.builtin "BaseException.__getattribute__" == Value.builtin "object.__getattribute__")=false:=by rw[hx2];rfl
 unfold getAttr? getAttrBy? getAttrBy;refine Za (wpAny_mkText (Za (Wb (YR (Za (L0.at (Za (L1.at ?_))))))));dsimp only;rw[Zo (by rw[hx1];exact Zu)];unfold getAttrByItsOwn
 repeat (any_goals (first|assumption|with_reducible refine L0.at ?_|with_reducible refine L2.at ?_|wp_step))
 refine go _ _ _ ?_
 repeat (any_goals (first|assumption|wp_step))
structure ExcCls (K:Frag) (C:Addr):Prop where
 hga:findIn K (.ref C) "__getattribute__" = some (some (.builtin "BaseException.__getattribute__"))
 hgt:findIn K (.ref C) "__getattr__" = some none
 ha:findIn K (.ref C) "__class__" = some (some (.builtin "object.__class__"))
 hn:specialIn K (.builtin "object.__class__") "__get__" = some (some (.builtin "getset_descriptor.__get__"))
 htk:takesIn K (.builtin "object.__class__")=some true
 hm:mroIn K C (.type "object")=some true
 hb:mroIn K C (.type "BaseException")=some true
 hc:(clsIn K C).isSome=true
theorem qV0 (T:ExcCls K C):KitX K (.ref x) (.ref C) (ExcAt x C) where
 ty:=λ_ _ _ I=>I.type
 it:=λ_ _ X _=>by
  have hc:=T.hc;unfold clsIn at hc;split at hc
  ·rename_i c' d' cd' sl' ho;intro A1 Q1 E1 s1 kp q1;unfold isType loadHead;refine Za (wpAny_loadPart (kp _ _ (X _ _ ho)) ?_);exact Zm q1
  ·cases hc
 ne:=λh tp dd its n sl X jW=>by
  have hc:=T.hc;refine W7.mpr λq=>?_;have e:C=tp:=Value.ref.inj (YG.mp q);subst e;unfold clsIn at hc;split at hc
  ·rename_i c' d' cd' sl' ho;have z:=(X _ _ ho).symm.trans jW;cases z
  ·cases hc
 ca:=λX I k=>q90 X I T.hga T.hgt T.ha T.hn T.htk T.hm T.hb T.hc k
end
end L2
namespace L2
open PySem PySem.Spec PyProof.Rows PySem.W
section
variable {K:Frag}{h:Heap}{C:Addr}{bmB:List Value}{newId:String}
theorem xD7 (X:K.In h) (q:excIn K C bmB newId=true):∃bm N nm qn bs hd sn sub ab col dd k0 k1 k2 k3 k5 mN,
  h.get? C=some (excClassObj nm qn C N bs bm hd sn sub ab col dd k0 k1 k2 k3 k5 newId)/\h.Ns N mN/\mN "__init__" = none/\OwnTail h bmB bm:=by
 unfold excIn at q;split at q
 ·rename_i dd cd sl ho;split at q
  ·rename_i C1 tl j0 j1 j2 j3 nn j5 e1 e2;simp only[YD,YG,YY] at q;obtain⟨⟨⟨⟨⟨z1,z2⟩,z3⟩,z4⟩,z5⟩,z6⟩:=q;subst z1 z2;obtain⟨a1,a2,a3,a4,a5,a6,a7,a8,a9,a10,a11⟩:=cd;dsimp only at e1 z3 z5 z6;subst e1 z3;obtain⟨l⟩:=sl;have e3:l=[j0,j1,j2,j3,some (.builtin nn),j5]:=e2;subst e3;have n1:=isNs_of_in X z5;exact⟨tl,a4,a1,a5,a2,a6,a7,a8,a9,a10,dd,j0,j1,j2,j3,j5,_,X _ _ ho,.of_isNs n1,nsMap_none_of_in X z5 z6,tail_of_in X z4⟩
  ·cases q
 ·cases q
end
abbrev bmV:List Value:=[.type "ValueError",.type "Exception",.type "BaseException",.type "object"]
section
variable {X:Cx}{x:Str}{C:Addr}{E:XK}{e₀:Expr}{rest:List Expr}{t:TA}{np cpos pos:Pos}
def xD8 (cls:Value) (E:XK) (t:TA):TS:=λ_ σ H=>t σ H λvs H1=>vs.length<=sizeLine/\E cls none H1
theorem qV1 (hg:Gl X x) (hm:X.mg x=some (.ref C)) (hx:excIn X.K C bmV "ValueError.__new__" = true) (hc:X.calm=true) (hr:xr1 X E) (ha:PA X (e₀::rest) t) (hd:(x==("__debug__" : Str))=false:=by decide)
  (he:starEach (e₀::rest) X.env=(false,eval e₀ X.env)::starEach rest X.env:=by rfl) (hplain:(backTo cpos (starEach rest X.env)).any (·.1)=false:=by rfl) :
  PS X (.Raise (some (.Call (.Name x np) (e₀::rest) [] cpos)) none pos) (xD8 (.ref C) E t):=by
 intro j8 s σ H D I h;obtain⟨bm,N,nm,qn,bs,hdd,sn,sub,ab,col,dd,k0,k1,k2,k3,k5,mN,hC,hN,hni,T⟩:=xD7 I.ok.mod.kin hx;refine wpAny_Raise_call_subU (C:=C) (nm:=nm) (q:=qn) (N:=N) (bs:=bs) (bm:=bm) (hdct:=hdd) (sn:=sn) (sub:=sub) (ab:=ab) (col:=col) (dd:=dd) (k0:=k0) (k1:=k1) (k2:=k2) (k3:=k3) (k5:=k5) (mN:=mN)
  F.excBase_ValueError (by decide) F.excBase_ValueError (T.hasType F.excBase_ValueError.hasBase) (I.ok.hd hc) (by rw[he];show (false||(backTo cpos (starEach rest X.env)).any (·.1))=false;rw[hplain];rfl) hni (qu2 I hg hm ⟨rfl,?_⟩ hd)
 have A1:=ha cpos j8 s σ H _ I h;rw[he] at A1 ⊢;refine Calls.evalArgs_plain (Yq A1 (λus s2 ⟨vs,H1,I1,r,hz,hE⟩=>?_) λ_ _ y=>y);exact⟨rfl,by rw[<- r.length];exact hz,I1.bk _ _ hC,hN.keeps I1.bk,T.keeps I1.bk,λh' e hm'=>hr j8 σ H1 s2 h' e _ _ I1 hm' hE⟩
end
section
variable {X:Cx}{j8:List (Addr×Obj)}{σ:St}{H:Hp}{s:Shared}
def q18 (X:Cx) (j8:List (Addr×Obj)) (E:XK):Cx:={ X with
 pn:=X.pn++j8
 xe:=λe s'=>∃(x:Addr) (cls:Value) (B:Heap) (H':Hp) (σ':St),e=.ref x/\Inv X j8 σ' H' s'/\Over B X.stack x cls .none s'.heap /\
  (∀b o,X.s₀.heap.get? b=some o->b∉frs X.stack->∃ob,B.get? b=some ob)/\(∀b o,H' b=some o->∃ob,B.get? b=some ob)/\(∀p∈X.pn++j8,∃ob,B.get? p.1=some ob)/\H' x=none/\E cls none H' }
def hCx (X:Cx) (x:Addr):Cx:={ X with A:=X.A.mark (some (.ref x)),calm:=false,xe:=λ_ _=>False }
theorem Inv.toTry (I:Inv X j8 σ H s) (E:XK):Inv (q18 X j8 E) [] σ H s:=
 ⟨⟨I.ok.mod,I.ok.kind,I.ok.glob,I.ok.blt,I.ok.above,I.ok.inj,I.ok.has,I.ok.cab,I.ok.hd,I.ok.frames,I.ok.stk,I.ok.exf,I.ok.bs,I.ok.bsz,I.ok.noex,I.ok.exfs,I.ok.funs,I.ok.frf⟩,I.os,I.bare,I.base,I.loc,I.cell,I.free,I.freeC,
  λp hp=>I.pin p (by simpa [q18] using hp),I.hok,I.len⟩
theorem Inv.ofTry {E:XK}{pins':List (Addr×Obj)}(I:Inv (q18 X j8 E) pins' σ H s):Inv X j8 σ H s:=
 ⟨⟨I.ok.mod,I.ok.kind,I.ok.glob,I.ok.blt,I.ok.above,I.ok.inj,I.ok.has,I.ok.cab,I.ok.hd,I.ok.frames,I.ok.stk,I.ok.exf,I.ok.bs,I.ok.bsz,I.ok.noex,I.ok.exfs,I.ok.funs,I.ok.frf⟩,I.os,I.bare,I.base,I.loc,I.cell,I.free,I.freeC,
  λp hp=>I.pin p (Xe _ hp),I.hok,I.len⟩
theorem Inv.toH (I:Inv X j8 σ H s) (x:Addr):Inv (hCx X x) j8 σ H s:=
 ⟨⟨I.ok.mod,I.ok.kind,I.ok.glob,I.ok.blt,I.ok.above,I.ok.inj,I.ok.has,I.ok.cab,λz=>Bool.noConfusion z,I.ok.frames,I.ok.stk,I.ok.exf,I.ok.bs,I.ok.bsz,I.ok.noex,I.ok.exfs,I.ok.funs,I.ok.frf⟩,I.os,I.bare,I.base,I.loc,I.cell,I.free,I.freeC,I.pin,I.hok,I.len⟩
theorem Inv.ofH {x:Addr}(hA:X.calm=true->X.A.handled=none) (I:Inv (hCx X x) j8 σ H s):Inv X j8 σ H s:=
 ⟨⟨I.ok.mod,I.ok.kind,I.ok.glob,I.ok.blt,I.ok.above,I.ok.inj,I.ok.has,I.ok.cab,hA,I.ok.frames,I.ok.stk,I.ok.exf,I.ok.bs,I.ok.bsz,I.ok.noex,I.ok.exfs,I.ok.funs,I.ok.frf⟩,I.os,I.bare,I.base,I.loc,I.cell,I.free,I.freeC,I.pin,I.hok,I.len⟩
theorem qQ8 {E:XK}(vW:X.ex=[]):qv9 (CX1 X.prog X.w) (q18 X j8 E) E:=by
 intro pins' σ H s e s' I h;obtain⟨x,cls,H',rfl,ho,hb,⟨B,U,HK,FW,c1,c2,hx⟩,hE⟩:=h;have I':Inv (q18 X j8 E) pins' σ H' s':=I.call' ho U HK hb (λb z=>absurd z (by simp));have nof:∀b,b≠X.env.locals->b∉X.fs->b∉frs X.stack:=λb h1 h2 h3=>by
  rcases Zy.mp (I.ofTry.stkSub b h3) with z|z
  ·exact h1 z
  ·exact h2 z
 refine⟨x,cls,B,H',σ,rfl,I'.ofTry,FW,λb o z hb=>?_,c2,λp hp=>?_,hx,hE⟩
 ·obtain⟨o',z'⟩:=I.ofTry.base.there b o z (by rw[vW];simp);exact c1 b o' z' hb
 ·obtain⟨z1,_,z3,z4,_⟩:=I.ofTry.pin p hp;exact c1 p.1 p.2 z1 (nof p.1 z3 z4)
theorem Inv.refly {B h2:Heap}{tk:Nat}(I:Inv X j8 σ H s) (vW:X.ex=[]) (F1:B.StaysIn s.heap) (F2:B.StaysIn h2) (sm:s.heap.UpToSlots h2)
  (c0:∀b o,X.s₀.heap.get? b=some o->b∉frs X.stack->∃ob,B.get? b=some ob) (c2:∀b o,H b=some o->∃ob,B.get? b=some ob) (cp:∀p∈X.pn++j8,∃ob,B.get? p.1=some ob):Inv X j8 σ H { s with heap:=h2,toks:=tk }:=by
 have same:∀b ob o,B.get? b=some ob->s.heap.get? b=some o->h2.get? b=some o:=λb ob o e1 e2=>by
  have q1:=F1 b ob e1;have q2:=F2 b ob e1;rw[e2] at q1;cases q1;exact q2
 have cellk:∀c v,s.heap.IsCell c v->h2.IsCell c v:=λc v ⟨o,e,d⟩=>by
  obtain⟨sl,q⟩:=sm c o e (λvs z=>by rw[d] at z;cases z);exact⟨_,q,d⟩
 have frame:∀b∈frs X.stack,∀o,s.heap.get? b=some o->∃sl,h2.get? b=some { o with slots:=sl }:=λb hb o e=>by
  obtain⟨_,o',e',d⟩:=I.stack.mem hb;rw[e] at e';cases e';exact sm b o e d
 have sub:∀b,b∈X.fs->b∈frs X.stack:=λb hb=>by
  rcases I.ok.stk with z|⟨z,_⟩
  ·rw[z];exact hb
  ·rw[z];show b∈(X.env::X.outer).filterMap (·.frame);rw[YH];split
   ·exact hb
   ·exact Zs _ hb
 have nl:∀b o,X.s₀.heap.get? b=some o->b≠X.env.locals:=λb o e=>Zz (ZM (Zl e) I.ok.above);have nst:∀b o,X.s₀.heap.get? b=some o->b∉X.fs->b∉frs X.stack:=λb o e h2 h3=>by
  rcases Zy.mp (I.stkSub b h3) with z|z
  ·exact nl b o e z
  ·exact h2 z
 have nox:∀b:Addr,b∉X.ex:=λb=>by rw[vW];simp
 refine⟨I.ok,I.os,I.bare,⟨λb o e n hb hx=>?_,λb o e n hb hx=>?_,I.base.free,λb o e hx=>?_,I.base.tups,I.base.frzs,I.base.tbls⟩,?_,λy c e=>?_,I.free,I.freeC,λp hp=>?_,λb o e=>?_,I.len⟩
 ·obtain⟨ob,z⟩:=c0 b o e (nst b o e hb);exact same b ob o z (I.base.keep b o e n hb hx)
 ·obtain⟨sl,q⟩:=I.base.slot b o e n hb hx;obtain⟨sl2,q2⟩:=frame b (sub b hb) _ q;exact⟨sl2,q2⟩
 ·obtain⟨o',q⟩:=I.base.there b o e hx;by_cases hb:b∈frs X.stack
  ·obtain⟨sl,q2⟩:=frame b hb o' q;exact⟨_,q2⟩
  ·obtain⟨ob,z⟩:=c0 b o e hb;exact⟨ob,F2 b ob z⟩
 ·obtain⟨m,hn,hl⟩:=I.loc;refine⟨m,sm.ns hn,λi y v h1 h2 h3=>?_⟩;obtain⟨u,r,l⟩:=hl i y v h1 h2 h3;refine⟨u,r,?_⟩;rcases l with l|⟨k,c,e,z⟩
  ·exact .inl l
  ·exact .inr ⟨k,c,e,cellk c _ z⟩
 ·obtain⟨v,z⟩:=I.cell y c e;exact⟨v,cellk c v z⟩
 ·obtain⟨z1,z2,z3,z4,z5⟩:=I.pin p hp;obtain⟨ob,z⟩:=cp p hp;exact⟨same p.1 ob p.2 z z1,z2,z3,z4,z5⟩
 ·refine (I.hok b o e).stay (λc u hc q=>?_) (λ_ q=>q) λ_ _ q=>q;rcases hc with z|z
  ·obtain⟨ob,zz⟩:=c2 b o e;rw[z] at q ⊢;exact same b ob u zz q
  ·obtain⟨ob,zz⟩:=c2 c _ z;exact same c ob u zz q
theorem Inv.caught {x C:Addr}{B:Heap}(I:Inv X j8 σ H s) (jT:X.stack=X.env::X.outer) (jN:X.env.frame=some X.env.locals) (hx:H x=none) (FW:Over B X.stack x (.ref C) .none s.heap)
  (c0:∀b o,X.s₀.heap.get? b=some o->b∉frs X.stack->∃ob,B.get? b=some ob) (cp:∀p∈X.pn++j8,∃ob,B.get? p.1=some ob):Inv X j8 σ (upd H x (.ext (ExcAt x C))) s:=by
 obtain⟨fB,fx,fF,oe,vs,T,oT,ts,he,hcls,hd,_,hv2,_⟩:=FW;have nfr:x∉frs X.stack:=λhm=>by
  obtain⟨_,o,e,d⟩:=fF.mem hm;rw[he] at e;cases e;exact d vs hd
 have nl:X.env.locals≠x:=λz=>nfr (by
  rw[jT];show x∈(X.env::X.outer).filterMap (·.frame);rw[YH,jN,z];exact ZC)
 have ns₀:∀b o,X.s₀.heap.get? b=some o->b≠x:=λb o e z=>by
  subst z;obtain⟨ob,q⟩:=c0 b o e nfr;rw[fx] at q;cases q
 refine⟨I.ok,I.os,I.bare,⟨I.base.keep,I.base.slot,λb o e n hx'=>?_,I.base.there,λb xs e=>?_,λb o u e=>?_,λb ps e=>?_⟩,I.loc,I.cell,?_,λy c e=>?_,λp hp=>?_,λb o e=>?_,I.len⟩
 ·rw[qa6 (ns₀ b o e)];exact I.base.free b o e n hx'
 ·have z:=I.base.tups b xs e;rw[qa6 (qa5 z hx)];exact z
 ·have z:=I.base.frzs b o u e;rw[qa6 (qa5 z hx)];exact z
 ·obtain⟨m,z⟩:=I.base.tbls b ps e;exact⟨m,by rw[qa6 (qa5 z hx)];exact z⟩
 ·rw[qa6 nl];exact I.free
 ·rw[qa6 (λz=>?_)]
  ·exact I.freeC y c e
  ·obtain⟨v,o,q,d⟩:=I.cell y c e;rw[z,he] at q;cases q;rw[hd] at d;cases d
 ·obtain⟨z1,z2,z3⟩:=I.pin p hp;obtain⟨ob,q⟩:=cp p hp;refine⟨z1,?_,z3⟩;rw[qa6 (λz=>by rw[z,fx] at q;cases q)];exact z2
 ·by_cases hb:b=x
  ·subst hb;rw[qa2] at e;cases e;refine⟨⟨oe,vs,he,hcls,hd,hv2⟩,⟨oe,he⟩,λh1 h2 ⟨ox,vs',q1,q2⟩ k=>⟨ox,vs',k ox q1,q2⟩⟩
  ·rw[qa6 hb] at e;exact (I.hok b o e).stay (λc u _ q=>q) (λc q=>by rw[qa6 (qa5 q hx)];exact q) λc xs q=>by rw[qa6 (qa5 q hx)];exact q
theorem xw1 {h:Heap}{a:Addr}{m m':Str->Option Value}(x:h.Ns a m) (y:h.Ns a m'):m=m':=by
 obtain⟨o,es,ep,e1,e2,_,e3⟩:=x;obtain⟨o',es',ep',f1,f2,_,f3⟩:=y;rw[e1] at f1;cases f1;rw[e2] at f2;cases f2;funext n;rw[<- e3 n,f3 n]
theorem Inv.unbound {i:Nat}{n:Str}{h':Heap}{m:Str->Option Value}{v:Option Value}{tk:Nat}(I:Inv X j8 σ H s) (hN:X.N.Nodup) (hi:X.N[i]?=some n) (hm:s.heap.Ns X.env.locals m) (hn:h'.Ns X.env.locals (λy=>if y=n then v else m y)) (sb:Heap.SameBut X.env.locals s.heap h') :
  Inv X j8 (σ.set i none) H { s with heap:=h',toks:=tk }:=by
 have ns₀:∀b o,X.s₀.heap.get? b=some o->b≠X.env.locals:=λb o e=>Zz (ZM (Zl e) I.ok.above);have tr:∀b o,H b=some o->b≠X.env.locals:=λb o e z=>by rw[z,I.free] at e;cases e
 refine⟨I.ok,I.os,I.bare,⟨λb o e a c d=>(sb.2 b (ns₀ b o e)).trans (I.base.keep b o e a c d),λb o e a c d=>?_,I.base.free,λb o e d=>?_,I.base.tups,I.base.frzs,I.base.tbls⟩,?_,λy c e=>?_,I.free,I.freeC,λp hp=>?_,λb o e=>?_,by simpa using I.len⟩
 ·obtain⟨sl,q⟩:=I.base.slot b o e a c d;exact⟨sl,(sb.2 b (ns₀ b o e)).trans q⟩
 ·obtain⟨o',q⟩:=I.base.there b o e d;exact⟨o',(sb.2 b (ns₀ b o e)).trans q⟩
 ·obtain⟨m',hm',hl⟩:=I.loc;refine⟨_,hn,λj y w e1 e2 e3=>?_⟩;have hj:j≠i:=λz=>by
   subst z;rw[Wr (by rw[I.len];exact (gS_ hi).1)] at e2;cases e2
  rw[WI (Yn hj)] at e2;obtain⟨u,r,l⟩:=hl j y w e1 e2 e3;refine⟨u,r,?_⟩;have ny:y≠n:=λz=>hj (qF0 hN e1 (z▸hi));rcases l with ⟨k,e⟩|⟨k,c,e,z⟩
  ·refine .inl ⟨k,?_⟩;show (if y=n then v else m y)=some u;rw[Zo ny,xw1 hm hm'];exact e
  ·exact .inr ⟨k,c,e,z.sameBut sb (I.cne y c e)⟩
 ·obtain⟨w,z⟩:=I.cell y c e;exact⟨w,z.sameBut sb (I.cne y c e)⟩
 ·obtain⟨z1,z2,z3,z4⟩:=I.pin p hp;exact⟨(sb.2 p.1 z3).trans z1,z2,z3,z4⟩
 ·refine (I.hok b o e).stay (λc u hc q=>(sb.2 c ?_).trans q) (λ_ q=>q) λ_ _ q=>q;rcases hc with z|z
  ·rw[z];exact tr b o e
  ·exact tr c _ z
def eTry (X:Cx) (F:Value) (i:Nat) (th:Addr->TS) (D:Ends):XK:=λcls _ H'=>∃C,cls=.ref C/\exmOne X.K cls F=some true/\∀x,H' x=none ->
 th x { nx:=λσ H=>D.nx (σ.set i none) H,rt:=D.rt,bk:=λσ H=>D.bk (σ.set i none) H,ct:=λσ H=>D.ct (σ.set i none) H } ((List.replicate X.N.length none).set i (some (.ref x))) (upd H' x (.ext (ExcAt x C)))
def tTry (X:Cx) (F:Value) (i:Nat) (tb:XK->TS) (th:Addr->TS):TS:=λD σ H=>tb (eTry X F i th D) D σ H
theorem q91 {body:List Stmt}{b₀:Stmt}{suite:List Stmt}{cn n:Str}{np kE pos:Pos}{FA:Addr}{i:Nat}{tb:XK->TS}{th:Addr->TS}(vW:X.ex=[]) (jT:X.stack=X.env::X.outer) (jN:X.env.frame=some X.env.locals)
  (hN:X.N.Nodup) (hi:X.N[i]?=some n) (hl:X.env.scope.names.lookup n=some .local) (hg:Gl X cn) (hm:X.mg cn=some (.ref FA)) (hb:∀j8 E,PSs (q18 X j8 E) body (tb E)) (hh:∀x,PSs (hCx X x) (b₀::suite) (th x))
  (hd:(cn==("__debug__" : Str))=false:=by decide):PS X (.Try body [.ExceptHandler (some (.Name cn np)) (some n) (b₀::suite) kE] [] [] pos) (tTry X (.ref FA) i tb th):=by
 intro j8 s σ H D I h;have hcls:(X.env.scope.kind==.class||(X.env.scope.kind==.module&&X.env.locals != X.env.globals))=false:=by rw[I.ok.kind];rfl
 refine wpAny_Try_except ?_;refine Yq (hb j8 _ [] s σ H D (I.toTry _) h) (λf s1 hs=>?_) (λe s1 hx=>?_)
 ·cases f with
  |next=>
   obtain⟨σ',H',I',q⟩:=hs;exact WJ ⟨σ',H',I'.ofTry,q⟩
  |brk=>
   obtain⟨σ',H',I',q⟩:=hs;exact⟨σ',H',I'.ofTry,q⟩
  |cont=>
   obtain⟨σ',H',I',q⟩:=hs;exact⟨σ',H',I'.ofTry,q⟩
  |ret u=>
   obtain⟨v,σ',H',I',r,q⟩:=hs;exact⟨v,σ',H',I'.ofTry,r,q⟩
 ·obtain⟨x,cls,B,H',σ',rfl,I',FW,c0,c2,cp,hxn,C,rfl,hex1,hth⟩:=hx;have FW':=FW;rw[jT] at FW';have fr':X.A.frames=some (X.env::X.outer):=by rw[<- jT];exact I.ok.frames
  refine qK7 fr' jN FW' λh4 held sm4=>?_;refine qo8 held λh5 fl5 sm5=>?_;have I5:Inv X j8 σ' H' { s1 with heap:=h5 }:=I'.refly (tk:=s1.toks) vW FW.stays fl5.stays (sm4.trans sm5) c0 c2 cp;obtain⟨ob,wvs,_,_,_,ho,hoc,hod,_,hov,_⟩:=id fl5.noted;refine wpAny_handleBy_cons (codeAny_handlers_test ?_) (by intro q;cases q);refine qu2 (X:=hCx X x) (I5.toH x) hg hm ?_ hd;have LT:Looks (model X.prog X.w) h5 (typeOf (.ref x)) (.ref C):=ExcAt.type ⟨ob,wvs,ho,hoc,hod,hov⟩;refine (exm_one (M:=model X.prog X.w) I5.kIn LT hex1).here ?_;refine codeAny_handlers_suite_as ?_;refine qo8 fl5 λh6 fl6 sm6=>?_;have I6:Inv X j8 σ' H' { s1 with heap:=h6 }:=I5.refly (tk:=s1.toks) vW fl5.stays fl6.stays sm6 c0 c2 cp;have I6':Inv X j8 σ' (upd H' x (.ext (ExcAt x C))) { s1 with heap:=h6 }:=I6.caught jT jN hxn (by rw[jT];exact fl6) c0 cp;have I6w:Inv X j8 (List.replicate X.N.length none) (upd H' x (.ext (ExcAt x C))) { s1 with heap:=h6 }:=I6'.weak (by rw[XA,I6'.len]) (λj v e=>by
   rw[Xo] at e;split at e<;>cases e)
  refine qw9 (X:=hCx X x) (v:=.ref x) (I6w.toH x) hN hi (.inl hl) rfl (λs7 I7=>?_) (.inr hl);refine Yq (hh x j8 s7 _ _ _ I7 (hth x hxn)) (λf s8 hs8=>?_) λ_ _ z=>z.elim;have fin:∀{σ8:St}{H8:Hp},Inv (hCx X x) j8 σ8 H8 s8->∀{P:Unit->Shared->Prop}{E':Value->Shared->Prop},(∀s9,Inv X j8 (σ8.set i none) H8 s9->P () s9) ->
    wpAny (model X.prog X.w) X.A (do bindName X.env n .none;unbindBehindTheSuite X.env n kE) P E' s8:=λ{σ8 H8} I8 {P E'} k=>by
   obtain⟨m,hn,_⟩:=id I8.loc;refine wpAny_nameGoes_keeps hl hn hcls λh9 v hn9 sb9=>k _ ?_;exact (I8.ofH I.ok.hd).unbound hN hi hn hn9 sb9
  cases f with
  |next=>
   obtain⟨σ8,H8,I8,q⟩:=hs8;exact fin I8 λs9 I9=>⟨_,H8,I9,q⟩
  |brk=>
   obtain⟨σ8,H8,I8,q⟩:=hs8;exact fin I8 λs9 I9=>⟨_,H8,I9,q⟩
  |cont=>
   obtain⟨σ8,H8,I8,q⟩:=hs8;exact fin I8 λs9 I9=>⟨_,H8,I9,q⟩
  |ret u=>
   obtain⟨v,σ8,H8,I8,r,q⟩:=hs8;exact fin I8 λs9 I9=>⟨v,_,H8,I9,r,q⟩
end
theorem qF7:entryFor table "proto.unchain" = some Builtin.«proto.unchain»:=entryFor_of_tree (by kernel_rfl)
section
variable {prog:Program}{w:World}{A:Around}{E:Value->Shared->Prop}{s:Shared}{x C e:Addr}
theorem q92 {α:Type}{Q:α->Shared->Prop}{oe:Obj}{vs:Array Value}(hh:A.handled=some (.ref x)) (hx:ExcAt x C s.heap) (ne:x≠e) (he:s.heap.get? e=some oe) (hd:oe.data=.fields vs) (hs:2<vs.size)
  (hQ:E (.ref e) { s with heap:=s.heap.update e (Obj.mapFields (·.setIfInBounds 2 (.ref x))) }):wpAny (model prog w) A (raiseNew (.ref e):Sem α) Q E s:=by
 obtain⟨ox,xs,x1,x2,x3,x4⟩:=hx;unfold raiseNew;refine Za (wpAny_handled ?_);rw[hh];dsimp only;rw[Zr (by simp[ne])];refine Za (YR (wpAny_runValue (codeAny_builtin qF7 ?_)));unfold Builtin.«proto.unchain»;refine Za (Z7 x1 x3 x4 ?_);rw[Zr (by rfl)]
 first
  |refine Za (Zm (Zm ?_))
  |refine Zm ?_
 dsimp only;show wpAny _ _ (setField (.ref e) 2 (.ref x) >>= λ_=>throw (.ref e)) _ _ _;exact Za (Xp he hd hs (wpAny_throw hQ))
theorem xj1 {α:Type}{Q:α->Shared->Prop}(hh:A.handled=some (.ref x)) (hx:ExcAt x C s.heap)
  (hQ:∀h' e,(∀b o,s.heap.get? b=some o->h'.get? b=some o)->(∃o,h'.get? e=some o/\o.cls=.type "StopIteration")->E (.ref e) { s with heap:=h' }):wpAny (model prog w) A (newExc (.type "StopIteration") [] >>= λe=>(raiseNew e:Sem α)) Q E s:=by
 refine Za ?_;simp only[newExc,newTuple];refine Za (Yg ?_ (by size_fits));refine Za (m:=firstArgMember _ _) (wpAny_of_eq (a:=Value.none) (by first|rfl|(simp only[firstArgMember];rfl)) ?_);refine Yg ?_ (by size_fits);obtain⟨ox,xs,x1,x2,x3,x4⟩:=id hx;have k1:∀(o1 o2:Obj) b o,s.heap.get? b=some o->((s.heap.push o1).push o2).get? b=some o:=λo1 o2 b o q=>Zc _ (Zc _ q);have nx:x≠(s.heap.push { cls:=.type "tuple",dict:=none,data:=.seq ([]:List Value).toArray }).objs.size:=by
  rw[Yi];exact Zz (YX (Zl x1))
 refine q92 (C:=C) hh ⟨ox,xs,k1 _ _ _ _ x1,x2,x3,x4⟩ nx (Zn _ rfl) rfl (by simp[W8];lia) (hQ _ _ (λb o q=>?_) ⟨_,YL _ (Zn _ rfl) (XC (YQ rfl _)),W6 _ _⟩);refine (ZF _ _ (λz=>?_)).trans (k1 _ _ b o q);have z1:=Zl q;rw[<- z,Yi] at z1;exact YF _ (Ww (XW _) z1)
theorem qF8 {it l:Addr}{i:Nat}{items:Array Value}{Q:Option Value->Shared->Prop}(hh:A.handled=some (.ref x)) (hx:ExcAt x C s.heap) (jS:it≠x) (hit:s.heap.IsListIter it l i) (hl:s.heap.IsList l items) (hi:items[i]?=none)
  (hQ:∀h',(∀b o,b≠it->s.heap.get? b=some o->h'.get? b=some o)->Q none { s with heap:=h' }):wpAny (model prog w) A (pyNext (.ref it)) Q E s:=by
 obtain⟨o,ho,hc,hd⟩:=id hit;obtain⟨ol,hol,_,nl,hdl⟩:=hl;obtain⟨ox,xs,x1,x2,x3,x4⟩:=id hx;unfold pyNext;refine Za (Wb (Yc (name:=Str.ofString "__next__") hit.typeIs slot_listiter_next ?_));refine YC slot_listiter_next hit.typeIs entry_listiter_next ?_ (args_listiter_next _);show wpAny _ _ (field (.ref it) 0 >>= _) _ _ s;refine Za (Z7 ho hd (x:=.ref l) rfl ?_);show wpAny _ _ (if (Value.ref l==Value.none)=true then _ else _) _ _ s;rw[Zo (show ¬((Value.ref l==Value.none)=true) from λz=>Bool.noConfusion z)];show wpAny _ _ (field (.ref it) 1 >>= _) _ _ s;refine Za (Z7 ho hd (x:=.int i 0) rfl ?_);show wpAny _ _ (seqItems? (.ref l) >>= _) _ _ s;refine Za (wpAny_seqItems hol hdl ?_);simp only[Wv,hi];refine Za (Y1 (Za (Xp ho hd (by simp) ?_)));show wpAny _ _ (newExc (.type "StopIteration") [] >>= λe=>raiseNew e) _ _ _;refine xj1 (A:=A.in1) (x:=x) (C:=C) hh ⟨ox,xs,(ZF _ _ jS).trans x1,x2,x3,x4⟩ λh' e k1 k2=>?_;refine Za (wpAny_isInstance (T:= "StopIteration") (b:=true) k2 isSubtype_stop ?_);exact Zm (hQ _ λb ob nb q=>k1 b ob ((ZF _ _ (Yn nb)).trans q))
end
end L2
namespace L2
open PySem PySem.Spec PyProof.Rows
def q93 (CX:CXT) (P:Program) (w:World) (K:PySem.W.Frag) (mg:Str->Option Value) (base:Heap) (N:List Str) (qual:Str) (scope:Scope) (f:Addr) (cd:Value) (A:Around) (outer:List Env) (s:Shared) (H:Hp) (E:XK):Cx:=
 { cxOf CX P w K mg base N qual scope f cd A outer s H E with calm:=false,xe:=λ_ _=>False }
theorem q19 {CX:CXT}{P:Program}{w:World}{K:PySem.W.Frag}{mg:Str->Option Value}{base:Heap}{N ps:List Str}{qual:Str}{scope:Scope}{f:Addr}{cd:Value}{A:Around}{outer:List Env}{s s1:Shared}{H:Hp}{E:XK}{us:List Value}{vs:List V}
  (S:FnScope N ps scope) (e0:Env0 P w K mg base A outer s H) (hl:vs.length=ps.length) (r:Vals vs us)
  (x:InCallC s s.heap.objs.size (bindL (envOfC qual scope s.heap.objs.size f cd).kindOf (ps.zip us) λ_=>none) (cellsFrom (s.heap.objs.size+1) scope.names []) (bindC (envOfC qual scope s.heap.objs.size f cd).kindOf (ps.zip us) λ_=>none) s1) :
  Inv (q93 CX P w K mg base N qual scope f cd A outer s H E) [] (qp6 N vs) H s1:=by
 have jQ:ps.length<=N.length:=by have:=Yr List.length S.pre;rw[ZW] at this;lia
 obtain⟨h1,tk,rfl,hk⟩:=x.done;have noA:∀b:Addr,b∉(q93 CX P w K mg base N qual scope f cd A outer s H E).ex:=λb z=>absurd (show b∈([]:List Addr) from z) (by simp);refine⟨⟨e0.mod,S.kind,rfl,rfl,Ze _,λy z c h1 h2=>?_,λy hy=>?_,λy c _ h=>?_,λz=>Bool.noConfusion z,Around.frames_deeper e0.frames,.inr ⟨rfl,rfl⟩,λb z=>absurd z (noA b),e0.bs,e0.bsz,λb _ _=>noA b,λb z=>absurd z (noA b),e0.funs,e0.frf⟩,
  rfl,e0.bare,Un.kept hk,⟨_,x.toInCall.ns,λi y v h1 h2 h3=>?_⟩,λy c h=>⟨_,x.cell y c h⟩,e0.hok.fresh (Ze _),λy c h=>?_,λp hp=>absurd (show p∈([]:List (Addr×Obj)) from hp) (by simp),e0.hok.kept hk,?_⟩
 ·exact name_of_addr x.apart (Z9 h1) (Z9 h2)
 ·have hy:scope.names.lookup y=some .cell\/scope.names.lookup y=some .free:=hy;rcases hy with hy|hy
  ·exact qx1 hy
  ·exact absurd rfl (S.nofree _ (Z9 hy))
 ·exact ZX (x.above y c (Z9 h))
 ·have hi:i<vs.length:=by
   unfold qp6 at h2;by_cases hi:i<vs.length
   ·exact hi
   ·rw[Zh (by simpa using hi)] at h2;rw[Xo] at h2;split at h2<;>cases h2
  have ha:vs[i]?=some v:=by
   unfold qp6 at h2;rw[Zg (by simpa using hi),Zd] at h2;cases e:vs[i]? with
   |none=>rw[e] at h2;cases h2
   |some a=>rw[e] at h2;cases h2;rfl
  obtain⟨u,hu,rv⟩:=r.get ha;have hp:ps[i]?=some y:=by
   rw[<- S.pre,Yj (by lia)];exact h1
  have ndP:ps.Nodup:=by rw[<- S.pre];exact S.nd.sublist (List.take_sublist _ _)
  refine⟨u,rv,?_⟩;rcases S.par y (Zx hp) with k|k
  ·exact .inl ⟨k,qz1 ndP hp hu k⟩
  ·obtain⟨c,e⟩:=qx1 (n:=s.heap.objs.size+1) k;refine .inr ⟨.inl k,c,e,?_⟩;have q:=x.cell y c e;rw[qz2 ndP hp hu (by show scope.names.lookup y≠_;rw[k];decide)] at q;exact q
 ·exact e0.hok.fresh (ZX (x.above y c (Z9 h)))
 ·unfold qp6;show _=N.length;rw[Zj,Zb,XA];lia
structure RoomH (k:Nat) (x:Addr) (A:Around):Prop where
 hd:A.handled=some (.ref x)
 dp:A.depth+3*k+5<recursionLimit
 un:A.units+16*k+200<cLine
theorem Room.toH {k:Nat}{A:Around}(r:Room k A) (x:Addr):RoomH k x (A.mark (some (.ref x))):=⟨rfl,r.dp,r.un⟩
theorem RoomH.deeper {k:Nat}{x:Addr}{A:Around}(r:RoomH (k+1) x A) (env:Env):RoomH k x (A.deeper env):=
 ⟨r.hd,by have:=r.dp;show A.depth+1+3*k+5<_;lia,by have:=r.un;show A.units+3+16*k+200<_;lia⟩
theorem RoomH.depth {k:Nat}{x:Addr}{A:Around}(r:RoomH k x A):A.depth<recursionLimit:=by have:=r.dp;lia
abbrev SpH:=List V->Hp->VK->Prop
structure FnOkH (P:Program) (w:World) (K:PySem.W.Frag) (mg:Str->Option Value) (base:Heap) (k:Nat) (x:Addr) (f:Addr) (fd:FuncData) (ps:List Str) (sp:SpH):Prop where
 len:∀vs H Q,sp vs H Q->vs.length=ps.length
 run:∀(A:Around) (outer:List Env) (s:Shared) (H:Hp) (args:Args) (us:List Value) (vs:List V) (Q:VK),RoomH k x A->Env0 P w K mg base A outer s H->BindsTo s fd args (ps.zip us)->Vals vs us->sp vs H Q ->
  codeAny (model P w) A (.call (.ref f) args) (CR CX0 outer P w H s Q E0) s
theorem Fun.okH {P:Program}{w:World}{K:PySem.W.Frag}{mg:Str->Option Value}{base:Heap}{x qual:Str}{st:Stmt}{f xe:Addr}{fd:FuncData}{N ps:List Str}{k:Nat}{sp:SpH}(F:Fun K x qual st f fd) (S:FnScope N ps (qa4 st)) (len:∀vs H Q,sp vs H Q->vs.length=ps.length)
  (jZ:∀(cdv:Value) (A:Around) (outer:List Env) (s:Shared) (H:Hp) (vs:List V) (Q:VK),RoomH k xe (A.deeper (envOfC qual (qa4 st) s.heap.objs.size f cdv))->sp vs H Q ->
   ∃t,PSs (q93 CX0 P w K mg base N qual (qa4 st) f cdv A outer s H E0) (qh2 st) t/\t { nx:=λ_ H'=>Q .non H',rt:=Q } (qp6 N vs) H):FnOkH P w K mg base (k+1) xe f fd ps sp:=by
 obtain⟨oc,od,kV,doc,pm,an,cdv,ct,osl,rfl,lk,kP⟩:=F.ex;refine⟨len,λA outer s H args us vs Q hr e0 hb r kN=>?_⟩;have hl:=len _ _ _ kN;have KX:K.In s.heap:=e0.mod.kin.keeps λb o e=>(e0.bs b o e).1;have lim:s.heap.NoLimit:=e0.mod.nolimit.keeps λb o e=>(e0.bs b o e).1;have jD:∀y∈ps.zip us,(qa4 st).names.lookup y.1=some .local\/((qa4 st).names.lookup y.1=some .cell/\((cellsFrom (s.heap.objs.size+1) (qa4 st).names []).lookup y.1).isSome=true):=λ⟨n,v⟩ hy=>by
  rcases S.par n (WK hy).1 with q|q
  ·exact .inl q
  ·exact .inr ⟨q,Wt _ _ _ (.inl q)⟩
 refine codeAny_call_function hr.depth (KX _ _ lk) rfl S.co S.gen rfl (PySem.W.codeRec_of KX kP) (hb _ _ _ _ ?_);refine wpAny_newFunctionEnv_cells S.kind jD λenv he s1 x=>?_;subst he;refine⟨lim.keeps x.toInCall.keep,codeAny_func ?_⟩;obtain⟨t,ht,hq⟩:=jZ cdv A outer s H vs Q (hr.deeper _) kN;have I:Inv (q93 CX0 P w K mg base N qual (qa4 st) f cdv A outer s H E0) [] (qp6 N vs) H s1:=q19 S e0 hl r x;refine Yq (ht [] s1 (qp6 N vs) H _ I hq) (λfl s' hs=>?_) λe s' hs=>hs.elim;have fin:∀{σ':St}{H':Hp}{v:V}{u:Value},Inv (q93 CX0 P w K mg base N qual (qa4 st) f cdv A outer s H E0) [] σ' H' s'->RelV v u->Q v H'->CE outer P w H s Q u s':=
  λ{σ' H' v u} J rv q=>⟨v,H',J.os,J.bare,J.base,J.hok,rv,q⟩
 cases fl with
 |ret u=>
  obtain⟨v,σ',H',J,rv,q⟩:=hs;exact fin J rv q
 |next=>
  obtain⟨σ',H',J,q⟩:=hs;exact fin (v:=V.non) (u:=Value.none) J rfl q
 |brk=>
  obtain⟨_,_,_,q⟩:=hs;exact False.elim q
 |cont=>
  obtain⟨_,_,_,q⟩:=hs;exact False.elim q
section
variable {X:Cx}{k:Nat}{f xe:Addr}{fd:FuncData}{ps:List Str}{sp:SpH}{x:Str}{p pos:Pos}{e:Expr}{es:List Expr}{t:TA}
def xD9 (sp:SpH) (t:TA):TE:=λσ H Q=>t σ H λvs H1=>sp vs H1 Q
theorem qF9 (F:FnOkH X.prog X.w X.K X.mg X.base k xe f fd ps sp) (hr:RoomH k xe X.A) (hg:Gl X x) (hm:X.mg x=some (.ref f)) (hk:PySem.W.keepIn X.K (.ref f)=true) (hb:Binds X.K fd ps [])
  (ha:PA X (e::es) t) (vB:(x==("__debug__" : Str))=false:=by decide) (he:starEach (e::es) X.env=(false,eval e X.env)::starEach es X.env:=by rfl) (jQ:(backTo pos (starEach es X.env)).any (·.1)=false:=by rfl) :
  PE X (.Call (.Name x p) (e::es) [] pos) (xD9 sp t):=by
 intro j8 s σ H Q I h;refine Xr (qu2 I hg hm ?_ vB);refine WZ (h₀:=X.base) I.ok.mod.kin hk (thn (ha pos j8 s σ H _ I h) λus s1 ⟨vs,H1,I1,r,q⟩=>⟨I1.kIn,?_⟩) he jQ;have hl:us.length=ps.length:=by rw[<- r.length];exact F.len _ _ _ q
 have bt:=hb s1 us I1.kIn (by rw[YK];exact hl);rw[YK] at bt;refine wpAny_call (Ws (F.run X.A X.stack s1 H1 ⟨us,[]⟩ us vs Q hr I1.env0 bt r q) λrr s' hq=>?_);cases rr with
 |error e=>exact False.elim hq
 |ok fl=>
  cases fl with
  |ret u=>exact I1.after hq
  |next=>exact False.elim hq
  |brk=>exact False.elim hq
  |cont=>exact False.elim hq
end
end L2
namespace L2
open PySem PySem.Spec PyProof.Rows PySem.W
section
variable {X:Cx}
def clsV:V->Option Value
 |.ty n=>some (.type n)
 |.ref a=>some (.ref a)
 |_=>none
theorem xw2 {c:V}{u cv:Value}(r:RelV c u) (e:clsV c=some cv):u=cv:=by
 cases c with
 |ty n=>cases e;exact r
 |ref a=>cases e;exact r
 |_=>cases e
def ExcT (K:Frag) (H:Hp) (x:V) (t:Value):Prop:=∃a C,x=.ref a/\H a=some (.ext (ExcAt a C))/\ExcCls K C/\t=.ref C
theorem qd7:qi3 X (.builtin "isinstance") (λxs H Q=>∃x c t cv b,xs=[x,c]/\clsV c=some cv/\(TyOf X.K H x t\/ExcT X.K H x t)/\kitOne X.K t cv=some b/\Q (.bl b) H):=by
 intro j8 s σ H xs us Q I r h;obtain⟨x,c,t,cv,b,rfl,hc,ht,hk,q⟩:=h;obtain⟨u,u',rfl,rx,rc⟩:=q61 r;cases xw2 rc hc;rcases ht with ty|⟨a,C,rfl,e,T,rfl⟩
 ·exact q65 I rx ty hk λtk=>⟨.bl b,H,I.tok _,rfl,q⟩
 ·cases (show u=Value.ref a from rx);have p:ExcAt a C s.heap:=(I.hok a _ e).1;exact kia_one (qV0 T) I.kIn p hk (λz=>nomatch z) λtk=>⟨.bl b,H,I.tok _,rfl,q⟩
theorem Walks.listC {prog:Program}{w:World}{A:Around}{x C:Addr}(hh:A.handled=some (.ref x)) (I ax:Addr) (n1:ax≠I) (n2:I≠x) (items:Array Value) :
  Walks prog w A I [I,ax,x] [I] items.size (λi v=>items[i]?=some v) (λi h=>h.IsListIter I ax i/\h.IsList ax items/\ExcAt x C h) where
 sub:=λb hb=>by simp at hb;simp[hb]
 frame:=λi h h' st hk=>⟨st.1.at λo e=>hk I (by simp) o e,st.2.1.at λo e=>hk ax (by simp) o e,by
  obtain⟨ox,vs,x1,x2⟩:=st.2.2;exact⟨ox,vs,hk x (by simp) ox x1,x2⟩⟩
 item:=λi s Q E hi st hQ=>by
  refine wpAny_pyNext_list_item st.1 st.2.1 (x:=items[i]) (by simp[hi]) λh' it' sb=>?_;refine hQ _ h' s.toks (by simp[hi]) ⟨it',st.2.1.at λo e=>(sb.2 ax n1).trans e,?_⟩ λb o hb e=>(sb.2 b (λz=>hb (by simp[z]))).trans e;obtain⟨ox,vs,x1,x2⟩:=st.2.2;exact⟨ox,vs,(sb.2 x (Yn n2)).trans x1,x2⟩
 done:=λs Q E st hQ=>qF8 hh st.2.2 n2 st.1 st.2.1 (by simp) λh' k=>hQ h' s.toks λb o hb e=>k b o (λz=>hb (by simp[z])) e
 self:=λi s Q E st hQ=>wpAny_pyIter_listiter st.1 hQ
def q94 (bs:List Bool):Int:=(bs.map λb=>if b=true then (1:Int) else 0).sum
theorem qL1 (bs:List Bool):∀n,n<=bs.length->preSum (λi=>if bs.getD i false=true then 1 else 0) n=q94 (bs.take n):=by
 intro n
 induction n with
 |zero=>intro _;simp[preSum,q94]
 |succ n ih=>
  intro h;have hn:n<bs.length:=h;rw[preSum,ih (ZX hn),Yo hn];unfold q94;rw[Z0,List.sum_append];simp[List.getD,hn]
theorem qL2 {j8:List (Addr×Obj)}{σ:St}{H:Hp}{s s':Shared}{o₁:Obj}{wr:List Addr}(I:Inv X j8 σ H s) (mv:Moved wr (λa b=>b=a) { s with heap:=s.heap.push o₁ } s') (hn:∀b o,s.heap.get? b=some o->b∈wr->False):Inv X j8 σ H s':=by
 obtain⟨h',g',d',t',os'⟩:=s';obtain⟨m1,m2,m3,m4,m5⟩:=mv;cases (show g'=s.gens from m2);cases (show d'=s.drawn from m3);cases (show os'=s.os from m4);exact I.kept (h':=h') (t':=t') λb o e=>m1 b o (λz=>hn b o e z) (Zc _ e)
theorem q95:qi3 X (.builtin "sum") (λxs H Q=>∃(p:Addr) (bs:List Bool) (x C:Addr),xs=[.ref p]/\H p=some (.lst (bs.map V.bl))/\X.A.handled=some (.ref x)/\H x=some (.ext (ExcAt x C))/\Q (.int (q94 bs)) H):=by
 intro j8 s σ H xs us Q I r h;obtain⟨p,bs,x,C,rfl,hp,hh,hx,q⟩:=h;obtain⟨u,rfl,rx⟩:=qn5 r;cases rx;obtain⟨z,its,n,rv,hl⟩:=I.hok p _ hp;have hx':ExcAt x C s.heap:=(I.hok x _ hx).1;have isl:s.heap.IsList p its.toArray:=⟨_,hl,rfl,_,rfl⟩;have j9:its.length=bs.length:=by have:=rv.length;simpa using this.symm
 refine call_sum_walkAnyB (XE isl ?_);have nx:s.heap.objs.size≠x:=Vf (by obtain⟨ox,_,x1,_⟩:=hx';exact Zl x1);have np:p≠s.heap.objs.size:=Zz (Zl hl);refine⟨s.heap.objs.size,_,_,_,_,_,_,λi=>if bs.getD i false=true then 1 else 0,rfl,(Walks.listC (A:=X.A.in1) (C:=C) hh s.heap.objs.size p np nx its.toArray).toS,
  ⟨⟨_,Zn _ rfl,rfl,rfl⟩,isl.at λo e=>Zc _ e,?_⟩,?_,?_,?_⟩
 ·obtain⟨ox,vs,x1,x2⟩:=hx';exact⟨ox,vs,Zc _ x1,x2⟩
 ·intro b hb;have l1:s.heap.objs.size<(s.heap.push { cls:=.type "list_iterator",data:=.fields #[.ref p,.int 0 0] }).objs.size:=by rw[Yi];exact XW _
  rcases Zy.mp hb with rfl|hb
  ·exact l1
  rcases Zy.mp hb with rfl|hb
  ·exact Ww (Zl hl) l1
  ·have:b=x:=by simpa using hb
   subst this;obtain⟨ox,_,x1,_⟩:=hx';exact Ww (Zl x1) l1
 ·intro i v hv;have hv':its[i]?=some v:=by simpa using hv
  have hi:i<bs.length:=by rw[<- j9];exact (gS_ hv').1
  obtain⟨w',e1,e2⟩:=rv.get (x:=V.bl (bs[i])) (i:=i) (by simp[hi]);rw[hv'] at e1;cases e1;refine .inr ⟨bs[i],e2,?_⟩;simp[List.getD,hi]
 ·intro s' t' mv;have es:its.toArray.size=bs.length:=by simpa using j9
  refine⟨.int (q94 bs),H,qL2 I mv λb o e hb=>?_,⟨t',?_⟩,q⟩
  ·have:b=s.heap.objs.size:=by simpa using hb
   exact YF _ (by rw[this] at e;exact Zl e)
  ·rw[es,qL1 bs _ (Ze _),YE]
theorem ql7 (hc:X.calm=true):qi3 X (.builtin "all") (λxs H Q=>∃(p:Addr) (bs:List Bool),xs=[.ref p]/\H p=some (.lst (bs.map V.bl))/\Q (.bl (bs.all id)) H):=by
 intro j8 s σ H xs us Q I r h;obtain⟨p,bs,rfl,hp,q⟩:=h;obtain⟨u,rfl,rx⟩:=qn5 r;cases rx;obtain⟨z,its,n,rv,hl⟩:=I.hok p _ hp;have isl:s.heap.IsList p its.toArray:=⟨_,hl,rfl,_,rfl⟩;have j9:its.length=bs.length:=by have:=rv.length;simpa using this.symm
 have np:p≠s.heap.objs.size:=Zz (Zl hl);refine call_all_walk (XE isl ?_);refine⟨s.heap.objs.size,_,_,_,_,_,λi=>bs.getD i true,rfl,Walks.list (A:=X.A.in1) (I.ok.hd hc) s.heap.objs.size p np its.toArray,⟨⟨_,Zn _ rfl,rfl,rfl⟩,isl.at λo e=>Zc _ e⟩,?_,?_⟩
 ·intro i v s' Q' E' hv hq;have hv':its[i]?=some v:=by simpa using hv
  have hi:i<bs.length:=by rw[<- j9];exact (gS_ hv').1
  obtain⟨w',e1,e2⟩:=rv.get (x:=V.bl (bs[i])) (i:=i) (by simp[hi]);rw[hv'] at e1;cases e1;cases (show v=Value.bool bs[i] from e2);have eg:bs.getD i true=bs[i]:=by simp[List.getD,hi]
  dsimp only at hq;rw[eg] at hq;exact Yy hq
 ·intro h' tk k;refine⟨.bl (bs.all id),H,I.kept (h':=h') (t':=tk) (λb o e=>k b o (λz=>?_) (Zc _ e)),?_,q⟩
  ·have:b=s.heap.objs.size:=by simpa using z
   exact YF _ (by rw[this] at e;exact Zl e)
  ·have es:its.toArray.size=bs.length:=by simpa using j9
   rw[es];show Value.bool _=Value.bool _;congr 1;rw[YJ,Z6,Z6];constructor
   ·intro z b hb;obtain⟨i,hi,e⟩:=ZV.mp hb;have:=z i (Z4.mpr hi);simpa [List.getD,hi,e] using this
   ·intro z i hi;have hi':=Z4.mp hi;have:=z bs[i] (Yu hi');simpa [List.getD,hi'] using this
def best (ns:List Int):Nat->Int
 |0=>ns.getD 0 0
 |k+1=>if ns.getD (k+1) 0>best ns k then ns.getD (k+1) 0 else best ns k
theorem qV2 (ns:List Int):∀k,ns.getD (argBest (λi j=>decide (ns.getD i 0>ns.getD j 0)) k) 0=best ns k/\argBest (λi j=>decide (ns.getD i 0>ns.getD j 0)) k<=k
 |0=>⟨rfl,Ze _⟩
 |k+1=>by
  obtain⟨h1,h2⟩:=qV2 ns k;unfold argBest best;rw[<- h1];by_cases hc:ns.getD (k+1) 0>ns.getD (argBest (λi j=>decide (ns.getD i 0>ns.getD j 0)) k) 0
  ·rw[Zr (Zi hc),Zr hc];exact⟨rfl,Ze _⟩
  ·rw[Zo (by simpa using hc),Zo hc];exact⟨rfl,Nat.le_succ_of_le h2⟩
theorem qL3 (hc:X.calm=true):qi3 X (.builtin "max") (λxs H Q=>∃(p:Addr) (ns:List Int),xs=[.ref p]/\H p=some (.lst (ns.map V.int))/\ns≠[]/\Q (.int (best ns (ns.length-1))) H):=by
 intro j8 s σ H xs us Q I r h;obtain⟨p,ns,rfl,hp,jS,q⟩:=h;obtain⟨u,rfl,rx⟩:=qn5 r;cases rx;obtain⟨z,its,n,rv,hl⟩:=I.hok p _ hp;have isl:s.heap.IsList p its.toArray:=⟨_,hl,rfl,_,rfl⟩;have j9:its.length=ns.length:=by have:=rv.length;simpa using this.symm
 have np:p≠s.heap.objs.size:=Zz (Zl hl);have es:its.toArray.size=ns.length:=by simpa using j9
 have pos:0<ns.length:=Y3.mpr jS;have item:∀(i:Nat) (v:Value),its.toArray[i]?=some v->∃t,v=.int (ns.getD i 0) t:=λi v hv=>by
  have hv':its[i]?=some v:=by simpa using hv
  have hi:i<ns.length:=by rw[<- j9];exact (gS_ hv').1
  obtain⟨w',e1,t,e2⟩:=rv.get (x:=V.int (ns[i])) (i:=i) (by simp[hi]);rw[hv'] at e1;cases e1;exact⟨t,by rw[e2];simp[List.getD,hi]⟩
 refine call_max_walkS (XE isl ?_);refine⟨s.heap.objs.size,_,_,_,_,_,_,λi j=>decide (ns.getD i 0>ns.getD j 0),rfl,(Walks.list (A:=X.A.in1) (I.ok.hd hc) s.heap.objs.size p np its.toArray).toS,⟨⟨_,Zn _ rfl,rfl,rfl⟩,isl.at λo e=>Zc _ e⟩,?_,by rw[es];exact pos,?_,?_⟩
 ·intro b hb;rw[Yi];rcases Zy.mp hb with rfl|hb
  ·exact XW _
  ·have:b=p:=by simpa using hb
   subst this;exact YX (Zl hl)
 ·intro i j vi vj s' Q' E' hi hj hq;obtain⟨t,rfl⟩:=item i vi hi;obtain⟨t',rfl⟩:=item j vj hj;exact gt_int hq
 ·intro v s' hv mv;rw[es] at hv;obtain⟨t,rfl⟩:=item _ v hv;rw[(qV2 ns (ns.length-1)).1];refine⟨.int _,H,qL2 I mv (λb o e hb=>?_),⟨t,rfl⟩,q⟩;have:b=s.heap.objs.size:=by simpa using hb
  exact YF _ (by rw[this] at e;exact Zl e)
theorem xK3 {P:Program}{w:World}{k:Key}{v:Value}(h:(qd6 P w).is k v=true):RelV (kV k) v:=by
 rcases qe2 (show qP7 k v=true from h) with ⟨i,t,rfl,rfl⟩|⟨x,t,rfl,rfl⟩
 ·exact⟨t,rfl⟩
 ·exact⟨t,rfl⟩
theorem qG0:∀{xs:List V}{us:List Value},xs.length=us.length->(∀(i:Nat) x v,xs[i]?=some x->us[i]?=some v->RelV x v)->Vals xs us
 |[],[],_,_=>.nil
 |[],_::_,h,_=>by simp at h
 |_::_,[],h,_=>by simp at h
 |x::xs,u::us,h,f=>.cons (f 0 x u rfl rfl) (qG0 (by simpa using h) λi y v hy hv=>f (i+1) y v (by simpa using hy) (by simpa using hv))
theorem q20 (hc:X.calm=true):qi3 X (.type "list") (λxs H Q=>∃(d:Addr) (kvs:List (Key×V)),xs=[.ref d]/\H d=some (.dK kvs)/\∀l,H l=none->Q (.ref l) (upd H l (.lst (kvs.map λkv=>kV kv.1)))):=by
 intro j8 s σ H xs us Q I r h;obtain⟨d,kvs,rfl,hd,q⟩:=h;obtain⟨u,rfl,ru⟩:=qn5 r;cases ru;obtain⟨z,lo,vs,rel,dd⟩:=xv3 I.hok hd;obtain⟨ep,hat⟩:=dd.dictAt;have hl:=rel.length;refine kdl_call (kdl_dict (knd:=qd6 X.prog X.w) (kvs:=vs) (ep:=ep) lo) (I.ok.hd hc) hat (by rw[<- hl];exact z) λh' tk acc c kp ho kI=>?_;refine⟨.ref s.heap.objs.size,_,I.laid (a:=s.heap.objs.size) (o:=.lst (kvs.map λkv=>kV kv.1)) (t':=tk) kp (Ze _) ⟨by simpa using z,acc.toList,c,?_,by simpa using ho⟩,rfl,q _ I.fresh⟩;refine qG0 (by simp[hl,kI.1]) λi x v hx hv=>?_;rw[Zd] at hx;obtain⟨kv,hkv,rfl⟩:=Zw.mp hx;obtain⟨k,y,hk,his⟩:=kI.2 i v (by simpa using hv);have e1:vs[i]?=some (k,y):=hk;have e2:kv.1=k:=by
  have z1:(kvs.map (·.1))[i]?=some kv.1:=by rw[Zd,hkv];rfl
  have z2:(vs.map (·.1))[i]?=some k:=by rw[Zd,e1];rfl
  rw[rel.keys] at z1;rw[z1] at z2;exact ZD z2
 rw[e2];exact xK3 his
theorem qL4:qi3 X (.type "range") (λxs H Q=>∃n:Int,xs=[.int n]/\∀r,H r=none->Q (.ref r) (upd H r (.rng 0 n))):=by
 intro j8 s σ H xs us Q I r h;obtain⟨n,rfl,q⟩:=h;obtain⟨u,rfl,t,rfl⟩:=qn5 r;exact call_range_1 ⟨.ref s.heap.objs.size,_,I.laid (a:=s.heap.objs.size) (o:=.rng 0 n) (λb o e=>Zc _ e) (Ze _) ⟨_,_,_,Zn _ rfl⟩,rfl,q _ I.fresh⟩
theorem q21 (hc:X.calm=true):qi3 X (.type "list") (λxs H Q=>∃(r:Addr) (n:Nat),xs=[.ref r]/\H r=some (.rng 0 (n:Int))/\n<=1000000/\∀l,H l=none->Q (.ref l) (upd H l (.lst ((List.range n).map λ(i:Nat)=>V.int (i:Int))))):=by
 intro j8 s σ H xs us Q I rv h;obtain⟨r,n,rfl,hr,hn,q⟩:=h;obtain⟨u,rfl,ru⟩:=qn5 rv;cases ru;obtain⟨t,u,v,ho⟩:=I.hok r _ hr;refine call_list_range (a:=0) (b:=n) (c:=1) (n:=n) (I.ok.hd hc) ho (small_one (by lia) (by lia) (by lia) (by lia)) (by rw[rangeSize_one];split<;>lia) (by lia) λh' tk acc c kp ho' kI=>?_;refine⟨.ref s.heap.objs.size,_,I.laid (a:=s.heap.objs.size) (o:=.lst ((List.range n).map λ(i:Nat)=>V.int (i:Int))) (t':=tk) kp (Ze _) ⟨?_,acc.toList,c,?_,by simpa using ho'⟩,rfl,q _ I.fresh⟩
 ·rw[Zb,Xf,XJ];lia
 ·refine qG0 (by simp[kI.1]) λi x v hx hv=>?_;rw[Zd] at hx;obtain⟨j,hj,rfl⟩:=Zw.mp hx;have e:j=i:=by
   obtain⟨_,e⟩:=gS_ hj;simpa using e.symm
  subst e;obtain⟨t',rfl⟩:=kI.2 j v (by simpa using hv);exact⟨t',by simp⟩
end
namespace TupMul
theorem noFill:fillsNumberSlot (.type "tuple") "mul" = pure false:=
 PySem.fillsNumberSlot_seq (id:= "tuple.__mul__") (r:=some (.builtin "tuple.__rmul__")) F.slot_tuple_mul.lookup (by decide +kernel) F.slot_tuple_rmul.lookup (by decide +kernel)
theorem rep:seqRepeat? (.type "tuple")=pure (some (.builtin "tuple.__mul__")):=by
 unfold seqRepeat?
 rw[PySem.seqSlot_of (T:= "tuple") (name:= "__mul__") (id:= "tuple.__mul__") F.slot_tuple_mul.lookup (by decide +kernel),PySem.seqSlot_of (T:= "tuple") (name:= "__rmul__") (id:= "tuple.__rmul__") F.slot_tuple_rmul.lookup (by decide +kernel)]
 rfl
theorem declines (a:Int) (t:Tok) (l:Addr) (items:Array Value) (n:Nat) (dct:Option Addr) (sl:Array (Option Value)) :
  Meets (Builtin.«int.__rmul__» ⟨[.int a t,.ref l],[]⟩) (λ_ R s=>s.heap.get? l=some { cls:=.type "tuple",dict:=dct,data:=.seq items n,slots:=sl }/\R (.ok (.ret Value.notImplemented)) s):=
 .of_wp λprog w A R s h=>by
  obtain⟨hp,g,d,tk,os⟩:=s;obtain⟨hl,h⟩:=h
  wp_walk
  exact⟨_,rfl,h⟩
theorem mul (k:Int) (t:Tok) (l:Addr) (items:Array Value) (n:Nat) (dct:Option Addr) (sl:Array (Option Value)) (h1:1<k) (h2:k<=1000) (hs:items.size=1) :
  Meets (Builtin.«tuple.__mul__» ⟨[.ref l,.int k t],[]⟩) (λ_ R s=>s.heap.get? l=some { cls:=.type "tuple",dict:=dct,data:=.seq items n,slots:=sl } /\
   R (.ok (.ret (.ref s.heap.objs.size))) { s with heap:=s.heap.push { cls:=.type "tuple",data:=.seq ((List.replicate k.toNat items).foldl (·++·) #[]) } }):=
 .of_wp λprog w A R s h=>by
  obtain⟨hp,g,d,tk,os⟩:=s;obtain⟨hl,h⟩:=h;have c1:(decide (k < -2^63)||decide (k>=2^63))=false:=by simp;lia
  have c0:items.isEmpty=false:=by
   cases he:items.isEmpty with
   |false=>rfl
   |true=>rw[Array.isEmpty_iff.mp he] at hs;cases hs
  have c2:(items.isEmpty||k==1)=false:=by rw[c0];simp;lia
  have c3:(decide (k<=0)||items.isEmpty)=false:=by rw[c0];simp;lia
  have c4:¬((items.size:Int)*k>(2^63-1)/8):=by rw[hs];lia
  have c5:Builtin.Tuple.tupleTooMany ((items.size:Int)*k)=false:=by
   rw[hs];show decide (((1:Nat):Int)*k>(sizeLine:Int))=false;rw[XJ];exact Zk (by lia)
  wp_walk
  refine Xy (λz=>by rw[c1] at z;cases z) λ_=>?_
  wp_walk
  refine Xy (λz=>by rw[c2] at z;cases z) λ_=>?_;refine Xy (λz=>by rw[c3] at z;cases z) λ_=>?_;refine Xy (λz=>absurd z c4) λ_=>?_;refine Xy (λz=>by rw[c5] at z;cases z) λ_=>?_
  wp_walk
  refine Xy (λz=>absurd z ?_) λ_=>?_
  ·have f:∀(m:Nat) (acc:Array Value),(List.foldl (λx1 x2=>x1++x2) acc (List.replicate m items)).size=acc.size+m:=λm=>by
    induction m with
    |zero=>intro acc;rfl
    |succ m ih=>
     intro acc;rw[Xm,Xd,ih,W8,hs];lia
   rw[f,XJ];simp;lia
  wp_walk
  exact⟨_,rfl,h⟩
end TupMul
section
variable {X:Cx}
theorem q96:OpR X (binaryOp .Mult) (λx y H Q=>∃(l:Addr) (k:Int) (v:V),x=.ref l/\y=.int k/\H l=some (.tup [v])/\1<k/\k<=1000/\∀p,H p=none->Q (.ref p) (upd H p (.tup (List.replicate k.toNat v)))):=by
 intro j8 s σ H x y v u Q I rx ry h;obtain⟨l,k,v1,rfl,rfl,hH,h1,h2,q⟩:=h;cases rx;obtain⟨t,rfl⟩:=ry;obtain⟨_,its,r,o,ho,hc,⟨n,hdn⟩,hd⟩:=I.hok l _ hH;obtain⟨oc,od,odt,osl⟩:=o
 replace hc:oc=.type "tuple":=hc
 replace hd:odt=.seq its.toArray n:=hd
 subst hc hd;cases r with
 |cons r1 rr=>
  cases rr;rename_i u1;have hnew:List.foldl (λx1 x2=>x1++x2) #[] (List.replicate k.toNat #[u1])=(List.replicate k.toNat u1).toArray:=by
   have f:∀(m:Nat) (acc:List Value),List.foldl (λx1 x2=>x1++x2) acc.toArray (List.replicate m #[u1])=(acc++List.replicate m u1).toArray:=λm=>by
    induction m with
    |zero=>intro acc;simp
    |succ m ih=>
     intro acc;rw[Xm,Xd,show acc.toArray++#[u1]=(acc++[u1]).toArray by simp,ih];simp[Xm]
   have:=f k.toNat [];simpa using this
  refine wpAny_binaryOp_repeat_ref (T:= "tuple") (U:= "int") (by decide) ⟨_,ho,rfl⟩ (λs'=>typeIs_int s' k t) TupMul.noFill F.fills_int_mul F.slot_int_rmul TupMul.rep F.slot_int_index.lookup
   (W0 F.slot_int_rmul (typeIs_int s k t) F.entry_int_rmul (F.args_int_rmul_2 _ _) (TupMul.declines k t l _ n od osl)
    ⟨ho,rfl,⟨_,ho,rfl⟩,W0 F.slot_tuple_mul ⟨_,ho,rfl⟩ F.entry_tuple_mul (F.args_tuple_mul_2 _ _) (TupMul.mul k t l _ n od osl h1 h2 rfl) ⟨ho,?_⟩⟩)
  rw[hnew];refine⟨.ref _,_,I.laid (a:=s.heap.objs.size) (o:=.tup (List.replicate k.toNat v1)) (t':=s.toks) (λb o e=>Zc _ e) (Ze _) ⟨?_,List.replicate k.toNat u1,?_,_,Zn _ rfl,rfl,⟨_,rfl⟩,rfl⟩,rfl,q _ I.fresh⟩
  ·rw[XA,XJ];lia
  ·generalize k.toNat=m
   induction m with
   |zero=>exact .nil
   |succ m ih=>exact .cons r1 ih
end
end L2
namespace Qf
abbrev Row:=List Nat
def mx:List Nat->Nat
 |[]=>0
 |a::l=>max a (mx l)
theorem q22 {x:Nat}:∀{l:List Nat},x∈l->x<=mx l
 |a::l,h=>by
  rcases Zy.mp h with rfl|h
  ·exact Nat.le_max_left _ _
  ·exact ZK (q22 h) (Nat.le_max_right _ _)
theorem xE0 {b:Nat}:∀{l:List Nat},(∀x∈l,x<=b)->mx l<=b
 |[],_=>ZN _
 |a::l,h=>Nat.max_le.mpr ⟨h a ZC,xE0 λx hx=>h x (Zs _ hx)⟩
theorem qV3 {f g:Nat->Nat}{l:List Nat}(h:∀x∈l,f x=g x):mx (l.map f)=mx (l.map g):=by
 rw[Ym h]
def qL5 (p:Nat) (r:Row):Prop:=r.length=4/\∀x∈r,x<p+2
def qc0 (rows:List Row):Prop:=∀p r,rows[p]?=some r->qL5 p r
def xw3 (ds:List Nat) (r:Row):List Nat:=ds++[1+mx (r.map (ds.getD · 0))]
def deps (rows:List Row):List Nat:=rows.foldl xw3 [0,0]
def dp (rows:List Row) (x:Nat):Nat:=(deps rows).getD x 0
theorem qr8 (rows:List Row) (r:Row):deps (rows++[r])=deps rows++[1+mx (r.map (dp rows))]:=by
 unfold deps dp deps;rw[List.foldl_append]
 rfl
theorem qV4 {P:List Row->Prop}(h0:P []) (h1:∀l a,P l->P (l++[a])) (l:List Row):P l:=by
 have:∀m:List Row,P m.reverse:=λm=>by
  induction m with
  |nil=>exact h0
  |cons a m ih=>rw[List.reverse_cons];exact h1 _ _ ih
 have h:=this l.reverse
 rwa [List.reverse_reverse] at h
theorem qj3 (rows:List Row):(deps rows).length=rows.length+2:=by
 induction rows using qV4 with
 |h0=>rfl
 |h1 l a ih=>rw[qr8,Zj,ih,Zj];simp
theorem q23 {rows:List Row}{r:Row}{x:Nat}(h:x<rows.length+2):dp (rows++[r]) x=dp rows x:=by
 unfold dp;rw[qr8,ZG,ZG,Zg (by rw[qj3];exact h)]
theorem qD6 {rows:List Row}{r:Row}:dp (rows++[r]) (rows.length+2)=1+mx (r.map (dp rows)):=by
 unfold dp;rw[qr8,ZG,Zh (by rw[qj3];exact Ze _),qj3];simp only[WA,List.getElem?_cons_zero,Option.getD_some]
 rfl
theorem qo2 {rows more:List Row}{x:Nat}(h:x<rows.length+2):dp (rows++more) x=dp rows x:=by
 induction more using qV4 with
 |h0=>simp
 |h1 l a ih=>
  rw[<- Z3,q23 (by simp;lia),ih]
theorem qL6 {rows:List Row}{x:Nat}(h:x<2):dp rows x=0:=by
 have:=qo2 (rows:=[]) (more:=rows) (x:=x) (by simpa using h);rw[List.nil_append] at this;rw[this]
 match x,h with
 |0,_=>rfl
 |1,_=>rfl
theorem q97 {rows:List Row}{p:Nat}{r:Row}(hp:rows[p]?=some r):rows=rows.take p++[r]++rows.drop (p+1):=by
 have jC:=(gS_ hp).1;have he:=(gS_ hp).2;rw[<- he,YT jC,Yz]
theorem qC5 {rows:List Row}(ok:qc0 rows){p:Nat}{r:Row}(hp:rows[p]?=some r):dp rows (p+2)=1+mx (r.map (dp rows)):=by
 have jC:=(gS_ hp).1;have hl:(rows.take p).length=p:=by simp;lia
 have e:=q97 hp;have h1:dp rows (p+2)=dp (rows.take p++[r]) (p+2):=by
  have:=qo2 (rows:=rows.take p++[r]) (more:=rows.drop (p+1)) (x:=p+2) (by simp;lia);rw[<- e] at this;exact this
 have h2:=qD6 (rows:=rows.take p) (r:=r);rw[hl] at h2;rw[h1,h2];congr 1;refine qV3 λx hx=>?_;have hx2:=(ok p r hp).2 x hx;have:=qo2 (rows:=rows.take p) (more:=[r]++rows.drop (p+1)) (x:=x) (by rw[hl];exact hx2);rw[<- Z3,<- e] at this;exact this.symm
def dfs (rows:List Row):Nat->List Nat->Nat->List Nat
 |0,e,_=>e
 |d+1,e,x=>if x<2\/x-2∈e then e else (rows.getD (x-2) []).foldl (dfs rows d) e++[x-2]
theorem qr9 {f:List Nat->Nat->List Nat}(h:∀e x,∃s,f e x=e++s):∀(l:List Nat) (e:List Nat),∃s,l.foldl f e=e++s
 |[],e=>⟨[],by simp⟩
 |a::l,e=>by
  obtain⟨s,hs⟩:=h e a;obtain⟨s',hs'⟩:=qr9 h l (f e a);exact⟨s++s',by rw[Xd,hs',hs,Z3]⟩
theorem qG1 (rows:List Row):∀(d:Nat) (e:List Nat) (x:Nat),∃s,dfs rows d e x=e++s
 |0,e,x=>⟨[],by simp[dfs]⟩
 |d+1,e,x=>by
  unfold dfs;split
  ·exact⟨[],by simp⟩
  ·obtain⟨s,hs⟩:=qr9 (qG1 rows d) (rows.getD (x-2) []) e;exact⟨s++[x-2],by rw[hs,Z3]⟩
structure Post (rows:List Row) (e:List Nat):Prop where
 nd:e.Nodup
 lt:∀p∈e,p<rows.length
 ch:∀(i p:Nat),e[i]?=some p->∀q∈rows.getD p [],q<2\/∃j:Nat,j<i/\e[j]?=some (q-2)
theorem qo9 (rows:List Row):Post rows []:=⟨Vm,λp hp=>(nomatch hp),λi p h=>by simp at h⟩
theorem q98 {e s:List Nat}{j a:Nat}(h:e[j]?=some a):(e++s)[j]?=some a:=by
 have:=(gS_ h).1;rw[Zg this];exact h
theorem qi0 {rows:List Row}(ok:qc0 rows):∀(d:Nat) (e:List Nat) (x:Nat),Post rows e->x<rows.length+2->dp rows x<=d->Post rows (dfs rows d e x)/\(x<2\/x-2∈dfs rows d e x)
 |0,e,x,pe,hx,hd=>by
  refine⟨pe,?_⟩;by_cases h:x<2
  ·exact .inl h
  ·exfalso;obtain⟨p,rfl⟩:∃p,x=p+2:=⟨x-2,by lia⟩;have hp:rows[p]?=some (rows[p]'(by lia)):=by simp[show p<rows.length by lia]
   rw[qC5 ok hp] at hd;lia
 |d+1,e,x,pe,hx,hd=>by
  unfold dfs;split
  ·rename_i h;exact⟨pe,h⟩
  ·rename_i h;obtain⟨h1,h2⟩:=not_or.mp h;obtain⟨p,rfl⟩:∃p,x=p+2:=⟨x-2,by lia⟩;rw[W1] at h2 ⊢;have jC:p<rows.length:=by lia
   have hp:rows[p]?=some rows[p]:=by simp[jC]
   have eg:rows.getD p []=rows[p]:=by simp[List.getD,jC]
   rw[eg];have hdp:=qC5 ok hp;have rk:=ok p _ hp;have key:∀(l:List Nat) (e0:List Nat),(∀q∈l,q<p+2/\dp rows q<=d)->Post rows e0->Post rows (l.foldl (dfs rows d) e0)/\(∀q∈l,q<2\/q-2∈l.foldl (dfs rows d) e0)/\(∀a∈l.foldl (dfs rows d) e0,a∈e0\/a<p):=λl=>by
    induction l with
    |nil=>exact λe0 _ pe0=>⟨pe0,λq hq=>(nomatch hq),λa ha=>.inl ha⟩
    |cons q l ih=>
     intro e0 hl pe0;obtain⟨hq1,hq2⟩:=hl q ZC;obtain⟨p1,m1⟩:=qi0 ok d e0 q pe0 (by lia) hq2;obtain⟨p2,m2,n2⟩:=ih (dfs rows d e0 q) (λq' hq'=>hl q' (Zs _ hq')) p1;obtain⟨s,hs⟩:=qr9 (qG1 rows d) l (dfs rows d e0 q);refine⟨p2,λq' hq'=>?_,λa ha=>?_⟩
     ·rcases Zy.mp hq' with rfl|hq'
      ·rcases m1 with z|z
       ·exact .inl z
       ·rw[Xd,hs];exact .inr (Xe _ z)
      ·exact m2 q' hq'
     ·rcases n2 a ha with z|z
      ·
       have below:∀(d0:Nat) (e1:List Nat) (y:Nat),y<rows.length+2->∀a∈dfs rows d0 e1 y,a∈e1\/a+2<=y:=λd0=>by
        induction d0 with
        |zero=>exact λe1 y _ a ha=>.inl ha
        |succ d0 ihd=>
         intro e1 y hy a ha;unfold dfs at ha;split at ha
         ·exact .inl ha
         ·rename_i hh;obtain⟨hh1,hh2⟩:=not_or.mp hh;rcases Z2.mp ha with ha|ha
          ·have hy2:y-2<rows.length:=by lia
           have eg2:rows.getD (y-2) []=rows[y-2]:=by simp[List.getD,hy2]
           rw[eg2] at ha;have rk2:=ok (y-2) rows[y-2] (by simp[hy2]);have kk:∀(l2:List Nat) (e2:List Nat),(∀q∈l2,q<y-2+2)->∀a∈l2.foldl (dfs rows d0) e2,a∈e2\/a+2<=y:=λl2=>by
            induction l2 with
            |nil=>exact λe2 _ a ha=>.inl ha
            |cons q2 l2 ih2=>
             intro e2 k8 a ha;rcases ih2 _ (λq' hq'=>k8 q' (Zs _ hq')) a ha with z|z
             ·have hq2:=k8 q2 ZC;rcases ihd e2 q2 (by lia) a z with z|z
              ·exact .inl z
              ·exact .inr (by lia)
             ·exact .inr z
           exact kk _ _ rk2.2 a ha
          ·have:a=y-2:=by simpa using ha
           exact .inr (by lia)
       rcases below d e0 q (by lia) a z with z|z
       ·exact .inl z
       ·exact .inr (by lia)
      ·exact .inr z
   obtain⟨k1,k2,k3⟩:=key rows[p] e (λq hq=>⟨rk.2 q hq,by
    have:dp rows q<=mx (rows[p].map (dp rows)):=q22 (ZO.mpr ⟨q,hq,rfl⟩);lia⟩) pe
   refine⟨⟨?_,?_,?_⟩,.inr (ZR _ (by simp))⟩
   ·rw[XG];refine⟨k1.nd,by simp,λa ha b hb=>?_⟩;have:b=p:=by simpa using hb
    subst this;intro z;subst z;rcases k3 a ha with z|z
    ·exact h2 z
    ·exact YF _ z
   ·intro a ha;rcases Z2.mp ha with ha|ha
    ·exact k1.lt a ha
    ·have:a=p:=by simpa using ha
     lia
   ·intro i a hi q hq;by_cases j9:i<(rows[p].foldl (dfs rows d) e).length
    ·rw[Zg j9] at hi;rcases k1.ch i a hi q hq with z|⟨j,hj,ej⟩
     ·exact .inl z
     ·exact .inr ⟨j,hj,q98 ej⟩
    ·rw[Zh (by lia)] at hi;have hi0:i-(rows[p].foldl (dfs rows d) e).length=0:=by
      have:=(gS_ hi).1;simp at this;lia
     rw[hi0] at hi;have:a=p:=by simpa using hi.symm
     subst this;rw[eg] at hq;rcases k2 q hq with z|z
     ·exact .inl z
     ·obtain⟨j,hj,ej⟩:=ZV.mp z;exact .inr ⟨j,by lia,q98 (by simp[hj,ej])⟩
theorem nd_iff {α:Type}{l:List α}:l.Nodup<->∀i j:Nat,i<j->j<l.length->l[i]?≠l[j]?:=by
 unfold List.Nodup;rw[Xb];constructor
 ·intro h i j kD hj z;rw[Zf (by lia),Zf hj] at z;exact h i j (by lia) hj kD (ZD z)
 ·intro h i j hi hj kD z;refine h i j kD hj ?_;rw[Zf hi,Zf hj,z]
def nm (E:List Nat) (q:Nat):Nat:=if q<2 then q else E.idxOf (q-2)+2
theorem qk5 {E:List Nat}{q:Nat}(h:q<2):nm E q=q:=Zr h
theorem qh9 {E:List Nat}{q:Nat}(h:¬q<2):nm E q=E.idxOf (q-2)+2:=Zo h
def InE (E:List Nat) (q:Nat):Prop:=q<2\/q-2∈E
theorem xr3 {E:List Nat}(nd:E.Nodup){i a:Nat}(h:E[i]?=some a):E.idxOf a=i:=by
 obtain⟨hl,he⟩:=gS_ h;rw[<- he];exact nd.idxOf_getElem _ _
theorem qD7 {E:List Nat}{a:Nat}(h:a∈E):E[E.idxOf a]?=some a:=by
 have hl:=XH h;rw[Zf hl];congr 1;exact List.getElem_idxOf hl
theorem xE1 {E:List Nat}{q r:Nat}(hq:InE E q) (hr:InE E r) (h:nm E q=nm E r):q=r:=by
 by_cases h1:q<2
 ·rw[qk5 h1] at h;by_cases h2:r<2
  ·rwa [qk5 h2] at h
  ·rw[qh9 h2] at h;lia
 ·rw[qh9 h1] at h;by_cases h2:r<2
  ·rw[qk5 h2] at h;lia
  ·rw[qh9 h2] at h;have a:=qD7 (hq.resolve_left h1);have b:=qD7 (hr.resolve_left h2);have e:E.idxOf (q-2)=E.idxOf (r-2):=by lia
   rw[e,b] at a;have:=ZD a;lia
def told (rows:List Row) (E:List Nat):List Row:=E.map λp=>(rows.getD p []).map (nm E)
theorem qh5 (rows:List Row) (E:List Nat):(told rows E).length=E.length:=by simp[told]
theorem qq2 {rows:List Row}{E:List Nat}{i p:Nat}(h:E[i]?=some p):(told rows E)[i]?=some ((rows.getD p []).map (nm E)):=by
 unfold told;rw[Zd,h];rfl
theorem qL7 {rows:List Row}{E:List Nat}(pe:Post rows E){i p:Nat}(h:E[i]?=some p){q:Nat}(hq:q∈rows.getD p []):InE E q/\nm E q<i+2:=by
 rcases pe.ch i p h q hq with z|⟨j,hj,ej⟩
 ·exact⟨.inl z,by rw[qk5 z];lia⟩
 ·have hm:q-2∈E:=Zx ej;refine⟨.inr hm,?_⟩;by_cases z:q<2
  ·rw[qk5 z];lia
  ·rw[qh9 z,xr3 pe.nd ej];lia
theorem qg5 {rows:List Row}{p:Nat}(h:p<rows.length):rows[p]?=some (rows.getD p []):=by
 simp[List.getD,h]
theorem qQ9 {rows:List Row}(ok:qc0 rows){E:List Nat}(pe:Post rows E):qc0 (told rows E):=by
 intro i r hi;have hl:i<E.length:=by
  have:=(gS_ hi).1
  rwa [qh5] at this
 have he:E[i]?=some E[i]:=Zf hl;rw[qq2 he] at hi;have hr:=ZD hi;subst hr;have hp:=pe.lt _ (Yu hl);refine⟨?_,λx hx=>?_⟩
 ·rw[Zb];exact (ok _ _ (qg5 hp)).1
 ·obtain⟨q,hq,rfl⟩:=ZO.mp hx;exact (qL7 pe he hq).2
theorem q24 {rows:List Row}{E:List Nat}(pe:Post rows E) (nd:rows.Nodup):(told rows E).Nodup:=by
 rw[nd_iff];intro i j kD hj;rw[qh5] at hj;have hi:i<E.length:=by lia
 have ei:E[i]?=some E[i]:=Zf hi;have ej:E[j]?=some E[j]:=Zf hj;rw[qq2 ei,qq2 ej];intro z;have z:=ZD z;have key:∀l m:List Nat,(∀q∈l,InE E q)->(∀q∈m,InE E q)->l.map (nm E)=m.map (nm E)->l=m:=λl=>by
  induction l with
  |nil=>intro m _ _ h;cases m with
   |nil=>rfl
   |cons b m=>simp at h
  |cons a l ih=>intro m h1 h2 h;cases m with
   |nil=>simp at h
   |cons b m=>
    rw[ZH,ZH] at h;injection h with h3 h4
    rw[xE1 (h1 a ZC) (h2 b ZC) h3,ih m (λq hq=>h1 q (Zs _ hq)) (λq hq=>h2 q (Zs _ hq)) h4]
 have e:=key _ _ (λq hq=>(qL7 pe ei hq).1) (λq hq=>(qL7 pe ej hq).1) z;have pi:=pe.lt _ (Yu hi);have pj:=pe.lt _ (Yu hj);have gi:=qg5 pi;have gj:=qg5 pj;rw[e,<- gj] at gi;have:E[i]=E[j]:=by
  by_cases jS:E[i]=E[j]
  ·exact jS
  ·exfalso;rcases Nat.lt_or_gt_of_ne jS with w|w
   ·exact (nd_iff.mp nd) _ _ w pj gi
   ·exact (nd_iff.mp nd) _ _ w pi gi.symm
 have:=(nd_iff.mp pe.nd) i j kD hj;rw[ei,ej] at this;exact this (by rw[‹E[i]=E[j]›])
def qh0 (r:Row):Prop:=r=[0,0,0,0]\/r=[1,1,1,1]
instance (r:Row):Decidable (qh0 r):=by unfold qh0;infer_instance
theorem qR0 {f:Nat->Nat}{c:Nat}(h:∀q,f q=c->q=c):∀{l:List Nat}{k:Nat},l.map f=List.replicate k c->l=List.replicate k c
 |[],0,_=>rfl
 |[],k+1,z=>by simp[List.replicate] at z
 |a::l,0,z=>by simp at z
 |a::l,k+1,z=>by
  rw[ZH,Xm] at z;injection z with z1 z2
  rw[h a z1,qR0 h z2,Xm]
theorem qV5 {E:List Nat}{c:Nat}(hc:c<2) (q:Nat) (h:nm E q=c):q=c:=by
 by_cases z:q<2
 ·rwa [qk5 z] at h
 ·rw[qh9 z] at h;lia
theorem qL8 {rows:List Row}{E:List Nat}(pe:Post rows E) (np:∀r∈rows,¬qh0 r):∀r∈told rows E,¬qh0 r:=by
 intro r hr;obtain⟨p,hp,rfl⟩:=ZO.mp hr;have hm:rows.getD p []∈rows:=Zx (qg5 (pe.lt p hp));intro z;rcases z with z|z
 ·exact np _ hm (.inl (qR0 (k:=4) (qV5 (by decide)) z))
 ·exact np _ hm (.inr (qR0 (k:=4) (qV5 (by decide)) z))
theorem xw4 {rows:List Row}(ok:qc0 rows){E:List Nat}(pe:Post rows E):∀q,InE E q->dp (told rows E) (nm E q)=dp rows q:=by
 intro q
 induction q using Nat.strongRecOn with
 |ind q ih=>
  intro hq;by_cases z:q<2
  ·rw[qk5 z,qL6 z,qL6 z]
  ·have hm:=hq.resolve_left z;have hp:=pe.lt _ hm;have ea:=qD7 hm;rw[qh9 z,qC5 (qQ9 ok pe) (qq2 ea)];have e2:dp rows q=1+mx ((rows.getD (q-2) []).map (dp rows)):=by
    have:=qC5 ok (qg5 hp)
    rwa [show q-2+2=q by lia] at this
   rw[e2,Yp];congr 1;refine qV3 λx hx=>?_;have hx2:=(ok _ _ (qg5 hp)).2 x hx;exact ih x (by lia) (qL7 pe ea hx).1
theorem qV6 {rows:List Row}(ok:qc0 rows){E:List Nat}(pe:Post rows E):∀(d:Nat) (e:List Nat) (y:Nat),dfs rows d e y <+: E->dfs (told rows E) d (List.range e.length) (nm E y)=List.range (dfs rows d e y).length
 |0,e,y,_=>rfl
 |d+1,e,y,pf=>by
  have pe1:e <+: E:=by
   obtain⟨s,hs⟩:=qG1 rows (d+1) e y;rw[hs] at pf;exact WU (W2 _ _) pf
  have memi:∀{a:Nat},a∈E->(a∈e<->E.idxOf a<e.length):=λ{a} ha=>by
   obtain⟨s,hs⟩:=pe1;constructor
   ·intro hm;rw[<- hs,W9,Zr hm];exact XH hm
   ·intro hl;have:=qD7 ha;rw[<- hs,Zg (by rw[hs];exact hl)] at this;exact Zx this
  unfold dfs at pf ⊢;by_cases h:y<2\/y-2∈e
  ·rw[Zr h,Zr];rcases h with h|h
   ·exact .inl (by rw[qk5 h];exact h)
   ·by_cases z:y<2
    ·exact .inl (by rw[qk5 z];exact z)
    ·right;rw[qh9 z,W1,Z4];exact (memi (pe1.subset h)).mp h
  ·rw[Zo h] at pf ⊢;obtain⟨h1,h2⟩:=not_or.mp h;have hE:y-2∈E:=pf.subset (by simp);rw[qh9 h1,W1];have hnot:¬(E.idxOf (y-2)+2<2\/E.idxOf (y-2)∈List.range e.length):=by
    rw[Z4];rintro (z|z)
    ·lia
    ·exact h2 ((memi hE).mpr z)
   rw[Zo hnot];have et:(told rows E).getD (E.idxOf (y-2)) []=(rows.getD (y-2) []).map (nm E):=by
    have:=qq2 (rows:=rows) (qD7 hE);rw[ZG,this];rfl
   rw[et];have key:∀(l:List Nat) (e0:List Nat),l.foldl (dfs rows d) e0 <+: E->(l.map (nm E)).foldl (dfs (told rows E) d) (List.range e0.length)=List.range (l.foldl (dfs rows d) e0).length:=λl=>by
    induction l with
    |nil=>exact λe0 _=>rfl
    |cons q l ih=>
     intro e0 pf0;rw[ZH,Xd,Xd];have:dfs rows d e0 q <+: E:=by
      obtain⟨s,hs⟩:=qr9 (qG1 rows d) l (dfs rows d e0 q);rw[Xd,hs] at pf0;exact WU (W2 _ _) pf0
     rw[qV6 ok pe d e0 q this];exact ih _ pf0
   have pf2:(rows.getD (y-2) []).foldl (dfs rows d) e <+: E:=WU (W2 _ _) pf;rw[key _ e pf2,Zj];have:E.idxOf (y-2)=((rows.getD (y-2) []).foldl (dfs rows d) e).length:=by
    refine xr3 pe.nd ?_;obtain⟨s,hs⟩:=pf;rw[<- hs,Z3,Zh (Ze _),WA]
    rfl
   rw[this];exact Y2.symm
structure Canon (n top:Nat) (rows:List Row):Prop where
 size:n<=12
 rok:qc0 rows
 inn:top<rows.length+2
 deep:dp rows top<=n
 unplain:∀r∈rows,¬qh0 r
 unlike:rows.Nodup
 ends:dfs rows n [] top=List.range rows.length
theorem q25 {n x:Nat}{rows:List Row}(hn:n<=12) (ok:qc0 rows) (hx:x<rows.length+2) (hd:dp rows x<=n) (np:∀r∈rows,¬qh0 r) (nd:rows.Nodup) :
  Canon n (nm (dfs rows n [] x) x) (told rows (dfs rows n [] x)):=by
 obtain⟨pe,hm⟩:=qi0 ok n [] x (qo9 rows) hx hd;refine⟨hn,qQ9 ok pe,?_,?_,qL8 pe np,q24 pe nd,?_⟩
 ·rw[qh5];by_cases z:x<2
  ·rw[qk5 z];lia
  ·rw[qh9 z];have:=XH (hm.resolve_left z);lia
 ·rw[xw4 ok pe x hm];exact hd
 ·rw[qh5];exact qV6 ok pe n [] x (List.prefix_refl _)
end Qf
namespace L2
open PySem PySem.Spec PyProof.Rows
section
variable {X:Cx}
theorem xj2 {i0:Nat}{x0:Str}{px0 spos:Pos}{nn:List Str}{tg:Expr}{ifs:List Expr}{pos:Pos}{elt iter:Expr}{scope:Scope}{wi:TI}{g:TG}{tt:TT}{te:TE}(T:Env->Sem Bool) (hc:X.calm=true) (hi:PI X tg iter wi)
  (hturn:∀it acc env,compTurn (.ListComp elt [⟨tg,iter,ifs,0⟩] scope pos) 0 it acc env=(standAt iter.pos >>= λ_=>pyNext it >>= λr=>match r with
   |none=>pure (.done .next)
   |some v=>letOwnedTupleGo tg it v >>= λ_=>assign tg env v >>= λ_=>T env >>= λok=>(if ok=true then (eval elt env >>= λx=>call (.builtin "list.append") [acc,x] >>= λ_=>pure ()) else pure ()) >>= λ_=>
     again (.compLoop (.ListComp elt [⟨tg,iter,ifs,0⟩] scope pos) 0 it acc env)))
  (hgt:∀cl C fp s₀ H₀,PG (qc9 X scope cl C nn fp s₀ H₀) tg g)
  (hloc2:∀y (os σ:St) H R,os.length=nn.length->g y (os++σ) H R->g y (os++σ) H λσ' H'=>(∃os':St,os'.length=nn.length/\σ'=os'++σ)/\R σ' H')
  (htt:∀cl C fp s₀ H₀ (j8:List (Addr×Obj)) (s:Shared) (σ:St) (H:Hp) (Q:Bool->Hp->Prop),Inv (qc9 X scope cl C nn fp s₀ H₀) j8 σ H s->tt σ H Q->wpAny (model X.prog X.w) X.A (T (compEnvC scope cl C X.env)) (TP (qc9 X scope cl C nn fp s₀ H₀) j8 σ Q) (λ_ _=>False) s)
  (he:∀cl C fp s₀ H₀,PE (qc9 X scope cl C nn fp s₀ H₀) elt te)
  (jD:scope.kind=.function) (jB:∀y∈scope.names,y.2≠.cell) (jF:∀y∈scope.names,y.2=.local->scope.names.lookup y.1=some .local)
  (jL:∀y∈X.N,scope.names.lookup y≠some .local) (jN:∀p∈scope.names,p.2=.free->Vis X.env.scope p.1/\X.env.scope.names.lookup p.1≠some .local)
  (hs:∀x,foldedSetIterable iter X.env x=pure x) (hN0:X.N.Nodup) (hi0:X.N[i0]?=some x0) (kY:X.env.scope.names.lookup x0=some .local) (hsw:swapsWith (.ListComp elt [⟨tg,iter,ifs,0⟩] scope pos) (some (.Name x0 px0)) spos.line X.env=pure true) :
  PS X (.Assign [.Name x0 px0] (.ListComp elt [⟨tg,iter,ifs,0⟩] scope pos) spos) (tAsg (qw1 nn.length wi g tt te) (qh3 i0)):=by
 intro j8 s σ H EE I h;rw[exec_Assign_Name_used _ _ _ _ hsw];refine Za (wpAny_standAt (Za ?_));show wpAny _ X.A (do let _ <- comprehension (.ListComp elt [⟨tg,iter,ifs,0⟩] scope pos) scope X.env _ (newList []) false (eval iter X.env) (some (assign (.Name x0 px0) X.env))) _ _ s;obtain⟨cl,hclos,jU,hcl2⟩:=qo0 (scope:=scope) (env:=X.env) (λp hp hk=>by
  obtain⟨hv,hn⟩:=jN p hp hk;refine I.ok.has p.1 ?_;rcases hv with z|z
  ·exact absurd z hn
  ·exact z)
 refine Za (Yq (wpAny_comprehension_free (use:=some (assign (.Name x0 px0) X.env)) (Q:=λ_ s'=>SP X j8 EE .next s') rfl hs hclos jD jF (thn (hi j8 s σ H _ I h) λv s1 h1=>thn h1 λitv s2 h2=>?_)) (λ_ s' hq=>Zm (Zm hq)) λ_ _ e=>e);obtain⟨it,fp,tn,J,H2,rfl,I2,T',st2,f2,q⟩:=h2;have hD:H2 s2.heap.objs.size=none:=I2.hok.fresh (Ze _);obtain⟨W,⟨m0,w0⟩,turn⟩:=q _ hD;refine Yg (wpAny_newFunctionEnv jB (by intro y hy;simp at hy) (λh₁ hns₁ hsb₁=>?_) jD);dsimp only at hns₁ hsb₁ ⊢;have I3:Inv X j8 σ (upd H2 s2.heap.objs.size (.lst [])) { s2 with heap:=s2.heap.push { cls:=.type "list",dict:=none,data:=.seq ([]:List Value).toArray } }:=
  I2.laid (t':=s2.toks) (λb u e=>Zc _ e) (Ze _) ⟨ZN _,[],0,.nil,Zn _ rfl⟩
 have fpn:∀b∈fp,b≠s2.heap.objs.size:=λb hb=>by
  obtain⟨o,e,_⟩:=T'.obj 0 s2.heap st2 b hb;exact Zz (Zl e)
 have fplt:∀b∈fp,b<(s2.heap.push { cls:=.type "list",dict:=none,data:=.seq ([]:List Value).toArray }).objs.size:=λb hb=>by
  obtain⟨o,e,_⟩:=T'.obj 0 s2.heap st2 b hb;rw[Yi];exact YX (Zl e)
 have f3:∀b∈fp,FpOk X j8 (upd H2 s2.heap.objs.size (.lst [])) b:=λb hb=>⟨by rw[qa6 (fpn b hb)];exact (f2 b hb).1,(f2 b hb).2⟩;generalize kA:s2.heap.push { cls:=.type "list",dict:=none,data:=.seq ([]:List Value).toArray }=g2 at hns₁ hsb₁ I3 fplt ⊢;have keep:∀b o,g2.get? b=some o->h₁.get? b=some o:=λb o e=>(hsb₁.2 b (Zz (Zl e))).trans (Zc _ e);have J0:=qz7 (nn:=nn) (tk:=s2.toks+([]:List (Str×Value)).length) I3 (C:=g2.objs.size) rfl keep hns₁ f3 fplt jD jB jL jU hcl2 jN;generalize hY:qc9 X scope cl g2.objs.size nn fp { s2 with heap:=g2 } (upd H2 s2.heap.objs.size (.lst []))=Y at J0;have eY:PE Y elt te:=by rw[<- hY];exact he _ _ _ _ _
 have eG:PG Y tg g:=by rw[<- hY];exact hgt _ _ _ _ _
 have eT:∀(j8:List (Addr×Obj)) (s:Shared) (σ:St) (H:Hp) (Q:Bool->Hp->Prop),Inv Y j8 σ H s->tt σ H Q->wpAny (model Y.prog Y.w) Y.A (T Y.env) (TP Y j8 σ Q) Y.xe s:=by rw[<- hY];exact htt _ _ _ _ _
 have eP:Y.prog=X.prog:=by rw[<- hY];rfl
 have eW:Y.w=X.w:=by rw[<- hY];rfl
 have eK:Y.K=X.K:=by rw[<- hY];rfl
 have eA:Y.A=X.A:=by rw[<- hY];rfl
 have eC:Y.calm=true:=by rw[<- hY];exact hc
 have eE:Y.env=compEnvC scope cl g2.objs.size X.env:=by rw[<- hY];rfl
 have eX:Y.xe=λ_ _=>False:=by rw[<- hY];rfl
 have eN:Y.N=nn++X.N:=by rw[<- hY];rfl
 have eEx:Y.ex=fp:=by rw[<- hY];rfl
 have eFs:Y.fs=frs X.stack:=by rw[<- hY];rfl
 have ePn:Y.pn=[]:=by rw[<- hY];rfl
 have fpY:∀{H':Hp},(∀b∈fp,H' b=none)->∀b∈fp,FpOk Y [] H' b:=λhn b hb=>by
  have g:=f3 b hb;refine⟨hn b hb,?_,?_,.inl (by rw[eEx];exact hb),?_,λp hp=>absurd hp (by rw[ePn];simp)⟩
  ·rw[eE];exact Zz (fplt b hb)
  ·rw[eFs];intro z;rcases Zy.mp (I3.stkSub b z) with z|z
   ·exact g.2.1 z
   ·exact g.2.2.1 z
  ·rw[eE];exact λy c e=>g.2.2.2.2.1 y c (jU y c e)
 have loop:∀s₃:Shared,s₃={ s2 with heap:=h₁,toks:=s2.toks+([]:List (Str×Value)).length } ->
   codeAny (model X.prog X.w) X.A (.compLoop (.ListComp elt [⟨tg,iter,ifs,0⟩] scope pos) 0 (.ref it) (.ref s2.heap.objs.size) (compEnvC scope cl g2.objs.size X.env))
    (compPost (model X.prog X.w) X.A X.xe (some (assign (.Name x0 px0) X.env)) (λ_ s'=>SP X j8 EE .next s') (.ref s2.heap.objs.size) g2.objs.size) s₃:=by
  rintro s₃ rfl;refine qK8 (T (compEnvC scope cl g2.objs.size X.env)) (hturn _ _ _) (λn s'=>∃i xs H' os,os.length=nn.length/\Inv Y [] (os++σ) H' s'/\tn i s'.heap/\(∀b∈fp,H' b=none)/\W i n xs H') ?_ m0
   ⟨0,[],_,nn.map λ_=>none,by simp,J0,T'.keep 0 _ _ st2 (λb hb o e=>keep b o (by rw[<- kA];exact Zc _ e)),λb hb=>(f3 b hb).1,w0⟩
  rintro n s3 ⟨i,xs,H3,os,kW,I4,st3,fr3,w3⟩;obtain⟨hDx,hlx,alt⟩:=turn i n xs H3 w3;rcases alt with ⟨stop,qn⟩|⟨go,step⟩
  ·have D1:=T'.done Y eP eW eK eC i [] s3 _ H3 (λ_ _=>False) I4 (fpY fr3) st3 stop;rw[eA] at D1;refine thn D1 λr s4 ⟨hr,I5⟩=>?_;subst hr;obtain⟨m4,kG,_⟩:=id I5.loc;rw[eE] at kG;have hC0:H3 g2.objs.size=none:=by
    have:=I5.free;rw[eE] at this;exact this
   have fC:FpOk X j8 H3 g2.objs.size:=I3.fpOk (Ze _) hC0;rw[<- hY] at I5;have IX:Inv X j8 σ H3 s4:=qK9 I3 rfl f3 I5 (Heap.SameBut.refl _ _);have kG:s4.heap.Ns g2.objs.size m4:=kG;obtain⟨oC,esC,epC,hoC,rC⟩:=id kG;have IP:=IX.pinned (fp:=[g2.objs.size]) (λb hb=>by
    have:b=g2.objs.size:=by simpa using hb
    subst this;exact fC) (λb hb=>by
    have:b=g2.objs.size:=by simpa using hb
    subst this;exact⟨oC,hoC,λv z=>by rw[rC.1] at z;cases z⟩)
   show wpAny _ X.A (assign (.Name x0 px0) X.env (.ref s2.heap.objs.size)) _ _ s4;refine wpAny_assign_Name (qw9 (v:=.ref s2.heap.objs.size) IP hN0 hi0 (.inl kY) rfl (λs5 I6=>?_) (.inr kY));have pC:=I6.pin (g2.objs.size,oC) (ZR _ (ZR _ (ql4 (by simp) hoC)));refine⟨m4,kG.at' (λo e=>by rw[hoC] at e;cases e;exact pC.1),λh' sb=>⟨_,H3,?_,qn⟩⟩;exact I6.unpinned.turned (t':=s5.toks) (λb o hb e=>(sb.2 b hb).trans e) fC.1 fC.2.1 fC.2.2.2.1 fC.2.2.2.2.1 fC.2.2.2.2.2
  ·have G1:=T'.item Y eP eW eK eC i [] s3 _ H3 (λ_ _=>False) I4 (fpY fr3) st3 go;rw[eA] at G1;refine thn G1 λr s4 ⟨u,hr,h4⟩=>?_;subst hr;refine thn h4 λ_ s5 ⟨y,H5,I5,r5,y5,st5,fr5⟩=>?_;have I5':=I5.pinned (fpY fr5) (T'.obj _ _ st5);have S1:=eG _ s5 _ H5 y u _ I5' r5 (hloc2 y os σ H5 _ kW (step y _ y5 os kW));rw[eP,eW,eA,eE,eX] at S1;refine thn S1 λ_ s6 ⟨σ6,H6,I6,⟨os6,hos6,e6⟩,q6⟩=>?_;subst e6;have S2:=eT _ s6 _ _ _ I6 q6;rw[eP,eW,eA,eE,eX] at S2;refine thn S2 λok s7 ⟨H7,I7,q7⟩=>?_;have back:∀{s9:Shared}{H9:Hp}{m':Nat}{zs:List V},Inv Y ([]++qD1 fp s5.heap) (os6++σ) H9 s9->m'<n->W (i+1) m' zs H9->∃m,m<n/\∃i xs H' os,os.length=nn.length/\Inv Y [] (os++σ) H' s9/\tn i s9.heap/\(∀b∈fp,H' b=none)/\W i m xs H':=λ{s9 H9 m' zs} I9 hm' w9=>by
    have pin:∀b∈fp,∀ob,s5.heap.get? b=some ob->s9.heap.get? b=some ob/\H9 b=none:=λb hb ob e=>by
     have z:=I9.pin (b,ob) (ZR _ (ZR _ (ql4 hb e)));exact⟨z.1,z.2.1⟩
    refine⟨m',hm',i+1,zs,H9,os6,hos6,I9.unpinned,T'.keep _ _ _ st5 (λb hb ob e=>(pin b hb ob e).1),λb hb=>?_,w9⟩;obtain⟨ob,e,_⟩:=T'.obj _ _ st5 b hb;exact (pin b hb ob e).2
   cases ok with
   |true=>
    rw[Zr rfl] at q7;rw[Zr rfl];have S3:=eY _ s7 _ _ _ I7 q7;rw[eP,eW,eA,eE,eX] at S3;refine thn S3 λxv s8 ⟨v8,H8,I8,r8,hD8,m',hm',w8⟩=>?_;have S4:=qe5 (X:=Y) _ s8 _ H8 (.ref s2.heap.objs.size) [v8] (.ref s2.heap.objs.size) [xv] (λ_ H9=>H9=upd H8 s2.heap.objs.size (.lst (xs++[v8]))) I8 rfl (.cons r8 .nil) ⟨_,xs,v8,rfl,rfl,hD8,hlx,rfl⟩;rw[eP,eW,eA,eX] at S4;refine thn S4 λ_ s9 ⟨v9,H9,I9,_,e9⟩=>?_;subst e9;exact back I9 hm' w8
   |false=>
    rw[Zo Zu] at q7;rw[Zo Zu];obtain⟨m',hm',w8⟩:=q7;exact back I7 hm' w8
 exact codeAny_compStart_list (loop _ rfl) (T'.self _ 0 _ _ _ (T'.keep 0 _ _ st2 (λb hb o e=>keep b o (by rw[<- kA];exact Zc _ e))) (loop _ rfl))
end
end L2
namespace L2
open PySem PySem.Spec PyProof.Rows PySem.W
section
variable {X:Cx}
def xr4:TE:=λ_ H Q=>∀p,H p=none->Q (.ref p) (upd H p (.dK []))
theorem qG2 {pos:Pos}:PE X (.Dict [] [] pos) xr4:=λj8 s σ H Q I h=>by
 have hb:sysModules<s.heap.objs.size:=Ww (by decide) (I.mod.glob.keeps I.bk).lt;exact wpAny_Dict_empty ⟨.ref s.heap.objs.size,_,I.laid (a:=s.heap.objs.size) (o:=.dK []) (t':=s.toks) (λ_ _ q=>Zc _ q) (Ze _) ⟨ZN _,Yk.mpr (Yn (Zz hb)),[],.nil,Heap.DictOf.new _⟩,rfl,h _ (I.hok.fresh (Ze _))⟩
theorem q99:MtR X "list.index" (λx xs H Q=>∃(l:Addr) (bs:List Bool) (j:Nat),x=.ref l/\xs=[.bl true]/\H l=some (.lst (bs.map V.bl))/\bs[j]?=some true/\(∀m,m<j->bs[m]?=some false)/\(j:Int)<1000/\Q (.int j) H):=by
 intro j8 s σ H x xs v us Q I rx rv h;obtain⟨l,bs,j,rfl,rfl,hl,hj,wB,hs,q⟩:=h;cases rx;obtain⟨u,rfl,ru⟩:=rv.one;cases ru;obtain⟨z,its,n,r2,ho⟩:=I.hok l _ hl;have j9:bs.length=its.length:=by have:=r2.length;simpa using this
 have item:∀(m:Nat) (hm:m<its.length),∃b,bs[m]?=some b/\its[m]=.bool b:=λm hm=>by
  obtain⟨w',e1,e2⟩:=r2.get (i:=m) (x:=V.bl (bs[m]'(by lia))) (by simp[show m<bs.length by lia]);refine⟨bs[m]'(by lia),by simp[show m<bs.length by lia],?_⟩;have:its[m]?=some its[m]:=by simp[hm]
  rw[this] at e1;cases e1;exact e2
 have vP:j<its.length:=by rw[<- j9];exact (gS_ hj).1
 refine W0 F.slot_list_index ⟨_,ho,rfl⟩ F.entry_list_index (F.args_list_index_2 _ _) (MeetsSeq.list_index l its.toArray n (.bool true) (λy=>y==.bool true) (λy hy=>?_) j (by simpa using vP) (by lia) ?_ ?_) ⟨ho,?_⟩
 ·obtain⟨m,hm,e⟩:=ZV.mp (show y∈its by simpa using hy);obtain⟨b,_,e2⟩:=item m hm;rw[e] at e2;subst e2;intro prog w A E s' Q' hq;refine SeqAt.EqAt.bool_bool b true prog w E Q' ?_;cases b<;>exact hq
 ·obtain⟨b,e1,e2⟩:=item j vP;rw[hj] at e1;cases e1;simpa using e2
 ·intro m hm hmj;have hm':m<its.length:=by simpa using hm
  obtain⟨b,e1,e2⟩:=item m hm';rw[wB m hmj] at e1;cases e1;have:its.toArray[m]=.bool false:=by simpa using e2
  rw[this]
  rfl
 ·exact⟨.int j,H,I.tok _,⟨_,rfl⟩,q⟩
end
end L2
namespace L2
open PySem PySem.Spec PyProof.Rows
theorem xj3 {wi:TI}{te:TE}:xv2 wi te=qw1 1 wi (qh3 0) xi9 te:=by
 funext σ H Q;unfold xv2 qw1;congr 1;funext J H1;refine propext (YU λD=>YU λ_=>exists_congr λW=>WO λ_=>YU λi=>YU λm=>YU λxs=>YU λH2=>YU λ_=>WO λ_=>WO λ_=>or_congr_right (WO λ_=>YU λy=>YU λH3=>YU λ_=>⟨λh os ho=>?_,λh=>?_⟩))
 ·match os,ho with
  |[o],_=>
   unfold qh3 xi9;dsimp only;rw[Zr rfl];exact h
 ·have z:=h [none] rfl;unfold qh3 xi9 at z;dsimp only at z;rw[Zr rfl] at z;exact z
section
variable {X:Cx}
theorem qf5 {x:Str}{px pos:Pos}{elt iter:Expr}{scope:Scope}{wi:TI}{te:TE}(N:List Str) (sc:Scope) (vD:X.N=N) (kZ:X.env.scope=sc) (hc:X.calm=true) (hN:X.N.Nodup) (hi:PI X (.Name x px) iter wi) (he:∀cl C fp s₀ H₀,PE (qc9 X scope cl C [x] fp s₀ H₀) elt te)
  (jD:scope.kind=.function:=by rfl) (jB:scope.names.all (λy=>y.2 != .cell)=true:=by decide +kernel) (jF:scope.names.all (λy=>y.2 != .local||scope.names.lookup y.1==some .local)=true:=by decide +kernel)
  (hx:scope.names.lookup x=some .local:=by rfl) (jL:N.all (λy=>scope.names.lookup y != some .local)=true:=by decide +kernel)
  (jN:scope.names.all (λp=>p.2 != .free||(sc.names.lookup p.1==some .cell||sc.names.lookup p.1==some .free))=true:=by decide +kernel)
  (hs:∀x,foldedSetIterable iter X.env x=pure x:=by intro _;rfl):PE X (.ListComp elt [⟨.Name x px,iter,[],0⟩] scope pos) (xv2 wi te):=by
 obtain⟨s1,s2,s3,s4⟩:=qo1 vD kZ jB jF jL jN;rw[xj3];refine qx2 (nn:=[x]) (λ_=>pure true) hc hi (λit acc env=>q87 elt _ iter scope pos it acc env) (λcl C fp s₀ H₀=>?_) (λy os σ H R ho h=>loc1 ho h) (λcl C fp s₀ H₀ j8 s σ H Q I h=>Zm ⟨H,I,h⟩) he jD s1 s2 s3 s4 hs;have l:(qc9 X scope cl C [x] fp s₀ H₀).env.scope.names.lookup x=some .local:=XN hx;exact qy6 (i:=0) (Y0.mpr ⟨λz=>s3 x z hx,hN⟩) rfl (.inl l) (.inr l)
end
end L2
namespace L2
open PySem
theorem qc5 {H:Hp}{a b:Addr}{o u:HO}(e:H a=some o) (hn:H b=none):upd H b u a=some o:=by rw[qa6 (qa5 e hn)];exact e
theorem qb2 {H:Hp}{a:Addr}{o:HO}(h:H a=none):Same H (upd H a o):=λb u e=>qc5 e h
def Tups (H H':Hp):Prop:=∀b u,H b=some (.tup u)->H' b=some (.tup u)
theorem Same.tups {H H':Hp}(s:Same H H'):Tups H H':=λb u e=>s b _ e
structure Goes (J:It) (H:Hp) (n:Nat) (item:Nat->V->Hp->Prop):Prop where
 go:∀i H2,i<n->Same H H2->J.go i H2
 yl:∀i H2 y H3,i<n->Same H H2->J.yld i H2 y H3->Same H2 H3/\item i y H3
 st:∀H2,Same H H2->J.stop n H2
theorem qi1 {K:PySem.W.Frag}{H:Hp}{a:Addr}{xs:List V}(ha:H a=some (.tup xs)):Goes (Itt K a) H xs.length (λi y _=>xs[i]?=some y) where
 go:=λi H2 hi s=>⟨xs,xs[i],SqT.of (s _ _ ha),by simp[hi]⟩
 yl:=λi H2 y H3 hi s h=>by
  obtain⟨e,h⟩:=h;subst e;exact⟨Same.refl _,h xs (SqT.of (s _ _ ha))⟩
 st:=λH2 s=>⟨xs,SqT.of (s _ _ ha),Ze _⟩
theorem qG3 {K:PySem.W.Frag}{H:Hp}{a:Addr}{xs:List V}(ha:H a=some (.lst xs)):Goes (Itl K a) H xs.length (λi y _=>xs[i]?=some y) where
 go:=λi H2 hi s=>⟨xs,xs[i],SqL.of (s _ _ ha),by simp[hi]⟩
 yl:=λi H2 y H3 hi s h=>by
  obtain⟨e,h⟩:=h;subst e;exact⟨Same.refl _,h xs (SqL.of (s _ _ ha))⟩
 st:=λH2 s=>⟨xs,SqL.of (s _ _ ha),Ze _⟩
theorem qV7 {H:Hp}{n:Nat}:Goes (Itr 0 n) H n (λi y _=>y=.int (i:Int)) where
 go:=λi H2 hi s=>hi
 yl:=λi H2 y H3 hi s h=>by
  obtain⟨e,h⟩:=h;subst e;exact⟨Same.refl _,by rw[h,Int.zero_add]⟩
 st:=λH2 s=>Ze n
theorem qz8 {K:PySem.W.Frag}{H:Hp}{a:Addr}{xs:List V}(ha:H a=some (.tup xs)):Goes (Ite K a) H xs.length (λi y H3=>∃p x,y=.ref p/\xs[i]?=some x/\H3 p=some (.tup [.int i,x])) where
 go:=λi H2 hi s=>⟨xs,xs[i],SqT.of (s _ _ ha),by simp[hi]⟩
 yl:=λi H2 y H3 hi s h=>by
  obtain⟨p,x,hp,hx,rfl,rfl⟩:=h;exact⟨qb2 hp,p,x,rfl,hx xs (SqT.of (s _ _ ha)),qa2⟩
 st:=λH2 s=>⟨xs,SqT.of (s _ _ ha),Ze _⟩
theorem qe6 {J:It}{H:Hp}{n:Nat}{item:Nat->V->Hp->Prop}{te:TE}{σ:St}{Fin:Hp->Prop}{D:Addr}(hD:H D=none) (Rel:Nat->V->Hp->Prop) (G:Goes J H n item) (hsz:n<sizeLine)
  (mono:∀i y H1 H2,i<n->Tups H1 H2->Rel i y H1->Rel i y H2)
  (step:∀i x H2,i<n->item i x H2->Same H H2->∀Q':VK,(∀y H3,Same H2 H3->Rel i y H3->Q' y H3)->te (some x::σ) H2 Q')
  (fin:∀ys H2,Same H H2->H2 D=some (.lst ys)->ys.length=n->(∀i y,ys[i]?=some y->Rel i y H2)->Fin H2) :
  ∃W:Nat->Nat->List V->Hp->Prop,(∃m,W 0 m [] (upd H D (.lst []))) /\
   ∀i m xs H2,W i m xs H2->H2 D=some (.lst xs)/\xs.length<sizeLine/\((J.stop i H2/\Fin H2)\/(J.go i H2/\∀y H3,J.yld i H2 y H3 ->
    te (some y::σ) H3 λv H4=>H4 D=some (.lst xs)/\∃m',m'<m/\W (i+1) m' (xs++[v]) (upd H4 D (.lst (xs++[v]))))):=by
 refine⟨λi m ys H2=>i<=n/\m=n-i/\ys.length=i/\H2 D=some (.lst ys)/\Same H H2/\∀j y,ys[j]?=some y->Rel j y H2,⟨n,ZN _,rfl,rfl,qa2,qb2 hD,λj y h=>by simp at h⟩,?_⟩;rintro i m ys H2 ⟨hi,rfl,hl,hd,s2,rel⟩;refine⟨hd,by lia,?_⟩;by_cases he:i=n
 ·subst he;exact .inl ⟨G.st H2 s2,fin ys H2 s2 hd hl rel⟩
 ·refine .inr ⟨G.go i H2 (by lia) s2,λy H3 hy=>?_⟩;obtain⟨s3,it⟩:=G.yl i H2 y H3 (by lia) s2 hy;refine step i y H3 (by lia) it (s2.trans s3) _ λv H4 s4 r4=>?_;have kB:=s4 _ _ (s3 _ _ hd);refine⟨kB,n-(i+1),by lia,by lia,rfl,by rw[Zj,hl];rfl,qa2,?_,?_⟩
  ·intro b o e;rw[qa6 (qa5 e hD)];exact s4 _ _ (s3 _ _ (s2 _ _ e))
  ·have tk:Tups H4 (upd H4 D (.lst (ys++[v]))):=λb u e=>by
    have:b≠D:=λz=>by subst z;rw[kB] at e;cases e
    rw[qa6 this];exact e
   intro j z hz;by_cases hj:j<i
   ·rw[Zg (by lia)] at hz;exact mono j z H4 _ (by lia) tk (mono j z H2 H4 (by lia) (s3.trans s4).tups (rel j z hz))
   ·rw[Zh (by lia)] at hz;have:j-ys.length=0:=by
     have:=(gS_ hz).1;simp at this;lia
    rw[this] at hz;have:z=v:=by simpa using hz.symm
    subst this;have:j=i:=by lia
    subst this;exact mono _ _ H4 _ (by lia) tk r4
theorem qu5 {J:It}{H:Hp}{n k:Nat}{item:Nat->V->Hp->Prop}{g:TG}{tt:TT}{te:TE}{σ:St}{Fin:Hp->Prop}{D:Addr}(hD:H D=none) (yes:Nat->Bool) (val:Nat->V) (G:Goes J H n item) (hsz:n<sizeLine)
  (step:∀i x H2,i<n->item i x H2->Same H H2->∀os:St,os.length=k->∀(Q1:Hp->Prop) (Q2:VK),(yes i=false->∀H3,Same H2 H3->Q1 H3)->(yes i=true->∀H3,Same H2 H3->Q2 (val i) H3) ->
   g x (os++σ) H2 λσ4 H4=>tt σ4 H4 λb H5=>if b=true then te σ4 H5 Q2 else Q1 H5)
  (fin:∀H2,Same H H2->H2 D=some (.lst (((List.range n).filter yes).map val))->Fin H2) :
  ∃W:Nat->Nat->List V->Hp->Prop,(∃m,W 0 m [] (upd H D (.lst []))) /\
   ∀i m xs H2,W i m xs H2->H2 D=some (.lst xs)/\xs.length<sizeLine/\((J.stop i H2/\Fin H2)\/(J.go i H2/\∀y H3,J.yld i H2 y H3->∀os:St,os.length=k ->
    g y (os++σ) H3 λσ4 H4=>tt σ4 H4 λb H5=>if b=true then te σ4 H5 λv H6=>H6 D=some (.lst xs)/\∃m',m'<m/\W (i+1) m' (xs++[v]) (upd H6 D (.lst (xs++[v]))) else ∃m',m'<m/\W (i+1) m' xs H5)):=by
 refine⟨λi m ys H2=>i<=n/\m=n-i/\ys=((List.range i).filter yes).map val/\H2 D=some (.lst ys)/\Same H H2,⟨n,ZN _,rfl,rfl,qa2,qb2 hD⟩,?_⟩;rintro i m ys H2 ⟨hi,rfl,hl,hd,s2⟩;have j9:ys.length<=i:=by
  rw[hl,Zb];exact ZK (YN _ _) (by simp)
 refine⟨hd,by lia,?_⟩;by_cases he:i=n
 ·subst he;exact .inl ⟨G.st H2 s2,fin H2 s2 (hl▸hd)⟩
 ·refine .inr ⟨G.go i H2 (by lia) s2,λy H3 hy os ho=>?_⟩;obtain⟨s3,it⟩:=G.yl i H2 y H3 (by lia) s2 hy;refine step i y H3 (by lia) it (s2.trans s3) os ho _ _ (λwB H4 s4=>?_) (λhyes H4 s4=>?_)
  ·refine⟨n-(i+1),by lia,by lia,rfl,?_,s4 _ _ (s3 _ _ hd),(s2.trans s3).trans s4⟩;rw[hl,Y2,Xv];simp[wB]
  ·have kB:=s4 _ _ (s3 _ _ hd);refine⟨kB,n-(i+1),by lia,by lia,rfl,?_,qa2,λb o e=>?_⟩
   ·rw[hl,Y2,Xv];simp[hyes]
   ·rw[qa6 (qa5 e hD)];exact s4 _ _ (s3 _ _ (s2 _ _ e))
theorem ixL {X:Cx}(K:PySem.W.Frag) (h:X.K=K):IxR X (rIxL K):=h▸qe4
theorem ixT {X:Cx}(K:PySem.W.Frag) (h:X.K=K):IxR X (rIxT K):=h▸qh8
theorem lenS {X:Cx}(K:PySem.W.Frag) (h:X.K=K):qi3 X (.builtin "len") (λxs H Q=>∃p ys,xs=[.ref p]/\(SqL K H p ys\/SqT K H p ys)/\Q (.int ys.length) H):=h▸qa9
theorem tupO {X:Cx}(K:PySem.W.Frag) (h:X.K=K):qi3 X (.type "tuple") (λxs H Q=>∃p ys,xs=[.ref p]/\((SqL K H p ys/\∀l,H l=none->Q (.ref l) (upd H l (.tup ys)))\/(SqT K H p ys/\Q (.ref p) H))):=h▸qg2
theorem piT {X:Cx}{tg l:Expr}{tl:TE}(K:PySem.W.Frag) (h:X.K=K) (hl:PE X l tl):PI X tg l (iTup K tl):=h▸qj9 hl
end L2
namespace Pr
open PySem L2
abbrev qp8:Stmt:=top 14
abbrev qD8:Stmt:=top 15
abbrev qR1:Stmt:=top 16
abbrev sEnd:Stmt:=top 17
abbrev qG4:Stmt:=top 18
abbrev qn3:Stmt:=top 19
abbrev qx3:Stmt:=top 20
abbrev qG5:Stmt:=qi6 (top 21) 0
abbrev qV8:Stmt:=qi6 (top 21) 1
abbrev qG6:Stmt:=qi6 (top 21) 2
abbrev qR2:Stmt:=top 24
abbrev qm8:Stmt:=top 26
abbrev sRow:Stmt:=top 27
abbrev qG7:Stmt:=top 28
abbrev qm9:Stmt:=top 29
abbrev ql0:Stmt:=top 30
abbrev xa0:Stmt:=top 32
abbrev qz9:Stmt:=top 33
abbrev xa1:Stmt:=top 34
abbrev qn0:Stmt:=top 35
abbrev qo3:Stmt:=top 36
abbrev xj4:Stmt:=top 37
abbrev qp0:Stmt:=top 38
abbrev xa2:Stmt:=top 39
abbrev lPot:Stmt:=top 41
abbrev qw2:Stmt:=top 42
abbrev qD9:Stmt:=top 43
abbrev xa3:Stmt:=top 44
abbrev qs0:Stmt:=top 45
abbrev qL9:Stmt:=top 46
abbrev qG8:Stmt:=top 47
abbrev qG9:Stmt:=top 48
abbrev qR3:Stmt:=top 49
abbrev xj5:Stmt:=top 50
abbrev qH0:Stmt:=top 51
abbrev qx4:Stmt:=top 52
abbrev qM0:Stmt:=top 53
abbrev lLaw:Stmt:=top 54
end Pr
namespace L2
open PySem PySem.Spec PyProof.Rows
theorem qe9 {N P:List Str}{sc:Scope}(a:sc.kind=.function:=by rfl) (b:sc.isCoroutine=false:=by rfl) (c:sc.isGenerator=false:=by rfl) (d:N.Nodup:=by decide +kernel) (e:N.take P.length=P:=by rfl) (f:∀x∈P,sc.names.lookup x=some .local\/sc.names.lookup x=some .cell:=by decide +kernel) (g:∀y∈sc.names,y.2≠.free:=by decide +kernel):FnScope N P sc:=⟨a,b,c,d,e,f,g⟩
section
variable {X:Cx}
theorem psN (i:Nat){x:Str}{e:Expr}{te:TE}{pos pos':Pos}(hN:X.N.Nodup) (he:PE X e te) (hi:X.N[i]?=some x:=by rfl) (hx:Loc X.env.scope x:=by first|left;rfl|right;rfl) (hs:swapsWith e (some (.Name x pos')) pos.line X.env=pure false:=by rfl) (hf:X.fn x=true\/X.env.scope.names.lookup x=some .local:=by first|left;rfl|right;rfl|assumption):PS X (.Assign [.Name x pos'] e pos) (tAsg te (qh3 i)):=xq1 hN hi hx he hs hf
theorem pgN (i:Nat){x:Str}{pos:Pos}(hN:X.N.Nodup) (hi:X.N[i]?=some x:=by rfl) (hx:Loc X.env.scope x:=by first|left;rfl|right;rfl) (hf:X.fn x=true\/X.env.scope.names.lookup x=some .local:=by first|left;rfl|right;rfl|assumption):PG X (.Name x pos) (qh3 i):=qy6 hN hi hx hf
theorem pcN {k:Nat}{f:Addr}{fd:FuncData}{ps:List Str}{sp:Sp}{x:Str}{p pos:Pos}{e:Expr}{es:List Expr}{t:TA}(F:FnOk X.prog X.w X.K X.mg X.base CX0 k f fd ps sp) (hr:Room k X.A) (hm:X.mg x=some (.ref f)) (hk:PySem.W.keepIn X.K (.ref f)=true) (hb:Binds X.K fd ps []) (ha:PA X (e::es) t) (hg:Gl X x:=by rfl) (vB:(x==("__debug__" : Str))=false:=by decide) (he:starEach (e::es) X.env=(false,eval e X.env)::starEach es X.env:=by rfl) (jQ:(backTo pos (starEach es X.env)).any (·.1)=false:=by rfl) :
  PE X (.Call (.Name x p) (e::es) [] pos) (xC5 sp [] E0 t):=qq1 F hr hg hm hk hb .nil xi3 ha vB he jQ
theorem pxN {r:R2}{a b:Expr}{pos:Pos}{ta tb:TE}(hr:IxR X r) (ha:PE X a ta) (hb:PE X b tb) (hs:q73 b:=by intro _ _;rfl):PE X (.Subscript a b pos) (tOp r ta tb):=xC9 hr ha hb hs
end
end L2
namespace Pr
open PySem L2 Qf
structure Blt (mg:Str->Option Value):Prop where
 isi:mg "isinstance" = none
 int:mg "int" = none
 bool:mg "bool" = none
 tuple:mg "tuple" = none
 list:mg "list" = none
 set:mg "set" = none
 len:mg "len" = none
 all:mg "all" = none
 any:mg "any" = none
 enum:mg "enumerate" = none
 range:mg "range" = none
 max:mg "max" = none
 min:mg "min" = none
structure Cst (mg:Str->Option Value):Prop where
 first:∃t,mg "FIRST" = some (.int 2 t)
 full:∃t,mg "FULL" = some (.int 1 t)
 great:∃t,mg "GREATEST_SIZE" = some (.int 12 t)
def vN (r:List Nat):List V:=r.map λn:Nat=>V.int (n:Int)
theorem qc2 (r:List Nat):(vN r).length=r.length:=Zb ..
theorem ql8 {r:List Nat}{i:Nat}{x:V}(h:(vN r)[i]?=some x):∃n:Nat,r[i]?=some n/\x=.int (n:Int):=by
 unfold vN at h;rw[Zd] at h;obtain⟨n,h1,h2⟩:=Zw.mp h;exact⟨n,h1,h2.symm⟩
theorem q26 {r:List Nat}{i n:Nat}(h:r[i]?=some n):(vN r)[i]?=some (.int (n:Int)):=by
 unfold vN;rw[Zd,h];rfl
theorem qw3 {r:List Nat}{i n:Nat}(h:r[i]?=some n):atI (vN r) (i:Int)=some (.int (n:Int)):=qe3 (q26 h)
theorem qE0 (r:List Nat):vN r=(r.map λn:Nat=>(n:Int)).map V.int:=by unfold vN;rw[Yp];rfl
def RowsAt (H:Hp) (p:Addr) (rows:List Row):Prop:=∃bs:List Addr,H p=some (.tup (bs.map V.ref))/\bs.length=rows.length/\∀(i:Nat) b r,bs[i]?=some b->rows[i]?=some r->H b=some (.tup (vN r))
theorem RowsAt.mono {H H':Hp}{p:Addr}{rows:List Row}(h:RowsAt H p rows) (t:Tups H H'):RowsAt H' p rows:=by
 obtain⟨bs,h1,h2,h3⟩:=h;exact⟨bs,t _ _ h1,h2,λi b r e1 e2=>t _ _ (h3 i b r e1 e2)⟩
theorem RowsAt.same {H H':Hp}{p:Addr}{rows:List Row}(h:RowsAt H p rows) (t:Same H H'):RowsAt H' p rows:=h.mono t.tups
def RowsS (H:Hp) (p:Addr) (rows:List Row):Prop:=∃bs:List Addr,(H p=some (.tup (bs.map V.ref))\/H p=some (.lst (bs.map V.ref)))/\bs.length=rows.length/\∀(i:Nat) b r,bs[i]?=some b->rows[i]?=some r->H b=some (.tup (vN r))
theorem RowsS.same {H H':Hp}{p:Addr}{rows:List Row}(h:RowsS H p rows) (s:Same H H'):RowsS H' p rows:=by
 obtain⟨bs,h1,h2,h3⟩:=h;exact⟨bs,h1.imp (s _ _) (s _ _),h2,λi b r e1 e2=>s _ _ (h3 i b r e1 e2)⟩
def rIxS (K:PySem.W.Frag):R2:=λx y H Q=>rIxL K x y H Q\/rIxT K x y H Q
theorem ixS {X:Cx}(K:PySem.W.Frag) (h:X.K=K):IxR X (rIxS K):=(ixL K h).or (ixT K h)
section
variable {P:Program}{w:World}{K:PySem.W.Frag}{mg:Str->Option Value}{base:Heap}
theorem xa4:FnScope ["thing"] ["thing"] (qa4 qp8):=qe9
def qH1:Sp:=λvs H Q _=>∃i:Int,vs=[.int i]/\Q (.bl true) H
theorem qH2 {f:Addr}{fd:FuncData}(F:Fun K "is_whole" "is_whole" qp8 f fd) (B:Blt mg):FnOk P w K mg base CX0 1 f fd ["thing"] qH1:=by
 refine F.ok xa4 (λvs H Q E h=>?_) (λcdv A outer s H vs Q E hr h=>?_)
 ·obtain⟨i,rfl,_⟩:=h
  rfl
 ·obtain⟨i,rfl,q⟩:=h;refine⟨_,qa8 (qb0 (qr2 (qa7 qd7 (by rfl) B.isi Zt (qa0 (pv 0) (qa0 (qg4 (v:=.ty "int") (by rfl) B.int PyProof.Rows.boot_int rfl) qa1)))
   (qr1 (xp9 (qa7 qd7 (by rfl) B.isi Zt (qa0 (pv 0) (qa0 (qg4 (v:=.ty "bool") (by rfl) B.bool PyProof.Rows.boot_bool rfl) qa1))))))),?_⟩
  exact⟨_,rfl,_,_,_,_,true,rfl,rfl,.inl (.int i),rfl,_,rfl,iteT ⟨_,rfl,_,_,_,_,false,rfl,rfl,.inl (.int i),rfl,_,rfl,q⟩⟩
theorem xr5:FnScope ["thing"] ["thing"] (qa4 qR2):=qe9
def xa5:Sp:=λvs H Q _=>∃n:Nat,vs=[.int n]/\n<=12/\Q (.bl true) H
theorem xw5 {f fW:Addr}{fd fdW:FuncData}(F:Fun K "is_size" "is_size" qR2 f fd) (B:Blt mg) (T:Cst mg) (hW:mg "is_whole" = some (.ref fW)) (FW:Fun K "is_whole" "is_whole" qp8 fW fdW) (bW:Binds K fdW ["thing"] []):FnOk P w K mg base CX0 2 f fd ["thing"] xa5:=by
 have GW:FnOk P w K mg base CX0 1 fW fdW ["thing"] qH1:=qH2 FW B;obtain⟨tg,hgr⟩:=T.great;refine F.ok xr5 (λvs H Q E h=>?_) (λcdv A outer s H vs Q E hr h=>?_)
 ·obtain⟨x,rfl,_⟩:=h
  rfl
 ·obtain⟨n,rfl,hn,q⟩:=h;refine⟨_,qa8 (qb0 (qr2 (pcN GW hr hW FW.kp bW (qa0 (pv 0) qa1)) (qr1 (qx0 qC2 qC2 qa3 (pv 0) (qc3 (v:=.int 12) (by rfl) hgr ⟨_,rfl⟩))))),?_⟩;refine⟨_,rfl,n,rfl,_,rfl,iteT ⟨_,rfl,_,_,rfl,rfl,_,rfl,?_⟩⟩;have e:decide ((n:Int)<=12)=true:=Zi (by lia);refine ite2 (λ_=>⟨_,_,rfl,rfl,?_⟩) (λh1=>absurd (Zi (Int.natCast_nonneg n)) h1);show Q (V.bl (decide ((n:Int)<=12))) H;rw[e];exact q
theorem qV9:FnScope ["thing", "many"] ["thing", "many"] (qa4 qm8):=qe9
def qx5:Sp:=λvs H Q _=>∃n m:Nat,vs=[.int n,.int m]/\n<m+2/\Q (.bl true) H
theorem xa6 {f fW:Addr}{fd fdW:FuncData}(F:Fun K "is_number" "is_number" qm8 f fd) (B:Blt mg) (T:Cst mg) (hW:mg "is_whole" = some (.ref fW)) (FW:Fun K "is_whole" "is_whole" qp8 fW fdW) (bW:Binds K fdW ["thing"] []):FnOk P w K mg base CX0 2 f fd ["thing", "many"] qx5:=by
 have GW:FnOk P w K mg base CX0 1 fW fdW ["thing"] qH1:=qH2 FW B;obtain⟨tf,hf⟩:=T.first;refine F.ok qV9 (λvs H Q E h=>?_) (λcdv A outer s H vs Q E hr h=>?_)
 ·obtain⟨n,m,rfl,_⟩:=h
  rfl
 ·obtain⟨n,m,rfl,hn,q⟩:=h;refine⟨_,qa8 (qb0 (qr2 (pcN GW hr hW FW.kp bW (qa0 (pv 0) qa1)) (qr1 (qx0 qC2 qC1 qa3 (pv 0) (qb8 qf9 (pv 1) (qc3 (v:=.int 2) (by rfl) hf ⟨_,rfl⟩)))))),?_⟩;refine⟨_,rfl,n,rfl,_,rfl,iteT ⟨_,rfl,_,_,rfl,rfl,_,rfl,?_⟩⟩;have e:decide ((n:Int)<(m:Int)+2)=true:=Zi (by lia);refine ite2 (λ_=>⟨_,rfl,_,_,rfl,rfl,_,_,rfl,rfl,?_⟩) (λh1=>absurd (Zi (Int.natCast_nonneg n)) h1);show Q (V.bl (decide ((n:Int)<(m:Int)+2))) H;rw[e];exact q
theorem xw6:FnScope ["row"] ["row"] (qa4 qD8):=qe9
def qR4:Sp:=λvs H Q _=>∃(b:Addr) (r:Row),vs=[.ref b]/\H b=some (.tup (vN r))/\r.length=4/\∀H',Same H H'->Q (.bl (decide (qh0 r))) H'
theorem qA0 {l m:List Nat}(h:(l.map λn:Nat=>(n:Int))=m.map λn:Nat=>(n:Int)):l=m:=by
 induction l generalizing m with
 |nil=>cases m with
  |nil=>rfl
  |cons b m=>simp at h
 |cons a l ih=>cases m with
  |nil=>simp at h
  |cons b m=>
   rw[ZH,ZH] at h;injection h with h1 h2
   rw[ih h2,Y6 h1]
theorem qW0 {f:Addr}{fd:FuncData}(F:Fun K "is_plain" "is_plain" qD8 f fd) (T:Cst mg):FnOk P w K mg base CX0 2 f fd ["row"] qR4:=by
 obtain⟨tf,hf⟩:=T.first;refine F.ok xw6 (λvs H Q E h=>?_) (λcdv A outer s H vs Q E hr h=>?_)
 ·obtain⟨b,r,rfl,_⟩:=h
  rfl
 ·obtain⟨b,r,rfl,hb,hl,q⟩:=h;refine⟨_,qa8 (qb0 (qr2 (qm5 qC1 (pxN qh8 (pv 0) qa3) (qc3 (v:=.int 2) (by rfl) hf ⟨_,rfl⟩) (qc6 _))
   (qr1 (qm5 (qU8 hr) (pv 0) (qb8 q96 (qf0 (qa0 (pxN qh8 (pv 0) qa3) qa1)) qa3) (qc6 _))))),?_⟩
  match r,hl with
  |[x0,x1,x2,x3],_=>
   refine⟨_,rfl,b,_,0,.int x0,rfl,rfl,SqT.of hb,rfl,_,_,rfl,rfl,_,rfl,?_⟩;refine ite2 (λhc=>?_) (λhc=>?_)
   ·have h2:x0<2:=by have:=ZU hc;lia
    refine⟨_,rfl,_,rfl,b,_,0,.int x0,rfl,rfl,SqT.of hb,rfl,(by show 1<=sizeLine;decide),λp hp=>⟨p,4,.int x0,rfl,rfl,qa2,by decide,by decide,λp2 jI=>?_⟩⟩;have kM:=qc5 (u:=.tup (List.replicate 4 (V.int x0))) (qc5 (u:=.tup [V.int x0]) hb hp) jI;refine⟨dT [(x0:Int),(x1:Int),(x2:Int),(x3:Int)],dT [(x0:Int),(x0:Int),(x0:Int),(x0:Int)],.tup kM (DatasAt.ints [(x0:Int),(x1:Int),(x2:Int),(x3:Int)]),.tup qa2 (DatasAt.ints [(x0:Int),(x0:Int),(x0:Int),(x0:Int)]),qr6 _,qr6 _,(by show 1<=60;decide),?_⟩;rw[xr2];have e:decide (([(x0:Int),(x1:Int),(x2:Int),(x3:Int)]:List Int)=([(x0:Int),(x0:Int),(x0:Int),(x0:Int)]:List Int))=decide (qh0 [x0,x1,x2,x3]):=by
     congr 1;apply propext;unfold qh0;constructor
     ·intro z;have:[x0,x1,x2,x3]=[x0,x0,x0,x0]:=qA0 (l:=[x0,x1,x2,x3]) (m:=[x0,x0,x0,x0]) z;have:x0=0\/x0=1:=by lia
      rcases this with rfl|rfl
      ·exact .inl ‹_›
      ·exact .inr ‹_›
     ·rintro (z|z)<;>(cases z;rfl)
    rw[e];exact q _ ((qb2 hp).trans (qb2 jI))
   ·have h2:¬x0<2:=λz=>hc (Zi (by lia));have e:decide (qh0 [x0,x1,x2,x3])=false:=Zk (by
     rintro (z|z)<;>(cases z;lia))
    have:=q H (Same.refl H);rw[e] at this;exact this
end
end Pr
namespace Qf
theorem xw7 (l:List Nat) (a:Nat):mx (l++[a])=max (mx l) a:=by
 induction l with
 |nil=>show max a 0=max 0 a;lia
 |cons b l ih=>show max b (mx (l++[a]))=max (max b (mx l)) a;rw[ih];lia
theorem xa7 (l:List Nat):∀k,k<l.length->L2.best (l.map λn:Nat=>(n:Int)) k=(mx (l.take (k+1)):Nat)
 |0,h=>by
  cases l with
  |nil=>simp at h
  |cons a l=>show ((a:Nat):Int)=((max a 0:Nat):Int);simp
 |k+1,h=>by
  have ih:=xa7 l k (by lia);have e:(l.map λn:Nat=>(n:Int)).getD (k+1) 0=((l[k+1]:Nat):Int):=by simp[List.getD,h]
  have t:l.take (k+1+1)=l.take (k+1)++[l[k+1]]:=by rw[YT h]
  unfold L2.best;rw[e,ih,t,xw7];split<;>lia
theorem qW1 {l:List Nat}(h:l≠[]):L2.best (l.map λn:Nat=>(n:Int)) ((l.map λn:Nat=>(n:Int)).length-1)=(mx l:Nat):=by
 have hl:0<l.length:=Y3.mpr h;rw[Zb,xa7 l (l.length-1) (by lia),show l.length-1+1=l.length by lia,YE]
theorem qM1 {rows:List Row}{i:Nat}{r:Row}(h:rows[i]?=some r):deps (rows.take (i+1))=deps (rows.take i)++[1+mx (r.map (dp (rows.take i)))]:=by
 have hl:=(gS_ h).1;have he:=(gS_ h).2;rw[<- qr8,<- he,YT hl]
theorem qM2 {rows:List Row}{x:Nat}(h:x<rows.length+2):(deps rows)[x]?=some (dp rows x):=by
 unfold dp;rw[ZG];have:x<(deps rows).length:=by rw[qj3];exact h
 rw[Zf this];rfl
end Qf
namespace Pr
open PySem L2 Qf
theorem qi2 {xs ys:List V}(hl:xs.length=ys.length) (h:∀(i:Nat) x,xs[i]?=some x->ys[i]?=some x):xs=ys:=by
 refine YZ λi=>?_;cases e:xs[i]? with
 |some x=>exact (h i x e).symm
 |none=>
  have:xs.length<=i:=List.getElem?_eq_none_iff.mp e;exact (ZZ (by lia)).symm
section
variable {P:Program}{w:World}{K:PySem.W.Frag}{mg:Str->Option Value}{base:Heap}
theorem scDeps:FnScope ["rows", "depths", "row"] ["rows"] (qa4 qR1):=qe9
def qW2:Sp:=λvs H Q _=>∃(p:Addr) (rows:List Row),vs=[.ref p]/\RowsAt H p rows/\qc0 rows/\rows.length<=900/\∀H' D,Same H H'->H' D=some (.lst (vN (deps rows)))->Q (.ref D) H'
theorem qR5 {f:Addr}{fd:FuncData}(F:Fun K "depths_of" "depths_of" qR1 f fd) (B:Blt mg):FnOk P w K mg base CX0 1 f fd ["rows"] qW2:=by
 refine F.ok scDeps (λvs H Q E h=>?_) (λcdv A outer s H vs Q E hr h=>?_)
 ·obtain⟨p,rows,rfl,_⟩:=h
  rfl
 ·obtain⟨p,rows,rfl,hR,ok,hn,q⟩:=h;refine⟨_,qc1 (psN 1 scDeps.nd (qd1 (qa0 qa3 (qa0 qa3 qa1))))
   (qc1 (ql5 Yb rfl (qj9 (pv 0)) (pgN 2 scDeps.nd)
    (qa8 (qd3 (qC4 ZI ZS ZT qe5 (pv 1) (qa0 (qb8 qf9 qa3 (qa7 (qL3 rfl) (by rfl) B.max XD
     (qa0 (qf5 ["rows", "depths", "row"] (qa4 qR1) rfl rfl rfl scDeps.nd (qj9 (pv 2)) (λcl C fp s₀ H₀=>pxN (ixL K rfl) (pv 2) (pv 0))) qa1))) qa1)))))
   (qa8 (qb0 (pv 1)))),?_⟩
  refine⟨(by show 2<=sizeLine;decide),λD hD=>?_⟩;obtain⟨bs,hp,j9,jA⟩:=id hR;have jM:=qc5 (u:=.lst [.int 0,.int 0]) hp hD;have jJ:(bs.map V.ref).length=rows.length:=by rw[Zb];exact j9
  refine⟨_,rfl,p,rfl,⟨_,SqT.of jM⟩,qq0 (K:=K) (a:=p) (xs:=bs.map V.ref) (λi σ H2=>Same H H2/\H2 D=some (.lst (vN (deps (rows.take i))))/\∃v2,σ=[some (.ref p),some (.ref D),v2])
   ⟨qb2 hD,qa2,none,rfl⟩ (λi σ H2 _ ⟨s2,_⟩=>SqT.of (s2 _ _ hp)) ?_ ?_⟩
  ·rintro i y σ H2 hy ⟨s2,jG,v2,rfl⟩;have hi:i<rows.length:=by rw[<- jJ];exact (gS_ hy).1
   rw[Zd] at hy;obtain⟨b,hb,rfl⟩:=Zw.mp hy;have jE:rows[i]?=some rows[i]:=by simp[hi]
   have jV:=s2 _ _ (jA i b rows[i] hb jE);have rk:=ok i _ jE;have tl:(rows.take i).length=i:=by rw[ZW];lia
   have vA:∀x,x<i+2->(deps (rows.take i))[x]?=some (dp (rows.take i) x):=λx hx=>qM2 (by rw[tl];exact hx);generalize rows[i]=r at jE jV rk;refine⟨_,rfl,.inl ⟨rfl,_,SqL.of jG⟩,_,rfl,b,rfl,⟨_,SqT.of jV⟩,λD2 kQ=>qe6 kQ (λj z _=>∃x,r[j]?=some x/\z=.int (dp (rows.take i) x:Nat)) (qi1 (K:=K) jV) (by rw[qc2,rk.1];decide) (λ_ _ _ _ _ _ h=>h) ?_ ?_⟩
   ·intro j x H3 hj hx s3 Q' hq;obtain⟨m,hm,rfl⟩:=ql8 hx;have jC:=rk.2 m (Zx hm);exact⟨_,rfl,_,rfl,D,_,(m:Int),.int (dp (rows.take i) m:Nat),rfl,rfl,SqL.of (s3 _ _ jG),qw3 (vA m jC),hq _ _ (Same.refl _) ⟨m,hm,rfl⟩⟩
   ·intro ys H3 s3 k9 jH jK;have ey:ys=(r.map (dp (rows.take i))).map (λn:Nat=>V.int (n:Int)):=by
     refine qi2 (by rw[jH,qc2,Zb,Zb]) λj x hx=>?_;obtain⟨m,hm,rfl⟩:=jK j x hx;rw[Zd,Zd,hm];rfl
    have e2:ys=((r.map (dp (rows.take i))).map (λn:Nat=>(n:Int))).map V.int:=ey.trans (qE0 _);have jS:r.map (dp (rows.take i))≠[]:=λz=>by
     have:=Yr List.length z;rw[Zb,rk.1] at this;cases this
    refine⟨D2,(r.map (dp (rows.take i))).map (λn:Nat=>(n:Int)),rfl,e2▸k9,λz=>jS (WV.mp z),_,_,rfl,rfl,?_⟩;rw[qW1 jS];have kB:=s3 _ _ jG;refine⟨D,_,_,rfl,rfl,kB,?_,?_⟩
    ·rw[qc2,qj3,tl];exact qh4 (by lia)
    ·have nD:∀b o,H b=some o->b≠D:=λb o e=>qa5 e hD;refine⟨λb o e=>by rw[qa6 (nD b o e)];exact s3 _ _ (s2 _ _ e),?_,_,rfl⟩;rw[qa2,qM1 jE];unfold vN;rw[Z0]
     rfl
  ·rintro σ H2 ⟨s2,jG,v2,rfl⟩;refine⟨_,rfl,q H2 D s2 ?_⟩;rw[jJ,YE] at jG;exact jG
end
end Pr
namespace Qf
theorem qH3 {rows:List Row}{e:List Nat}(h:Post rows e):e.length<=rows.length:=by
 have:=h.nd.length_le_of_subset (l₂:=List.range rows.length) λp hp=>Z4.mpr (h.lt p hp);simpa using this
theorem qA1 {rows:List Row}(ok:qc0 rows){d p:Nat}{r:Row}(hp:rows[p]?=some r) (hd:dp rows (p+2)<=d+1):∀(l e:List Nat),(∀q∈l,q∈r)->Post rows e->Post rows (l.foldl (dfs rows d) e)
 |[],_,_,pe=>pe
 |q::l,e,hl,pe=>by
  have hq:=hl q ZC;have jC:=(ok p r hp).2 q hq;have jQ:=(gS_ hp).1;have hdq:dp rows q<=d:=by
   have:=q22 (ZO.mpr ⟨q,hq,rfl⟩:dp rows q∈r.map (dp rows));have e:=qC5 ok hp;lia
  exact qA1 ok hp hd l _ (λz hz=>hl z (Zs _ hz)) (qi0 ok d e q pe (by lia) hdq).1
theorem qj5 {rows:List Row}(ok:qc0 rows){d p:Nat}{r:Row}(hp:rows[p]?=some r) (hd:dp rows (p+2)<=d+1){q:Nat}(hq:q∈r):q<rows.length+2/\dp rows q<=d:=by
 have jC:=(ok p r hp).2 q hq;have jQ:=(gS_ hp).1;have:=q22 (ZO.mpr ⟨q,hq,rfl⟩:dp rows q∈r.map (dp rows));have e:=qC5 ok hp;exact⟨by lia,by lia⟩
theorem qE1 {rows:List Row}(ok:qc0 rows){x:Nat}(hx:x<rows.length+2) (h:dp rows x<=0):x<2:=by
 by_cases z:x<2
 ·exact z
 ·exfalso;have hp:x-2<rows.length:=by lia
  have:=qC5 ok (qg5 hp);rw[show x-2+2=x by lia] at this;lia
end Qf
namespace Pr
open PySem L2 Qf
theorem qd2 {n:Nat}(h:n<=1191000):n<sizeLine:=Wj h (by decide)
def But (e:Addr) (H H':Hp):Prop:=∀b o,H b=some o->b≠e->H' b=some o
theorem But.refl (e:Addr) (H:Hp):But e H H:=λ_ _ h _=>h
theorem But.trans {e:Addr}{H H1 H2:Hp}(a:But e H H1) (b:But e H1 H2):But e H H2:=λc o h n=>b c o (a c o h n) n
theorem But.upd {e:Addr}{H:Hp}{o:HO}:But e H (upd H e o):=λb u h n=>by rw[qa6 n];exact h
theorem But.of {e:Addr}{H H':Hp}(h:Same H H'):But e H H':=λb o q _=>h b o q
theorem But.tups {e:Addr}{H H':Hp}(h:But e H H'){o:HO}(he:H e=some o) (no:∀u,o≠.tup u):Tups H H':=λb u q=>h b _ q λz=>by
 subst z;rw[q] at he;exact no u (ZD he).symm
def eK (es:List Nat):List (Key×V):=es.map λp:Nat=>(Sum.inl (p:Int),V.bl true)
theorem xr6 (es:List Nat) (p:Nat):(valV (eK es) (Sum.inl (p:Int))).isSome=decide (p∈es):=by
 rw[<- qj2];unfold eK;rw[List.any_map];by_cases h:p∈es
 ·rw[Zi h,Vd];exact⟨p,h,by simp⟩
 ·rw[Zk h,List.any_eq_false];intro q hq;simp only[Function.comp,WB];intro z;have:(q:Int)=p:=Wl z;exact h (by rw[<- Y6 this];exact hq)
theorem xE2 {es:List Nat}{p:Nat}(h:p∉es):putK (eK es) (Sum.inl (p:Int)) (.bl true)=eK (es++[p]):=by
 unfold putK;have:=xr6 es p;rw[<- qj2,Zk h] at this;rw[Zo (by rw[this];decide)];unfold eK;rw[Z0];rfl
section
variable {P:Program}{w:World}{K:PySem.W.Frag}{mg:Str->Option Value}{base:Heap}
theorem scEnd:FnScope ["rows", "number", "ended", "quarter"] ["rows", "number", "ended"] (qa4 sEnd):=qe9
def xE3 (d:Nat):Sp:=λvs H Q _=>∃(p e:Addr) (x:Nat) (rows:List Row) (es:List Nat),vs=[.ref p,.int (x:Nat),.ref e]/\RowsS H p rows/\qc0 rows/\rows.length<=1190900/\x<rows.length+2/\dp rows x<=d/\Post rows es /\
 H e=some (.dK (eK es))/\∀H',But e H H'->H' e=some (.dK (eK (dfs rows d es x)))->Q .non H'
theorem xE4 {f:Addr}{fd:FuncData}(F:Fun K "end_rows" "end_rows" sEnd f fd) (T:Cst mg) (hE:mg "end_rows" = some (.ref f)) (bE:Binds K fd ["rows", "number", "ended"] []):∀d,FnOk P w K mg base CX0 (d+1) f fd ["rows", "number", "ended"] (xE3 d):=by
 obtain⟨tf,hf⟩:=T.first;intro d
 induction d with
 |zero=>
  refine F.ok scEnd (λvs H Q E h=>?_) (λcdv A outer s H vs Q E hr h=>?_)
  ·obtain⟨p,e,x,rows,es,rfl,_⟩:=h
   rfl
  ·obtain⟨p,e,x,rows,es,rfl,hR,ok,hn,hx,hd,pe,he,q⟩:=h;have hu:A.units+3+1<cLine:=by have:=hr.un;exact Wj (Vc _ _) (show A.units+3+1+199<cLine from by simpa using this)
   have x2:=qE1 ok hx hd;refine⟨_,qc1 (qf3 (qk9 (qc4 qC1 (pv 1) (qc3 (v:=.int 2) (by rfl) hf ⟨_,rfl⟩) (qc6 _)) (qj0 (qT8 (xr0 hu (qb8 qv8 (pv 1) (qc3 (v:=.int 2) (by rfl) hf ⟨_,rfl⟩)) (pv 2))))).pt (qa8 q55) qb5) qf8,?_⟩;refine⟨_,rfl,_,_,rfl,rfl,_,rfl,?_⟩;rw[Zi (show (x:Int)<2 by lia)];exact iteT (iteT (q H (But.refl e H) he))
 |succ d ih=>
  refine F.ok scEnd (λvs H Q E h=>?_) (λcdv A outer s H vs Q E hr h=>?_)
  ·obtain⟨p,e,x,rows,es,rfl,_⟩:=h
   rfl
  ·obtain⟨p,e,x,rows,es,rfl,hR,ok,hn,hx,hd,pe,he,q⟩:=h;have hu:A.units+3+1<cLine:=by have:=hr.un;exact Wj (Vc _ (16*(d+1)+199)) (show A.units+3+1+(16*(d+1)+199)<cLine from by
    have h2:A.units+3+16*(d+1)+200<cLine:=this;lia)
   refine⟨_,qc1 (qf3 (qk9 (qc4 qC1 (pv 1) (qc3 (v:=.int 2) (by rfl) hf ⟨_,rfl⟩) (qc6 _)) (qj0 (qT8 (xr0 hu (qb8 qv8 (pv 1) (qc3 (v:=.int 2) (by rfl) hf ⟨_,rfl⟩)) (pv 2))))).pt (qa8 q55) qb5)
    (qc1 (ql5 Yb rfl (qj9 (pxN (ixS K rfl) (pv 0) (qb8 qv8 (pv 1) (qc3 (v:=.int 2) (by rfl) hf ⟨_,rfl⟩)))) (pgN 3 scEnd.nd)
     (qa8 (qd3 (pcN ih hr hE F.kp bE (qa0 (pv 0) (qa0 (pv 3) (qa0 (pv 2) qa1)))))))
    (qa8 (qF4 hu (pv 2) (qb8 qv8 (pv 1) (qc3 (v:=.int 2) (by rfl) hf ⟨_,rfl⟩)) qj1 (by rfl)))),?_⟩
   refine⟨_,rfl,_,_,rfl,rfl,_,rfl,?_⟩;unfold dfs at q;refine ite2 (λhc=>?_) (λhc=>?_)
   ·have x2:x<2:=by have:=ZU hc;lia
    rw[Zr (.inl x2)] at q;exact iteT (q H (But.refl e H) he)
   ·have x2:¬x<2:=λz=>hc (Zi (by lia));have ex:(x:Int)-2=((x-2:Nat):Int):=by lia
    have dg:DGet H e (.int ((x:Int)-2)) (valV (eK es) (Sum.inl ((x-2:Nat):Int))):=by rw[ex];exact DGet.k (k:=Sum.inl ((x-2:Nat):Int)) he
    refine⟨_,rfl,_,_,rfl,rfl,_,rfl,e,_,rfl,dg,_,rfl,?_⟩;rw[xr6];refine ite2 (λhm=>?_) (λhm=>?_)
    ·rw[Zr (.inr (ZU hm))] at q;exact q H (But.refl e H) he
    ·have hnm:x-2∉es:=λz=>hm (Zi z);rw[Zo (by rintro (z|z);exact x2 z;exact hnm z)] at q;have jC:x-2<rows.length:=by lia
     have hg:=qg5 jC;generalize rows.getD (x-2) []=r at q hg;obtain⟨bs,hp,j9,jA⟩:=id hR;have hdx:dp rows (x-2+2)<=d+1:=by rw[show x-2+2=x by lia];exact hd
     have hbx:bs[x-2]?=some (bs[x-2]'(by lia)):=by simp[show x-2<bs.length by lia]
     have jV:=jA (x-2) _ r hbx hg;have nbe:∀b∈bs,b≠e:=λb hb z=>by
      obtain⟨j,hj,ej⟩:=ZV.mp hb;have:=jA j b (rows[j]'(by lia)) (by rw[Zf hj,ej]) (Zf (by lia));rw[z,he] at this;cases this
     have npe:p≠e:=λz=>by
      rw[z,he] at hp;rcases hp with hp|hp<;>cases hp
     have hRm:∀H2,But e H H2->RowsS H2 p rows:=λH2 s2=>⟨bs,hp.imp (λh=>s2 _ _ h npe) (λh=>s2 _ _ h npe),j9,λi b r e1 e2=>s2 _ _ (jA i b r e1 e2) (nbe b (Zx e1))⟩;have ixx:∀Q':VK,Q' (.ref (bs[x-2]'(by lia))) H->rIxS K (.ref p) (.int ((x:Int)-2)) H Q':=λQ' hQ=>by
      rcases hp with h|h
      ·exact .inr ⟨p,_,((x-2:Nat):Int),.ref (bs[x-2]'(by lia)),rfl,Yr V.int ex,SqT.of h,qe3 (by rw[Zd,hbx];rfl),hQ⟩
      ·exact .inl ⟨p,_,((x-2:Nat):Int),.ref (bs[x-2]'(by lia)),rfl,Yr V.int ex,SqL.of h,qe3 (by rw[Zd,hbx];rfl),hQ⟩
     refine⟨_,rfl,_,rfl,_,_,rfl,rfl,ixx _ ⟨_,rfl,⟨_,SqT.of jV⟩,
      qq0 (K:=K) (xs:=vN r) (λi σ H2=>But e H H2/\H2 e=some (.dK (eK ((r.take i).foldl (dfs rows d) es)))/\∃v3,σ=[some (.ref p),some (.int (x:Nat)),some (.ref e),v3])
      ⟨But.refl e H,he,none,rfl⟩ (λi σ H2 _ ⟨s2,_⟩=>SqT.of (s2.tups he (λu z=>by cases z) _ _ jV)) ?_ ?_⟩⟩
     ·rintro i y σ H2 hy ⟨s2,kX,v3,rfl⟩;obtain⟨m,hm,rfl⟩:=ql8 hy;have hq:=Zx hm;obtain⟨b1,b2⟩:=qj5 ok hg hdx hq;refine⟨_,rfl,_,rfl,_,rfl,p,e,m,rows,(r.take i).foldl (dfs rows d) es,rfl,hRm H2 s2,ok,hn,b1,b2,qA1 ok hg hdx _ es (λz hz=>List.mem_of_mem_take hz) pe,kX,λH3 s3 he3=>⟨s2.trans s3,?_,_,rfl⟩⟩;have hml:=(gS_ hm).1;have hme:=(gS_ hm).2;rw[<- YT hml,List.foldl_append,hme];exact he3
     ·rintro σ H2 ⟨s2,kX,v3,rfl⟩;rw[qc2,YE] at kX;have pf:=qA1 ok hg hdx r es (λz hz=>hz) pe;have fin:=(qi0 ok (d+1) es x pe hx hd).1;unfold dfs at fin;rw[Zo (by rintro (z|z);exact x2 z;exact hnm z)] at fin;have eg:rows.getD (x-2) []=r:=by
       rw[ZG,hg];rfl
      rw[eg] at fin;have hni:x-2∉r.foldl (dfs rows d) es:=λz=>by
       have:=(XG.mp fin.nd).2.2 (x-2) z (x-2) (by simp);exact this rfl
      have dq:DPut H2 e (.int ((x:Int)-2)) (.bl true) (upd H2 e (.dK (eK (r.foldl (dfs rows d) es++[x-2])))):=by
       rw[ex,<- xE2 hni];refine DPut.k (k:=Sum.inl ((x-2:Nat):Int)) kX ?_;unfold eK;rw[Zb];exact qd2 (by have:=qH3 pf;lia)
      exact⟨_,rfl,_,rfl,_,_,rfl,rfl,e,_,rfl,dq,q _ (s2.trans But.upd) qa2⟩
theorem scPlaces:FnScope ["rows", "top", "ended"] ["rows", "top"] (qa4 qG4):=qe9
def qH4 (d:Nat):Sp:=λvs H Q _=>∃(p:Addr) (x:Nat) (rows:List Row),vs=[.ref p,.int (x:Nat)]/\RowsS H p rows/\qc0 rows/\rows.length<=1190900/\x<rows.length+2/\dp rows x<=d /\
 ∀H' D,Same H H'->H' D=some (.lst (vN (dfs rows d [] x)))->Q (.ref D) H'
theorem qM3 {f fE:Addr}{fd fdE:FuncData}(F:Fun K "places_as_ended" "places_as_ended" qG4 f fd) (B:Blt mg) (T:Cst mg) (hE:mg "end_rows" = some (.ref fE)) (FE:Fun K "end_rows" "end_rows" sEnd fE fdE) (bE:Binds K fdE ["rows", "number", "ended"] []) (d:Nat):FnOk P w K mg base CX0 (d+2) f fd ["rows", "top"] (qH4 d):=by
 have GE:FnOk P w K mg base CX0 (d+1) fE fdE ["rows", "number", "ended"] (xE3 d):=xE4 FE T hE bE d;refine F.ok scPlaces (λvs H Q E h=>?_) (λcdv A outer s H vs Q E hr h=>?_)
 ·obtain⟨p,x,rows,rfl,_⟩:=h
  rfl
 ·obtain⟨p,x,rows,rfl,hR,ok,hn,hx,hd,q⟩:=h;refine⟨_,qc1 (psN 2 scPlaces.nd qG2)
   (qc1 (qd3 (pcN GE hr hE FE.kp bE (qa0 (pv 0) (qa0 (pv 1) (qa0 (pv 2) qa1)))))
   (qa8 (qb0 (qd5 (q20 rfl) (by rfl) B.list Y5 (qa0 (pv 2) qa1))))),?_⟩
  refine λe he=>⟨_,rfl,_,rfl,_,rfl,p,e,x,rows,[],rfl,hR.same (qb2 he),ok,hn,hx,hd,qo9 rows,qa2,λH2 s2 kX=>?_⟩;refine⟨_,rfl,e,_,rfl,kX,λl hl=>q _ l ?_ ?_⟩
  ·intro b o z;have nb:b≠e:=qa5 z he;exact qc5 (s2 b o (qc5 z he) nb) hl
  ·rw[qa2];unfold eK vN;rw[Yp]
   rfl
end
def TellAt (H:Hp) (t:Addr) (n top:Nat) (rows:List Row):Prop:=∃p:Addr,H t=some (.tup [.int (n:Nat),.int (top:Nat),.ref p])/\RowsAt H p rows
theorem TellAt.mono {H H':Hp}{t:Addr}{n top:Nat}{rows:List Row}(h:TellAt H t n top rows) (s:Tups H H'):TellAt H' t n top rows:=by
 obtain⟨p,h1,h2⟩:=h;exact⟨p,s _ _ h1,h2.mono s⟩
theorem xa8 {ys:List V}(h:∀(i:Nat) y,ys[i]?=some y->y=.bl true):ys=(List.replicate ys.length true).map V.bl:=by
 refine qi2 (by simp) λi x hx=>?_;have hi:=(gS_ hx).1;rw[h i x hx];simp[hi]
theorem qR6 (k:Nat):(List.replicate k true).all id=true:=by
 rw[Z6];intro x hx;exact (List.mem_replicate.mp hx).2
section
variable {P:Program}{w:World}{K:PySem.W.Frag}{mg:Str->Option Value}{base:Heap}
theorem scRow:FnScope ["thing", "before"] ["thing", "before"] (qa4 sRow):=qe9
def xE5:Sp:=λvs H Q _=>∃(b:Addr) (i:Nat) (r:Row),vs=[.ref b,.int (i:Nat)]/\H b=some (.tup (vN r))/\qL5 i r/\∀H',Same H H'->Q (.bl true) H'
theorem xE6 {f fN:Addr}{fd fdN:FuncData}(F:Fun K "is_row" "is_row" sRow f fd) (B:Blt mg) (hN:mg "is_number" = some (.ref fN)) (FN:Fun K "is_number" "is_number" qm8 fN fdN) (bN:Binds K fdN ["thing", "many"] []) (GN:FnOk P w K mg base CX0 2 fN fdN ["thing", "many"] qx5):FnOk P w K mg base CX0 3 f fd ["thing", "before"] xE5:=by
 refine F.ok scRow (λvs H Q E h=>?_) (λcdv A outer s H vs Q E hr h=>?_)
 ·obtain⟨b,i,r,rfl,_⟩:=h
  rfl
 ·obtain⟨b,i,r,rfl,hb,rk,q⟩:=h;refine⟨_,qc1 (qf3 (qk9 (qe7 (qe1 (qa7 qd7 (by rfl) B.isi Zt (qa0 (pv 0) (qa0 (qg4 (v:=.ty "tuple") (by rfl) B.tuple ZE rfl) qa1)))))
    (qj0 (qc4 qw6 (qa7 qa9 (by rfl) B.len ZJ (qa0 (pv 0) qa1)) qa3 (qc6 _)))).pt (qa8 (qb0 qj1)) qb5)
   (qa8 (qb0 (qa7 (ql7 rfl) (by rfl) B.all YO (qa0 (qf5 ["thing", "before"] (qa4 sRow) rfl rfl rfl scRow.nd (piT K rfl (pv 0)) (λcl C fp s₀ H₀=>pcN GN hr hN FN.kp bN (qa0 (pv 0) (qa0 (pv 2) qa1)))) qa1)))),?_⟩
  refine⟨_,rfl,_,_,_,_,true,rfl,rfl,.inl (.tup hb),rfl,_,rfl,iteF ⟨_,rfl,b,_,rfl,.inr (SqT.of hb),rfl,_,rfl,xv1 (by rw[qc2,rk.1];rfl) ?_⟩⟩;refine⟨_,rfl,b,rfl,⟨_,SqT.of hb⟩,λD hD=>qe6 hD (λ_ z _=>z=.bl true) (qi1 (K:=K) hb) (by rw[qc2,rk.1];decide) (λ_ _ _ _ _ _ h=>h) ?_ ?_⟩
  ·intro j x H3 hj hx s3 Q' hq;obtain⟨m,hm,rfl⟩:=ql8 hx;exact⟨_,rfl,_,rfl,m,i,rfl,rk.2 m (Zx hm),hq _ _ (Same.refl _) rfl⟩
  ·intro ys H3 s3 k9 jH jK;have e:=xa8 jK;refine⟨D,List.replicate ys.length true,rfl,by rw[<- e];exact k9,?_⟩;rw[qR6];exact q H3 s3
theorem scRows:FnScope ["thing"] ["thing"] (qa4 qG7):=qe9
def xa9:Sp:=λvs H Q _=>∃(p:Addr) (rows:List Row),vs=[.ref p]/\RowsAt H p rows/\qc0 rows/\rows.length<=900/\∀H',Same H H'->Q (.bl true) H'
theorem xw8 {f fR:Addr}{fd fdR:FuncData}(F:Fun K "are_rows" "are_rows" qG7 f fd) (B:Blt mg) (hR:mg "is_row" = some (.ref fR)) (FR:Fun K "is_row" "is_row" sRow fR fdR) (bR:Binds K fdR ["thing", "before"] []) (GR:FnOk P w K mg base CX0 3 fR fdR ["thing", "before"] xE5):FnOk P w K mg base CX0 4 f fd ["thing"] xa9:=by
 refine F.ok scRows (λvs H Q E h=>?_) (λcdv A outer s H vs Q E hr h=>?_)
 ·obtain⟨p,rows,rfl,_⟩:=h
  rfl
 ·obtain⟨p,rows,rfl,jP,ok,hn,q⟩:=h;obtain⟨bs,hp,j9,jA⟩:=id jP;refine⟨_,qa8 (qb0 (qr2 (qa7 qd7 (by rfl) B.isi Zt (qa0 (pv 0) (qa0 (qg4 (v:=.ty "tuple") (by rfl) B.tuple ZE rfl) qa1)))
   (qr1 (qa7 (ql7 rfl) (by rfl) B.all YO (qa0 (qU9 ["thing"] (qa4 qG7) rfl rfl rfl scRows.nd (qr7 (by rfl) B.enum (qa0 (pv 0) qa1)) (λcl C fp s₀ H₀=>pcN GR hr hR FR.kp bR (qa0 (pv 1) (qa0 (pv 0) qa1)))) qa1))))),?_⟩
  refine⟨_,rfl,_,_,_,_,true,rfl,rfl,.inl (.tup hp),rfl,_,rfl,iteT ?_⟩;have jJ:(bs.map V.ref).length=rows.length:=by rw[Zb];exact j9
  refine⟨_,rfl,p,rfl,⟨_,SqT.of hp⟩,λD hD=>qu5 hD (λ_=>true) (λ_=>.bl true) (qz8 (K:=K) hp) (by rw[jJ];exact qh4 (by lia)) ?_ ?_⟩
  ·rintro i x H2 hi ⟨t,y,rfl,hy,ht⟩ s2 os ho Q1 Q2 q1 q2
   match os,ho with
   |[o1,o2],_=>
    have v0:i<rows.length:=by rw[<- jJ];exact hi
    rw[Zd] at hy;obtain⟨b,hb,rfl⟩:=Zw.mp hy;have jE:rows[i]?=some rows[i]:=by simp[v0]
    refine⟨t,_,rfl,SqT.of ht,rfl,_,_,rfl,_,_,rfl,rfl,?_⟩;refine iteT (B:=Q1 H2) ?_;exact⟨_,rfl,_,rfl,b,i,rows[i],rfl,s2 _ _ (jA i b _ hb jE),ok i _ jE,λH3 s3=>q2 rfl H3 s3⟩
  ·intro H2 s2 jG;refine⟨D,List.replicate (bs.map V.ref).length true,rfl,?_,?_⟩
   ·rw[jG];congr 2;rw[List.map_replicate,List.filter_eq_self.mpr (λ_ _=>rfl)];refine qi2 (by simp) λi x hx=>?_;have hi:=(gS_ hx).1;rw[Zd] at hx;obtain⟨_,_,rfl⟩:=Zw.mp hx;simp at hi;rw[Zb,Xo,Zr hi]
   ·rw[qR6];exact q H2 s2
theorem scTelling:FnScope ["thing", "n", "top", "rows"] ["thing"] (qa4 qm9):=qe9
def qM4:Sp:=λvs H Q _=>∃(t:Addr) (n tp:Nat) (rows:List Row),vs=[.ref t]/\TellAt H t n tp rows/\n<=12/\qc0 rows/\rows.length<=900/\tp<rows.length+2/\dp rows tp<=n/\∀H',Same H H'->Q (.bl true) H'
theorem q27 {f fS fR fN fD:Addr}{fd fdS fdR fdN fdD:FuncData}(F:Fun K "is_telling" "is_telling" qm9 f fd) (B:Blt mg)
  (hS:mg "is_size" = some (.ref fS)) (FS:Fun K "is_size" "is_size" qR2 fS fdS) (bS:Binds K fdS ["thing"] []) (GS:FnOk P w K mg base CX0 2 fS fdS ["thing"] xa5)
  (hR:mg "are_rows" = some (.ref fR)) (FR:Fun K "are_rows" "are_rows" qG7 fR fdR) (bR:Binds K fdR ["thing"] []) (GR:FnOk P w K mg base CX0 4 fR fdR ["thing"] xa9)
  (hN:mg "is_number" = some (.ref fN)) (FN:Fun K "is_number" "is_number" qm8 fN fdN) (bN:Binds K fdN ["thing", "many"] []) (GN:FnOk P w K mg base CX0 2 fN fdN ["thing", "many"] qx5)
  (hD:mg "depths_of" = some (.ref fD)) (FD:Fun K "depths_of" "depths_of" qR1 fD fdD) (bD:Binds K fdD ["rows"] []):FnOk P w K mg base CX0 5 f fd ["thing"] qM4:=by
 have GD:FnOk P w K mg base CX0 1 fD fdD ["rows"] qW2:=qR5 FD B;refine F.ok scTelling (λvs H Q E h=>?_) (λcdv A outer s H vs Q E hr h=>?_)
 ·obtain⟨t,n,tp,rows,rfl,_⟩:=h
  rfl
 ·obtain⟨t,n,tp,rows,rfl,⟨p,ht,jP⟩,hn,ok,hl,jW,hd,q⟩:=h;have jE:Room 1 _:=hr.mono (by decide);have kC:Room 2 _:=hr.mono (by decide);refine⟨_,qc1 (qf3 (qk9 (qe7 (qe1 (qa7 qd7 (by rfl) B.isi Zt (qa0 (pv 0) (qa0 (qg4 (v:=.ty "tuple") (by rfl) B.tuple ZE rfl) qa1)))))
    (qj0 (qc4 qw6 (qa7 qa9 (by rfl) B.len ZJ (qa0 (pv 0) qa1)) qa3 (qc6 _)))).pt (qa8 (qb0 qj1)) qb5)
   (qc1 (qp7 (pv 0) (qn7 rfl (qb6 (pgN 1 scTelling.nd) (qb6 (pgN 2 scTelling.nd) (qb6 (pgN 3 scTelling.nd) qj8)))))
   (qc1 (qf3 (qk9 (qe7 (qe1 (pcN GS kC hS FS.kp bS (qa0 (pv 1) qa1))))
    (qk9 (qe7 (qe1 (pcN GR hr hR FR.kp bR (qa0 (pv 3) qa1))))
    (qj0 (qe7 (qe1 (pcN GN kC hN FN.kp bN (qa0 (pv 2) (qa0 (qa7 qa9 (by rfl) B.len ZJ (qa0 (pv 3) qa1)) qa1)))))))).pt (qa8 (qb0 qj1)) qb5)
   (qa8 (qb0 (qm5 qC2 (pxN qe4 (pcN GD jE hD FD.kp bD (qa0 (pv 3) qa1)) (pv 2)) (pv 1) (qc6 _)))))),?_⟩
  refine⟨_,rfl,_,_,_,_,true,rfl,rfl,.inl (.tup ht),rfl,_,rfl,iteF ⟨_,rfl,t,_,rfl,.inr (SqT.of ht),rfl,_,rfl,iteF ?_⟩⟩;refine⟨_,rfl,t,_,rfl,SqT.of ht,rfl,_,_,rfl,_,_,rfl,_,_,rfl,rfl,?_⟩;refine⟨_,rfl,n,rfl,hn,_,rfl,iteF ⟨_,rfl,p,rows,rfl,jP,ok,hl,λH2 s2=>⟨_,rfl,iteF ?_⟩⟩⟩;obtain⟨bs,hp,j9,jA⟩:=id jP;refine⟨_,rfl,_,rfl,p,_,rfl,.inr (SqT.of (s2 _ _ hp)),tp,rows.length,by rw[Zb,j9];rfl,jW,_,rfl,iteF ?_⟩;refine⟨_,rfl,p,rows,rfl,jP.same s2,ok,hl,λH3 D s3 k9=>?_⟩;refine⟨_,rfl,D,_,(tp:Int),.int (dp rows tp:Nat),rfl,rfl,SqL.of k9,qw3 (qM2 jW),_,rfl,_,_,rfl,rfl,?_⟩;show Q (V.bl (decide ((dp rows tp:Int)<=(n:Int)))) H3;rw[Zi (by lia)];exact q H3 (s2.trans s3)
end
def keyN (r:List Nat):List Key:=r.map λn:Nat=>Sum.inl (n:Int)
theorem qM5 (r:List Nat):(keyN r).map kV=vN r:=by unfold keyN vN;rw[Yp];rfl
theorem qx6 {l m:List Nat}(h:keyN l=keyN m):l=m:=by
 have:vN l=vN m:=by rw[<- qM5,<- qM5,h]
 rw[qE0,qE0] at this;exact qA0 ((Xw (λ_ _ z=>V.int.inj z)).mp this)
theorem qE2 (ns:List Int):PyData.depthAll (ns.map PyData.int)<=1:=by
 induction ns with
 |nil=>simp[PyData.depthAll]
 |cons a ns ih=>
  rw[ZH];simp only[PyData.depthAll,PyData.depth];lia
theorem qW3 (ns:List Int):(dT ns).depth<=2:=by
 have:=qE2 ns;unfold dT;simp only[PyData.depth];lia
section
variable {P:Program}{w:World}{K:PySem.W.Frag}{mg:Str->Option Value}{base:Heap}
def qu6:Sp:=λvs H Q _=>∃(t:Addr) (n tp:Nat) (rows:List Row),vs=[.ref t]/\TellAt H t n tp rows/\n<=12/\qc0 rows/\rows.length<=900/\tp<rows.length+2/\∀H',Same H H'->Q (.bl (decide (dp rows tp<=n))) H'
theorem qR7 {f fS fR fN fD:Addr}{fd fdS fdR fdN fdD:FuncData}(F:Fun K "is_telling" "is_telling" qm9 f fd) (B:Blt mg)
  (hS:mg "is_size" = some (.ref fS)) (FS:Fun K "is_size" "is_size" qR2 fS fdS) (bS:Binds K fdS ["thing"] []) (GS:FnOk P w K mg base CX0 2 fS fdS ["thing"] xa5)
  (hR:mg "are_rows" = some (.ref fR)) (FR:Fun K "are_rows" "are_rows" qG7 fR fdR) (bR:Binds K fdR ["thing"] []) (GR:FnOk P w K mg base CX0 4 fR fdR ["thing"] xa9)
  (hN:mg "is_number" = some (.ref fN)) (FN:Fun K "is_number" "is_number" qm8 fN fdN) (bN:Binds K fdN ["thing", "many"] []) (GN:FnOk P w K mg base CX0 2 fN fdN ["thing", "many"] qx5)
  (hD:mg "depths_of" = some (.ref fD)) (FD:Fun K "depths_of" "depths_of" qR1 fD fdD) (bD:Binds K fdD ["rows"] []):FnOk P w K mg base CX0 5 f fd ["thing"] qu6:=by
 have GD:FnOk P w K mg base CX0 1 fD fdD ["rows"] qW2:=qR5 FD B;refine F.ok scTelling (λvs H Q E h=>?_) (λcdv A outer s H vs Q E hr h=>?_)
 ·obtain⟨t,n,tp,rows,rfl,_⟩:=h
  rfl
 ·obtain⟨t,n,tp,rows,rfl,⟨p,ht,jP⟩,hn,ok,hl,jW,q⟩:=h;have jE:Room 1 _:=hr.mono (by decide);have kC:Room 2 _:=hr.mono (by decide);refine⟨_,qc1 (qf3 (qk9 (qe7 (qe1 (qa7 qd7 (by rfl) B.isi Zt (qa0 (pv 0) (qa0 (qg4 (v:=.ty "tuple") (by rfl) B.tuple ZE rfl) qa1)))))
    (qj0 (qc4 qw6 (qa7 qa9 (by rfl) B.len ZJ (qa0 (pv 0) qa1)) qa3 (qc6 _)))).pt (qa8 (qb0 qj1)) qb5)
   (qc1 (qp7 (pv 0) (qn7 rfl (qb6 (pgN 1 scTelling.nd) (qb6 (pgN 2 scTelling.nd) (qb6 (pgN 3 scTelling.nd) qj8)))))
   (qc1 (qf3 (qk9 (qe7 (qe1 (pcN GS kC hS FS.kp bS (qa0 (pv 1) qa1))))
    (qk9 (qe7 (qe1 (pcN GR hr hR FR.kp bR (qa0 (pv 3) qa1))))
    (qj0 (qe7 (qe1 (pcN GN kC hN FN.kp bN (qa0 (pv 2) (qa0 (qa7 qa9 (by rfl) B.len ZJ (qa0 (pv 3) qa1)) qa1)))))))).pt (qa8 (qb0 qj1)) qb5)
   (qa8 (qb0 (qm5 qC2 (pxN qe4 (pcN GD jE hD FD.kp bD (qa0 (pv 3) qa1)) (pv 2)) (pv 1) (qc6 _)))))),?_⟩
  refine⟨_,rfl,_,_,_,_,true,rfl,rfl,.inl (.tup ht),rfl,_,rfl,iteF ⟨_,rfl,t,_,rfl,.inr (SqT.of ht),rfl,_,rfl,iteF ?_⟩⟩;refine⟨_,rfl,t,_,rfl,SqT.of ht,rfl,_,_,rfl,_,_,rfl,_,_,rfl,rfl,?_⟩;refine⟨_,rfl,n,rfl,hn,_,rfl,iteF ⟨_,rfl,p,rows,rfl,jP,ok,hl,λH2 s2=>⟨_,rfl,iteF ?_⟩⟩⟩;obtain⟨bs,hp,j9,jA⟩:=id jP;refine⟨_,rfl,_,rfl,p,_,rfl,.inr (SqT.of (s2 _ _ hp)),tp,rows.length,by rw[Zb,j9];rfl,jW,_,rfl,iteF ?_⟩;refine⟨_,rfl,p,rows,rfl,jP.same s2,ok,hl,λH3 D s3 k9=>?_⟩;refine⟨_,rfl,D,_,(tp:Int),.int (dp rows tp:Nat),rfl,rfl,SqL.of k9,qw3 (qM2 jW),_,rfl,_,_,rfl,rfl,?_⟩;show Q (V.bl (decide ((dp rows tp:Int)<=(n:Int)))) H3;have e:decide ((dp rows tp:Int)<=(n:Int))=decide (dp rows tp<=n):=by
   by_cases z:dp rows tp<=n
   ·rw[Zi z,Zi (by lia)]
   ·rw[Zk z,Zk (by lia)]
  rw[e];exact q H3 (s2.trans s3)
end
end Pr
namespace L2
open PySem PySem.Spec PyProof.Rows
section
variable {prog:Program}{w:World}{κ:Type}[DecidableEq κ]{hk:HeapKind prog w κ}{A:Around}{E:Value->Shared->Prop}{s:Shared}{d a:Addr}{k:κ}{xs:List (κ×Addr×Value)}
theorem qR8 {y:Value}{Q:Value->Shared->Prop}(room:hk.room A) (isK:hk.is s.heap k a) (dict:s.heap.DictOfH hk d xs) (small:xs.length<=sizeLine)
  (old:∀v,(atKey xs k).map (·.2)=some v->Q v { s with toks:=s.toks+hk.draws k })
  (new:(atKey xs k).map (·.2)=none->∀h',h'.DictOfH hk d (storedH xs k a y)->Heap.SameBut d s.heap h'->Q y { s with heap:=h',toks:=s.toks+hk.draws k }) :
  wpAny (model prog w) A (dictSetDefault d (.ref a) y) Q E s:=by
 obtain⟨ob,tab,epo,at_,exa,dat,ent,are,uni⟩:=dict;show wpAny _ _ (holding [.ref a,y] _) _ _ _;refine YR (Za (hk.pyHash room isK (Za (wpAny_dictFind_heap (s:={ s with toks:=s.toks+hk.draws k }) room isK at_ dat ent are uni (λnone_=>?_) (λj q found=>?_)))))
 ·have abs:=atKey_none_of_get none_;refine Za (Y1 (Za (wpAny_updateDictKeys (hz:=by have:=size_of_entries ent;lia) (s:={ s with toks:=s.toks+hk.draws k }) at_ dat (Zm (new (by rw[abs];rfl) _ ⟨_,_,epo+1,
   YL _ at_ (Obj.isFreed_of_dict (Obj.data_mapDictKeys dat _)),exa.mapDictKeys _,Obj.data_mapDictKeys dat _,?_,?_,?_⟩ (Xl ..))))))
  ·rw[storedH_new abs];simp[ent,entryOfKey]
  ·rw[storedH_new abs];intro z hz;rcases Z2.mp hz with hz|hz
   ·exact hk.keeps (are z hz) at_ dat (Xl ..)
   ·have:z=(k,a,y):=by simpa using hz
    subst this;exact hk.keeps isK at_ dat (Xl ..)
  ·rw[storedH_new abs,Z0,XG];exact⟨uni,by simp,λp hp q hq e=>not_mem_keys_of_get none_ (by
    have:q=k:=by simpa using hq
    rw[<- this,<- e];exact hp)⟩
 ·have pre:=atKey_of_get uni found;refine Za (wpAny_dictEntries (s:={ s with toks:=s.toks+hk.draws k }) at_ dat ?_);rw[entry_at ent j,found];exact Za (Y1 (Zm (old q.2 (by rw[pre];rfl))))
end
section
variable {X:Cx}
def xw9:V->List V->Hp->VK->Prop:=λx xs H Q=>∃(d b:Addr) (kvs:List (List Key×V)) (k:List Key) (y:V),x=.ref d/\xs=[.ref b,y]/\H d=some (.dT kvs)/\H b=some (.tup (k.map kV))/\kvs.length<sizeLine /\
 (∀v,valV kvs k=some v->Q v H)/\(valV kvs k=none->Q y (upd H d (.dT (putK kvs k y))))
theorem qH5 (hu:X.A.units+1<cLine):MtR X "dict.setdefault" xw9:=by
 intro j8 s σ H x xs v us Q I rx rs h;obtain⟨d,b,kvs,k,y,rfl,rfl,hd,hb,hl,q1,q2⟩:=h;cases (show v=Value.ref d from rx);obtain⟨u1,u2,rfl,r1,r2⟩:∃u1 u2,us=[u1,u2]/\RelV (.ref b) u1/\RelV y u2:=by
  cases rs with
  |cons a1 a2=>cases a2 with
   |cons a3 a4=>cases a4;exact⟨_,_,rfl,a1,a3⟩
 cases (show u1=Value.ref b from r1);obtain⟨z,lo,xs,rel,dd⟩:=xD3 I.hok hd;have hz:xs.length<=sizeLine:=by rw[<- Va rel];exact z
 have M:MeetsIn X.prog X.w (Builtin.«dict.setdefault» ⟨[.ref d,.ref b,u2],[]⟩) (λA R s=>(tupleKind (qd6 X.prog X.w)).room A.in1/\(tupleKind (qd6 X.prog X.w)).is s.heap k b/\s.heap.DictOfH (tupleKind (qd6 X.prog X.w)) d xs /\
   (∀v,(atKey xs k).map (·.2)=some v->R (.ok (.ret v)) { s with toks:=s.toks+(tupleKind (qd6 X.prog X.w)).draws k }) /\
   ((atKey xs k).map (·.2)=none->∀h',h'.DictOfH (tupleKind (qd6 X.prog X.w)) d (storedH xs k b u2)->Heap.SameBut d s.heap h'->R (.ok (.ret u2)) { s with heap:=h',toks:=s.toks+(tupleKind (qd6 X.prog X.w)).draws k })):=
  .of_wp λA R s ⟨g1,g2,g3,g4,g5⟩=>by
   unfold Builtin.«dict.setdefault» Builtin.Dict.keyAndDefault;refine Za (Za (wpAny_notOrdered_dict g3.typeIs (Zm ?_)));show wpAny _ _ (if (d==sysModules)=true then _ else (dictSetDefault d (.ref b) u2 >>= _)) _ _ s;rw[Zo (by rw[lo];decide)];exact Za (qR8 g1 g2 g3 hz (λv hv=>Zm ⟨v,rfl,g4 v hv⟩) λhn h' a1 a2=>Zm ⟨u2,rfl,g5 hn h' a1 a2⟩)
 have val:=rel.val k;refine call_meetsIn WP dd.typeIs PySem.F.entry_dict_setdefault (PySem.F.args_dict_setdefault_3 _ _ _) M ⟨Xs hu,qD4 I.hok hb,dd,λv hv=>?_,λhn h' d' sb=>?_⟩
 ·rw[hv] at val;cases e:valV kvs k with
  |none=>rw[e] at val;exact val.elim
  |some y'=>rw[e] at val;exact⟨y',H,I.tok _,val,q1 y' e⟩
 ·rw[hn] at val;cases e:valV kvs k with
  |some y'=>rw[e] at val;exact val.elim
  |none=>
   have k8:(putK kvs k y).length<=sizeLine:=by have:=qm6 kvs k y;lia
   obtain⟨q,es,ep,hq,h2,h3,h4,_,h5⟩:=d';refine⟨y,_,?_,r2,q2 e⟩;refine qF3 I (by rw[hd];exact True.intro) sb ⟨q,hq⟩ ⟨k8,lo,_,(rel.put k hb r2).keeps λc ys ec=>?_,q,es,ep,hq,h2,h3,h4,h5⟩;rw[qa6 (qp9 ec hd (λz=>nomatch z))];exact ec
end
end L2
namespace L2
open PySem PySem.Spec PyProof.Rows PySem.W
section
variable {prog:Program}{w:World}{A:Around}{E:Value->Shared->Prop}{s:Shared}{d it:Addr}{tab:Array DictEntry}{ep i:Nat}
end
section
variable {X:Cx}
end
section
variable {prog:Program}{w:World}{A:Around}{E:Value->Shared->Prop}{s:Shared}{T:String}{r d:Addr}{n:Nat}{P:Nat->Value->Prop}{OK:Heap->Prop}
end
section
variable {X:Cx}
open Classical in
noncomputable def qR9 (h:Heap) (d:PyData) (w:Value):Bool:=decide (∃(e:PyData) (bs:List Addr),Reads h w e bs/\e.canLay0=true/\PyData.eqv e d=true)
open Classical in
theorem xj6 {h:Heap}{d d':PyData}{w:Value}{bs:List Addr}(rb:Reads h w d' bs) (c:d'.canLay0=true):qR9 h d w=PyData.eqv d' d:=by
 unfold qR9;cases hb:PyData.eqv d' d with
 |true=>exact Zi ⟨d',bs,rb,c,hb⟩
 |false=>
  refine Zk λ⟨e,bs',re,_,he⟩=>?_;have:=SeqAt.Reads.unique d' e w bs bs' c rb re;rw[<- this,hb] at he;cases he
theorem xb0 {j8:List (Addr×Obj)}{s:Shared}{σ:St}{H:Hp}{v:Value}{d:PyData}{as:List Addr}(I:Inv X j8 σ H s) (un:X.A.units+64<cLine) (ra:Reads s.heap v d as) (c1:d.canLay0=true) (dd:d.depth<=50) :
  ∀{xs:List V}{ds:List PyData}{us:List Value},DatasAt H xs ds->Vals xs us->PyData.canLayAll0 ds=true->(∀w∈us,SeqAt.EqAt X.A.in1 s w v (qR9 s.heap d w))/\us.any (qR9 s.heap d)=ds.any λe=>PyData.eqv e d
 |_,_,_,.nil,.nil,_=>⟨λw hw=>(nomatch hw),rfl⟩
 |_,d'::ds',u0::us0,.cons hx hxs,.cons r0 rs,h3=>by
  have h3':d'.canLay0=true/\PyData.canLayAll0 ds'=true:=by simpa [PyData.canLayAll0] using h3
  obtain⟨e1,e2⟩:=xb0 I un ra c1 dd hxs rs h3'.2;obtain⟨bs,rb⟩:=hx.reads I.hok r0;have eb:=xj6 (d:=d) rb h3'.1;refine⟨λw hw=>?_,?_⟩
  ·rcases Zy.mp hw with rfl|hw
   ·rw[eb];exact SeqAt.eqAt_reads d' d X.A.in1 s w v bs as rb ra h3'.1 c1 (by
     have:X.A.in1.units=X.A.units+1:=rfl;lia)
   ·exact e1 w hw
  ·rw[Xj,Xj,eb,e2]
end
end L2
namespace L2
open PySem
theorem xj7 {α:Type}{i1 i2:BEq α}(h1:@LawfulBEq α i1) (h2:@LawfulBEq α i2):i1=i2:=by
 have:∀a b,@BEq.beq α i1 a b=@BEq.beq α i2 a b:=λa b=>by
  rw[YJ,@YG α i1 h1,@YG α i2 h2]
 cases i1;cases i2;congr 1;funext a b;exact this a b
inductive Ars (X:Cx):List Expr->TA->Prop
 |nil:Ars X [] tNil
 |cons {e:Expr}{es:List Expr}{te:TE}{t:TA}(h:PE X e te) (r:Ars X es t) (hs:starEach (e::es) X.env=(false,eval e X.env)::starEach es X.env):Ars X (e::es) (qz0 te t)
theorem Ars.go {X:Cx}:∀{es:List Expr}{t:TA},Ars X es t->PA X es t
 |_,_,.nil=>qa1
 |_,_,.cons h r hs=>qa0 h r.go hs
structure PEb (X:Cx) (e:Expr) (t:TE):Prop where
 go:PE X e t
structure PSb (X:Cx) (st:Stmt) (t:TS):Prop where
 go:PS X st t
inductive StB (X:Cx):List Stmt->TS->Prop
 |one {st:Stmt}{t:TS}(h:PSb X st t):StB X [st] t
 |cons {st:Stmt}{rest:List Stmt}{t u:TS}(h:PSb X st t) (r:StB X rest u):StB X (st::rest) (tSeq t u)
theorem StB.go {X:Cx}:∀{l:List Stmt}{t:TS},StB X l t->PSs X l t
 |_,_,.one h=>qa8 h.go
 |_,_,.cons h r=>qc1 h.go r.go
theorem seqE {X:Cx}{st:Stmt}{rest:List Stmt}{R:TS->Prop}(h:∃t,PSb X st t/\∃u,PSs X rest u/\R (tSeq t u)):∃t,PSs X (st::rest) t/\R t:=by
 obtain⟨t,h1,u,h2,h3⟩:=h;exact⟨_,qc1 h1.go h2,h3⟩
theorem qi4 {X:Cx}{st:Stmt}{R:TS->Prop}(h:∃t,PSb X st t/\R t):∃t,PSs X [st] t/\R t:=by
 obtain⟨t,h1,h3⟩:=h;exact⟨_,qa8 h1.go,h3⟩
inductive Ars2 (X:Cx):List Expr->TA->Prop
 |nil:Ars2 X [] tNil
 |cons {e:Expr}{es:List Expr}{te:TE}{t:TA}(h:PEb X e te) (r:Ars2 X es t) (hs:starEach (e::es) X.env=(false,eval e X.env)::starEach es X.env):Ars2 X (e::es) (qz0 te t)
theorem Ars2.go {X:Cx}:∀{es:List Expr}{t:TA},Ars2 X es t->PA X es t
 |_,_,.nil=>qa1
 |_,_,.cons h r hs=>qa0 h.go r.go hs
theorem qA2 {X:Cx}{T id:String}{name:Str}{r:V->List V->Hp->VK->Prop}{o e:Expr}{es:List Expr}{to:TE}{t:TA}{apos cpos:Pos}(pa:PlainAttrs T) (slot:Slot T name id) (hty:typeOf (.builtin id)=pure (.type "method_descriptor")) (hm:MtR X id r) (ho:PEb X o to) (ha:Ars2 X (e::es) t)
  (hbase:attributeBase o name X.env (eval o X.env)=eval o X.env:=by rfl)
  (hfew:((backTo cpos (starEach (e::es) X.env)).all (λx=>!x.1)&&(backToKw cpos (keywordEach [] X.env)).all (λx=>x.1.isSome)
   && decide ((e::es).length+([]:List Keyword).length+(if ([]:List Keyword).isEmpty then 0 else 1)<30))=true:=by rfl)
  (hline:(apos.endLine==cpos.line)=true:=by rfl) (hs:starEach (e::es) X.env=(false,eval e X.env)::starEach es X.env:=by rfl) (hplain:(backTo cpos (starEach es X.env)).any (·.1)=false:=by rfl) :
  PEb X (.Call (.Attribute o name apos) (e::es) [] cpos) (tBM X.K T r to t):=⟨qC4 pa slot hty hm ho.go ha.go hbase hfew hline hs hplain⟩
inductive Prs (X:Cx) (pos:Pos):List (Option Expr)->List Expr->List (TE×TE)->Prop
 |nil:Prs X pos [] [] []
 |cons {k v:Expr}{ks:List (Option Expr)}{vs:List Expr}{tk tv:TE}{trs:List (TE×TE)}(hk:PEb X k tk) (hv:PEb X v tv) (r:Prs X pos ks vs trs):Prs X pos (some k::ks) (v::vs) ((tk,tv)::trs)
theorem Prs.go {X:Cx}{pos:Pos}:∀{ks:List (Option Expr)}{vs:List Expr}{trs:List (TE×TE)},Prs X pos ks vs trs->PPs X pos ks vs trs
 |_,_,_,.nil=>xv7
 |_,_,_,.cons hk hv r=>xi8 hk.go hv.go r.go
theorem qW4 {X:Cx}{pos:Pos}{keys:List (Option Expr)}{values:List Expr}{trs:List (TE×TE)}(h:Prs X pos keys values trs) (kH:keys.all (·.isSome)=true) (hl:keys.length=values.length) (h0:keys≠[])
  (h15:keys.length<=15):PEb X (.Dict keys values pos) (xD5 trs):=⟨xv8 h.go kH hl h0 h15⟩
theorem qi7 {X:Cx}{i:Nat}{x:Str}{e:Expr}{te:TE}{pos pos':Pos}(hN:X.N.Nodup) (hi:X.N[i]?=some x) (hx:Loc X.env.scope x) (he:PEb X e te) (hs:swapsWith e (some (.Name x pos')) pos.line X.env=pure false) (hf:X.fn x=true) :
  PSb X (.Assign [.Name x pos'] e pos) (tAsg te (qh3 i)):=⟨xq1 hN hi hx he.go hs (.inl hf)⟩
theorem qM6 {X:Cx}{a b c d:Int}{ja jb jc jd:Nat}{pa pb pc pd pos:Pos}{x1:Nat}:PEb X (.Tuple [.Constant (.int a) ja pa,.Constant (.int b) jb pb,.Constant (.int c) jc pc,.Constant (.int d) jd pd] x1 pos) (tTup (qz0 (tC (.int a)) (qz0 (tC (.int b)) (qz0 (tC (.int c)) (qz0 (tC (.int d)) tNil))))):=
 ⟨qf0 (Ars.go (.cons qa3 (.cons qa3 (.cons qa3 (.cons qa3 .nil rfl) rfl) rfl) rfl))⟩
end L2
namespace Pr
open PySem L2 Qf
def PurseAt (H:Hp) (p:Addr):Prop:=∃a b:Int,H p=some (.lst [.int a,.int b])/\0<=a/\0<=b/\b<2^40
theorem PurseAt.same {H H':Hp}{p:Addr}(h:PurseAt H p) (s:Same H H'):PurseAt H' p:=by
 obtain⟨a,b,e,r⟩:=h;exact⟨a,b,s _ _ e,r⟩
def RowsL (H:Hp) (p:Addr) (rows:List Row):Prop:=∃bs:List Addr,H p=some (.lst (bs.map V.ref))/\bs.length=rows.length/\∀(i:Nat) b r,bs[i]?=some b->rows[i]?=some r->H b=some (.tup (vN r))
theorem RowsL.same {H H':Hp}{p:Addr}{rows:List Row}(h:RowsL H p rows) (s:Same H H'):RowsL H' p rows:=by
 obtain⟨bs,h1,h2,h3⟩:=h;exact⟨bs,s _ _ h1,h2,λi b r e1 e2=>s _ _ (h3 i b r e1 e2)⟩
theorem qS0 {C:Nat->Prop}:∀{ys:List V},(∀(i:Nat) y,ys[i]?=some y->∃x:Nat,y=.int (x:Nat)/\C x)->∃r:List Nat,ys=vN r/\∀x∈r,C x
 |[],_=>⟨[],rfl,λx hx=>nomatch hx⟩
 |y::ys,h=>by
  obtain⟨x,rfl,hx⟩:=h 0 y rfl;obtain⟨r,rfl,hr⟩:=qS0 (C:=C) (ys:=ys) λi z hz=>h (i+1) z (by simpa using hz);refine⟨x::r,rfl,λz hz=>?_⟩;rcases Zy.mp hz with rfl|hz
  ·exact hx
  ·exact hr z hz
theorem qM7 {H:Hp}{n:Nat}{te:TE}{σ:St}{Fin:Hp->Prop}{D p:Addr}(hD:H D=none) (hpD:p≠D) (I:Hp->Prop) (Rel:Nat->V->Prop) (hsz:n<sizeLine) (i0:∀H2 o,I H2->I (upd H2 D o)) (hI:I H)
  (step:∀i H2,i<n->But p H H2->I H2->∀Q':VK,(∀y H3,But p H2 H3->I H3->Rel i y->Q' y H3)->te (some (.int (0+(i:Int)))::σ) H2 Q')
  (fin:∀ys H2,But p H H2->I H2->H2 D=some (.lst ys)->ys.length=n->(∀i y,ys[i]?=some y->Rel i y)->Fin H2) :
  ∃W:Nat->Nat->List V->Hp->Prop,(∃m,W 0 m [] (upd H D (.lst []))) /\
   ∀i m xs H2,W i m xs H2->H2 D=some (.lst xs)/\xs.length<sizeLine/\(((Itr 0 n).stop i H2/\Fin H2)\/((Itr 0 n).go i H2/\∀y H3,(Itr 0 n).yld i H2 y H3 ->
    te (some y::σ) H3 λv H4=>H4 D=some (.lst xs)/\∃m',m'<m/\W (i+1) m' (xs++[v]) (upd H4 D (.lst (xs++[v]))))):=by
 refine⟨λi m ys H2=>i<=n/\m=n-i/\ys.length=i/\H2 D=some (.lst ys)/\But p H H2/\I H2/\∀j y,ys[j]?=some y->Rel j y,⟨n,ZN _,rfl,rfl,qa2,But.of (qb2 hD),i0 _ _ hI,λj y h=>by simp at h⟩,?_⟩;rintro i m ys H2 ⟨hi,rfl,hl,hd,b2,i2,rel⟩;refine⟨hd,by lia,?_⟩;by_cases he:i=n
 ·subst he;exact .inl ⟨Ze i,fin ys H2 b2 i2 hd hl rel⟩
 ·refine .inr ⟨show i<n by lia,λy H3 hy=>?_⟩;obtain⟨e1,e2⟩:=hy;rw[e1,e2];refine step i H2 (by lia) b2 i2 _ λv H4 b4 i4 r4=>?_;refine⟨b4 _ _ hd (Yn hpD),n-(i+1),by lia,by lia,rfl,by rw[Zj,hl];rfl,qa2,?_,i0 _ _ i4,λj z hz=>?_⟩
  ·intro b o e nb;rw[qa6 (qa5 e hD)];exact b4 _ _ (b2 _ _ e nb) nb
  ·by_cases hj:j<i
   ·rw[Zg (by lia)] at hz;exact rel j z hz
   ·rw[Zh (by lia)] at hz;have:j-ys.length=0:=by
     have:=(gS_ hz).1;simp at this;lia
    rw[this] at hz;have:z=v:=by simpa using hz.symm
    subst this;have:j=i:=by lia
    subst this;exact r4
def tabl {α κ:Type}(key:α->κ) (l:List α) (k:Nat):List (κ×V):=(l.zipIdx k).map λp=>(key p.1,V.int (p.2:Nat))
section
variable {α κ:Type}[DecidableEq α] [DecidableEq κ]{key:α->κ}
theorem qW5 (l:List α) (k:Nat):(tabl key l k).length=l.length:=by simp[tabl]
theorem xb1 (a:α) (l:List α) (k:Nat):tabl key (a::l) k=(key a,V.int (k:Nat))::tabl key l (k+1):=by simp[tabl]
theorem qM8 (l:List α) (a:α) (k:Nat):tabl key (l++[a]) k=tabl key l k++[(key a,V.int (k+l.length:Nat))]:=by simp[tabl,List.zipIdx_append]
theorem qs1 (inj:∀a b,key a=key b->a=b) (a:α):∀(l:List α) (k:Nat),valV (tabl key l k) (key a)=if a∈l then some (.int (k+l.idxOf a:Nat)) else none
 |[],k=>by simp[tabl,valV]
 |b::l,k=>by
  rw[xb1];by_cases h:b=a
  ·subst h;rw[qg3 rfl,Zr ZC,List.idxOf_cons_self]
   rfl
  ·rw[qe8 (λz=>h (inj _ _ z)),qs1 inj a l (k+1)];by_cases hm:a∈l
   ·have e:(b::l).idxOf a=l.idxOf a+1:=by
     rw[List.idxOf_cons,beq_false_of_ne h]
     rfl
    rw[Zr hm,Zr (Zs _ hm),e];congr 3;lia
   ·rw[Zo hm,Zo (λz=>by rcases Zy.mp z with z|z;exact h z.symm;exact hm z)]
theorem xj8 (inj:∀a b,key a=key b->a=b){l:List α}{a:α}{k:Nat}(h:a∉l):putK (tabl key l k) (key a) (.int (k+l.length:Nat))=tabl key (l++[a]) k:=by
 unfold putK;rw[qj2,qs1 inj,Zo h,Zo (by decide),qM8]
end
def fKey (p:Nat):Key:=Sum.inl ((p+2:Nat):Int)
theorem qW6 (a b:Nat) (h:fKey a=fKey b):a=b:=by
 have:((a+2:Nat):Int)=((b+2:Nat):Int):=Wl h;lia
def fK (es:List Nat):List (Key×V):=tabl fKey es 2
theorem RowsL.but {H H':Hp}{p e:Addr}{rows:List Row}{o:HO}(h:RowsL H p rows) (b:But e H H') (jY:p≠e) (he:H e=some o) (no:∀u,o≠.tup u):RowsL H' p rows:=by
 obtain⟨bs,h1,h2,h3⟩:=h;exact⟨bs,b _ _ h1 jY,h2,λi c r e1 e2=>b.tups he no _ _ (h3 i c r e1 e2)⟩
theorem xE7 {H H':Hp}{a:Addr}{o:HO}(s:Same H H') (h:H a=none):Same H (upd H' a o):=λb u e=>by
 rw[qa6 (qa5 e h)];exact s b u e
def qn1:List (Key×V):=[(Sum.inl 0,.int 0),(Sum.inl 1,.int 1)]
theorem qW7 (p:Nat):valV qn1 (fKey p)=none:=by
 unfold qn1 fKey;rw[qe8 (λz=>by have:=Wl z;lia),qe8 (λz=>by have:=Wl z;lia)]
 rfl
theorem qA3 {κ:Type}[DecidableEq κ] (a b:List (κ×V)) (k:κ):valV (a++b) k=(valV a k).or (valV b k):=by
 unfold valV;rw[List.find?_append];cases List.find? (λkv=>decide (kv.1=k)) a<;>rfl
theorem xr7 {es:List Nat}{q:Nat}(h:InE es q):valV (qn1++fK es) (Sum.inl (q:Int))=some (.int (nm es q:Nat)):=by
 by_cases z:q<2
 ·rw[qk5 z]
  match q,z with
  |0,_=>rfl
  |1,_=>rfl
 ·have hm:=h.resolve_left z;have ek:(Sum.inl (q:Int):Key)=fKey (q-2):=by
   show (Sum.inl (q:Int):Key)=Sum.inl ((q-2+2:Nat):Int);rw[show q-2+2=q by lia]
  rw[ek,qA3,qW7,qh9 z];show valV (tabl fKey es 2) _=_;rw[qs1 qW6,Zr hm];congr 3;lia
def qq3 (n top:Nat) (rows:List Row):PyData:=.tuple [.int (n:Nat),.int (top:Nat),.tuple (rows.map λr=>dT (r.map λx:Nat=>(x:Int)))]
theorem qp1 {H:Hp}:∀{bs:List Addr}{rows:List Row},bs.length=rows.length->(∀(i:Nat) b r,bs[i]?=some b->rows[i]?=some r->H b=some (.tup (vN r))) ->
  DatasAt H (bs.map V.ref) (rows.map λr=>dT (r.map λx:Nat=>(x:Int)))
 |[],[],_,_=>.nil
 |b::bs,r::rows,hl,h=>by
  refine .cons ?_ (qp1 (by simpa using hl) λi c q e1 e2=>h (i+1) c q (by simpa using e1) (by simpa using e2));have h0:=h 0 b r rfl rfl;rw[qE0] at h0;exact .tup h0 (DatasAt.ints _)
theorem xb2 {H:Hp}{t:Addr}{n top:Nat}{rows:List Row}(h:TellAt H t n top rows):DataAt H (.ref t) (qq3 n top rows):=by
 obtain⟨p,ht,bs,hp,hl,hr⟩:=h;exact .tup ht (.cons (.int _) (.cons (.int _) (.cons (.tup hp (qp1 hl hr)) .nil)))
theorem qW8 (cs:List Addr) (t:Addr):cs.map V.ref++[.ref t]=(cs++[t]).map V.ref:=by rw[Z0];rfl
def tK (rows:List Row):List (List Key×V):=tabl keyN rows 2
theorem xj9 {α:Type}{i1 i2:BEq α}(h1:@LawfulBEq α i1) (h2:@LawfulBEq α i2) (l:List α) (a:α):@List.idxOf α i1 a l=@List.idxOf α i2 a l:=by
 cases xj7 h1 h2
 rfl
theorem xr8 (rows:List Row) (r:Row):valV (tK rows) (keyN r)=if r∈rows then some (.int (rows.idxOf r+2:Nat)) else none:=by
 unfold tK;rw[qs1 (λa b=>qx6)];split
 ·rw[Nat.add_comm];exact Yr (λn:Nat=>some (V.int ((n+2:Nat):Int))) (xj9 (by infer_instance) (by infer_instance) _ _)
 ·rfl
end Pr
namespace L2
open PySem PySem.Spec PyProof.Rows
mutual
inductive DatX (H:Hp):V->PyData->Prop
 |non:DatX H .non .none
 |bl (b:Bool):DatX H (.bl b) (.bool b)
 |int (i:Int):DatX H (.int i) (.int i)
 |str (x:Str):DatX H (.str x) (.str x)
 |lst {a:Addr}{xs:List V}{ds:List PyData}(h:H a=some (.lst xs)) (r:DatsX H xs ds):DatX H (.ref a) (.list ds)
 |tup {a:Addr}{xs:List V}{ds:List PyData}(h:H a=some (.tup xs)) (r:DatsX H xs ds):DatX H (.ref a) (.tuple ds)
 |dic {a:Addr}(h:H a=some (.dK [])):DatX H (.ref a) (.dict [])
inductive DatsX (H:Hp):List V->List PyData->Prop
 |nil:DatsX H [] []
 |cons {x:V}{xs:List V}{d:PyData}{ds:List PyData}(h:DatX H x d) (r:DatsX H xs ds):DatsX H (x::xs) (d::ds)
end
section
variable {H:Hp}
mutual
theorem DatX.same {H':Hp}(s:∀b o,H b=some o->H' b=some o):∀{x:V}{d:PyData},DatX H x d->DatX H' x d
 |_,_,.non=>.non
 |_,_,.bl b=>.bl b
 |_,_,.int i=>.int i
 |_,_,.str x=>.str x
 |_,_,.lst e r=>.lst (s _ _ e) (DatsX.same s r)
 |_,_,.tup e r=>.tup (s _ _ e) (DatsX.same s r)
 |_,_,.dic e=>.dic (s _ _ e)
theorem DatsX.same {H':Hp}(s:∀b o,H b=some o->H' b=some o):∀{xs:List V}{ds:List PyData},DatsX H xs ds->DatsX H' xs ds
 |_,_,.nil=>.nil
 |_,_,.cons h r=>.cons (DatX.same s h) (DatsX.same s r)
end
mutual
theorem DatX.of:∀{x:V}{d:PyData},DataAt H x d->DatX H x d
 |_,_,.non=>.non
 |_,_,.bl b=>.bl b
 |_,_,.int i=>.int i
 |_,_,.str x=>.str x
 |_,_,.lst e r=>.lst e (DatsX.of r)
 |_,_,.tup e r=>.tup e (DatsX.of r)
theorem DatsX.of:∀{xs:List V}{ds:List PyData},DatasAt H xs ds->DatsX H xs ds
 |_,_,.nil=>.nil
 |_,_,.cons h r=>.cons (DatX.of h) (DatsX.of r)
end
theorem DatsX.get:∀{xs:List V}{ds:List PyData}{i:Nat}{x:V},DatsX H xs ds->xs[i]?=some x->∃d,ds[i]?=some d/\DatX H x d
 |_,_,_,_,.nil,e=>by simp at e
 |_,_,0,_,.cons h r,e=>by simp at e;subst e;exact⟨_,rfl,h⟩
 |_,_,i+1,x,.cons h r,e=>by
  obtain⟨d,e1,e2⟩:=DatsX.get (i:=i) (x:=x) r (by simpa using e);exact⟨d,by simpa using e1,e2⟩
theorem DatsX.length:∀{xs:List V}{ds:List PyData},DatsX H xs ds->xs.length=ds.length
 |_,_,.nil=>rfl
 |_,_,.cons h r=>by rw[ZQ,ZQ,DatsX.length r]
def tyD:PyData->Value
 |.none=>.type "NoneType"
 |.bool _=>.type "bool"
 |.int _=>.type "int"
 |.str _=>.type "str"
 |.list _=>.type "list"
 |.tuple _=>.type "tuple"
 |.dict _=>.type "dict"
theorem DatX.ty {K:PySem.W.Frag}:∀{x:V}{d:PyData},DatX H x d->TyOf K H x (tyD d)
 |_,_,.non=>.non
 |_,_,.bl b=>.bl b
 |_,_,.int i=>.int i
 |_,_,.str x=>.str x
 |_,_,.lst e _=>.lst e
 |_,_,.tup e _=>.tup e
 |_,_,.dic e=>.dK e
def isI:PyData->Bool
 |.int _=>true
 |_=>false
def isIB:PyData->Bool
 |.int _=>true
 |.bool _=>true
 |_=>false
def isB:PyData->Bool
 |.bool _=>true
 |_=>false
def isT:PyData->Bool
 |.tuple _=>true
 |_=>false
theorem xx0 {K:PySem.W.Frag}(d:PyData):PySem.W.kitOne K (tyD d) (.type "int")=some (isIB d):=by cases d<;>rfl
theorem xk2 {K:PySem.W.Frag}(d:PyData):PySem.W.kitOne K (tyD d) (.type "bool")=some (isB d):=by cases d<;>rfl
theorem qs2 {K:PySem.W.Frag}(d:PyData):PySem.W.kitOne K (tyD d) (.type "tuple")=some (isT d):=by cases d<;>rfl
def qh1 (most:Nat):PyData->Bool
 |.int i=>decide (0<=i/\i<=(most:Int))
 |_=>false
def rowD (before:Nat):PyData->Bool
 |.tuple xs=>xs.length==4&&xs.all (qh1 (before+1))
 |_=>false
def xb3:PyData->Bool
 |.tuple rs=>rs.zipIdx.all λp=>rowD p.2 p.1
 |_=>false
end
end L2
namespace Pr
open PySem L2 Qf
section
variable {P:Program}{w:World}{K:PySem.W.Frag}{mg:Str->Option Value}{base:Heap}
def qx7:Sp:=λvs H Q _=>∃(v:V) (d:PyData),vs=[v]/\DatX H v d/\Q (.bl (isI d)) H
theorem qA4 {f:Addr}{fd:FuncData}(F:Fun K "is_whole" "is_whole" qp8 f fd) (B:Blt mg):FnOk P w K mg base CX0 1 f fd ["thing"] qx7:=by
 refine F.ok xa4 (λvs H Q E h=>?_) (λcdv A outer s H vs Q E hr h=>?_)
 ·obtain⟨v,d,rfl,_⟩:=h
  rfl
 ·obtain⟨v,d,rfl,hd,q⟩:=h;refine⟨_,qa8 (qb0 (qr2 (qa7 qd7 (by rfl) B.isi Zt (qa0 (pv 0) (qa0 (qg4 (v:=.ty "int") (by rfl) B.int PyProof.Rows.boot_int rfl) qa1)))
   (qr1 (xp9 (qa7 qd7 (by rfl) B.isi Zt (qa0 (pv 0) (qa0 (qg4 (v:=.ty "bool") (by rfl) B.bool PyProof.Rows.boot_bool rfl) qa1))))))),?_⟩
  refine⟨_,rfl,_,_,_,_,_,rfl,rfl,.inl hd.ty,xx0 d,_,rfl,?_⟩;by_cases hI:isIB d=true
  ·rw[hI];refine iteT ⟨_,rfl,_,_,_,_,_,rfl,rfl,.inl hd.ty,xk2 d,_,rfl,?_⟩;have e:isI d=!isB d:=by cases d<;>first|rfl|cases hI
   rw[e] at q;exact q
  ·have e1:isIB d=false:=by simpa using hI
   have e2:isI d=false:=by cases d<;>first|rfl|cases e1
   rw[e1];rw[e2] at q;exact iteF q
def qS1:Sp:=λvs H Q _=>∃(v:V) (d:PyData),vs=[v]/\DatX H v d/\Q (.bl (qh1 12 d)) H
theorem xk3 {f fW:Addr}{fd fdW:FuncData}(F:Fun K "is_size" "is_size" qR2 f fd) (B:Blt mg) (T:Cst mg) (hW:mg "is_whole" = some (.ref fW)) (FW:Fun K "is_whole" "is_whole" qp8 fW fdW) (bW:Binds K fdW ["thing"] []):FnOk P w K mg base CX0 2 f fd ["thing"] qS1:=by
 have GW:FnOk P w K mg base CX0 1 fW fdW ["thing"] qx7:=qA4 FW B;obtain⟨tg,hgr⟩:=T.great;refine F.ok xr5 (λvs H Q E h=>?_) (λcdv A outer s H vs Q E hr h=>?_)
 ·obtain⟨v,d,rfl,_⟩:=h
  rfl
 ·obtain⟨v,d,rfl,hd,q⟩:=h;refine⟨_,qa8 (qb0 (qr2 (pcN GW hr hW FW.kp bW (qa0 (pv 0) qa1)) (qr1 (qx0 qC2 qC2 qa3 (pv 0) (qc3 (v:=.int 12) (by rfl) hgr ⟨_,rfl⟩))))),?_⟩;refine⟨_,rfl,v,d,rfl,hd,_,rfl,?_⟩;cases hd with
  |int n=>
   refine iteT ⟨_,rfl,_,_,rfl,rfl,_,rfl,?_⟩;refine ite2 (λh1=>⟨_,_,rfl,rfl,?_⟩) (λh1=>?_)
   ·have h0:=ZU h1;have e:decide ((n:Int)<=12)=qh1 12 (.int n):=by
     show _=decide (0<=n/\n<=((12:Nat):Int));by_cases z:n<=12
     ·rw[Zi z,Zi ⟨h0,z⟩]
     ·rw[Zk z,Zk λy=>z y.2]
    show Q (V.bl (decide ((n:Int)<=12))) H;rw[e];exact q
   ·have h0:¬(0:Int)<=n:=λz=>h1 (Zi z);have e:qh1 12 (.int n)=false:=Zk λy=>h0 y.1;rw[e] at q;exact q
  |_=>exact iteF q
def qs3:Sp:=λvs H Q _=>∃(v:V) (d:PyData) (m:Nat),vs=[v,.int (m:Nat)]/\DatX H v d/\Q (.bl (qh1 (m+1) d)) H
theorem q28 {f fW:Addr}{fd fdW:FuncData}(F:Fun K "is_number" "is_number" qm8 f fd) (B:Blt mg) (T:Cst mg) (hW:mg "is_whole" = some (.ref fW)) (FW:Fun K "is_whole" "is_whole" qp8 fW fdW) (bW:Binds K fdW ["thing"] []):FnOk P w K mg base CX0 2 f fd ["thing", "many"] qs3:=by
 have GW:FnOk P w K mg base CX0 1 fW fdW ["thing"] qx7:=qA4 FW B;obtain⟨tf,hf⟩:=T.first;refine F.ok qV9 (λvs H Q E h=>?_) (λcdv A outer s H vs Q E hr h=>?_)
 ·obtain⟨v,d,m,rfl,_⟩:=h
  rfl
 ·obtain⟨v,d,m,rfl,hd,q⟩:=h;refine⟨_,qa8 (qb0 (qr2 (pcN GW hr hW FW.kp bW (qa0 (pv 0) qa1)) (qr1 (qx0 qC2 qC1 qa3 (pv 0) (qb8 qf9 (pv 1) (qc3 (v:=.int 2) (by rfl) hf ⟨_,rfl⟩)))))),?_⟩;refine⟨_,rfl,v,d,rfl,hd,_,rfl,?_⟩;cases hd with
  |int n=>
   refine iteT ⟨_,rfl,_,_,rfl,rfl,_,rfl,?_⟩;refine ite2 (λh1=>⟨_,rfl,_,_,rfl,rfl,_,_,rfl,rfl,?_⟩) (λh1=>?_)
   ·have h0:=ZU h1;have e:decide ((n:Int)<(m:Int)+2)=qh1 (m+1) (.int n):=by
     show _=decide (0<=n/\n<=((m+1:Nat):Int));by_cases z:n<(m:Int)+2
     ·rw[Zi z,Zi ⟨h0,by lia⟩]
     ·rw[Zk z,Zk λy=>z (by have:=y.2;lia)]
    show Q (V.bl (decide ((n:Int)<(m:Int)+2))) H;rw[e];exact q
   ·have h0:¬(0:Int)<=n:=λz=>h1 (Zi z);have e:qh1 (m+1) (.int n)=false:=Zk λy=>h0 y.1;rw[e] at q;exact q
  |_=>exact iteF q
end
theorem qH6 {m:Nat}{d:PyData}(h:qh1 m d=true):∃x:Nat,d=.int (x:Nat)/\x<=m:=by
 cases d with
 |int i=>
  have h:decide (0<=i/\i<=(m:Int))=true:=h;obtain⟨h1,h2⟩:=ZU h;exact⟨i.toNat,by rw[Int.toNat_of_nonneg h1],by lia⟩
 |_=>cases h
theorem qM9 {m:Nat}:∀{ds:List PyData},ds.all (qh1 m)=true->∃r:Row,ds=(r.map λx:Nat=>(x:Int)).map PyData.int/\∀x∈r,x<=m
 |[],_=>⟨[],rfl,λx hx=>nomatch hx⟩
 |d::ds,h=>by
  rw[Vb,YD] at h;obtain⟨x,rfl,hx⟩:=qH6 h.1;obtain⟨r,rfl,hr⟩:=qM9 h.2;exact⟨x::r,rfl,λy hy=>by
   rcases Zy.mp hy with rfl|hy
   ·exact hx
   ·exact hr y hy⟩
def dR (r:Row):PyData:=dT (r.map λx:Nat=>(x:Int))
theorem xE8 {i:Nat}{d:PyData}(h:rowD i d=true):∃r:Row,d=dR r/\qL5 i r:=by
 cases d with
 |tuple xs=>
  have h:(xs.length==4&&xs.all (qh1 (i+1)))=true:=h;rw[YD] at h;obtain⟨r,rfl,hr⟩:=qM9 h.2;have hl:r.length=4:=by simpa using h.1
  exact⟨r,rfl,hl,λx hx=>by have:=hr x hx;lia⟩
 |_=>cases h
theorem qA5:∀{rs:List PyData}{k:Nat},(rs.zipIdx k).all (λp=>rowD p.2 p.1)=true->∃rows:List Row,rs=rows.map dR/\∀i r,rows[i]?=some r->qL5 (k+i) r
 |[],k,_=>⟨[],rfl,λi r h=>by simp at h⟩
 |d::rs,k,h=>by
  rw[List.zipIdx_cons,Vb,YD] at h;obtain⟨r,rfl,hr⟩:=xE8 h.1;obtain⟨rows,rfl,hrs⟩:=qA5 h.2;refine⟨r::rows,rfl,λi q hq=>?_⟩;cases i with
  |zero=>
   cases hq;exact hr
  |succ i=>
   have:=hrs i q hq;rw[show k+(i+1)=k+1+i by lia];exact this
theorem xx1 {d:PyData}(h:xb3 d=true):∃rows:List Row,d=.tuple (rows.map dR)/\qc0 rows:=by
 cases d with
 |tuple rs=>
  obtain⟨rows,rfl,hr⟩:=qA5 (k:=0) h;exact⟨rows,rfl,λi r hi=>by have:=hr i r hi;rwa [Nat.zero_add] at this⟩
 |_=>cases h
theorem qN0 {H:Hp}:∀{xs:List V}{r:Row},DatsX H xs ((r.map λx:Nat=>(x:Int)).map PyData.int)->xs=vN r
 |_,[],.nil=>rfl
 |_,x::r,.cons h t=>by
  cases h;rw[qN0 t]
  rfl
theorem xx2 {H:Hp}{v:V}{r:Row}(h:DatX H v (dR r)):∃b,v=.ref b/\H b=some (.tup (vN r)):=by
 cases h with
 |tup e t=>exact⟨_,rfl,by rw[e,qN0 t]⟩
theorem qN1 {H:Hp}:∀{xs:List V}{rows:List Row},DatsX H xs (rows.map dR)->∃bs:List Addr,xs=bs.map V.ref/\bs.length=rows.length/\∀(i:Nat) b r,bs[i]?=some b->rows[i]?=some r->H b=some (.tup (vN r))
 |_,[],.nil=>⟨[],rfl,rfl,λi b r e=>by simp at e⟩
 |_,r::rows,.cons h t=>by
  obtain⟨b,rfl,hb⟩:=xx2 h;obtain⟨bs,rfl,hl,hr⟩:=qN1 t;refine⟨b::bs,rfl,by rw[ZQ,ZQ,hl],λi c q e1 e2=>?_⟩;cases i with
  |zero=>
   cases e1;cases e2;exact hb
  |succ i=>exact hr i c q e1 e2
theorem qW9 {H:Hp}{v:V}{rows:List Row}(h:DatX H v (.tuple (rows.map dR))):∃p,v=.ref p/\RowsAt H p rows:=by
 cases h with
 |tup e t=>
  obtain⟨bs,rfl,h1,h2⟩:=qN1 t;exact⟨_,rfl,bs,e,h1,h2⟩
section
variable {P:Program}{w:World}{K:PySem.W.Frag}{mg:Str->Option Value}{base:Heap}
def xb4:Sp:=λvs H Q _=>∃(v:V) (d:PyData) (i:Nat),vs=[v,.int (i:Nat)]/\DatX H v d/\∀H',Same H H'->Q (.bl (rowD i d)) H'
theorem xx3 {f fN:Addr}{fd fdN:FuncData}(F:Fun K "is_row" "is_row" sRow f fd) (B:Blt mg) (hN:mg "is_number" = some (.ref fN)) (FN:Fun K "is_number" "is_number" qm8 fN fdN) (bN:Binds K fdN ["thing", "many"] []) (GN:FnOk P w K mg base CX0 2 fN fdN ["thing", "many"] qs3):FnOk P w K mg base CX0 3 f fd ["thing", "before"] xb4:=by
 refine F.ok scRow (λvs H Q E h=>?_) (λcdv A outer s H vs Q E hr h=>?_)
 ·obtain⟨v,d,i,rfl,_⟩:=h
  rfl
 ·obtain⟨v,d,i,rfl,hd,q⟩:=h;refine⟨_,qc1 (qf3 (qk9 (qe7 (qe1 (qa7 qd7 (by rfl) B.isi Zt (qa0 (pv 0) (qa0 (qg4 (v:=.ty "tuple") (by rfl) B.tuple ZE rfl) qa1)))))
    (qj0 (qc4 qw6 (qa7 qa9 (by rfl) B.len ZJ (qa0 (pv 0) qa1)) qa3 (qc6 _)))).pt (qa8 (qb0 qj1)) qb5)
   (qa8 (qb0 (qa7 (ql7 rfl) (by rfl) B.all YO (qa0 (qf5 ["thing", "before"] (qa4 sRow) rfl rfl rfl scRow.nd (piT K rfl (pv 0)) (λcl C fp s₀ H₀=>pcN GN hr hN FN.kp bN (qa0 (pv 0) (qa0 (pv 2) qa1)))) qa1)))),?_⟩
  refine⟨_,rfl,_,_,_,_,_,rfl,rfl,.inl hd.ty,qs2 d,_,rfl,?_⟩;cases hd with
  |@tup b xs ds hb r=>
   refine iteF ⟨_,rfl,b,_,rfl,.inr (SqT.of hb),rfl,_,rfl,?_⟩;have hl:=r.length;by_cases h4:xs.length=4
   ·refine xv1 (by rw[h4];rfl) ?_;refine⟨_,rfl,b,rfl,⟨_,SqT.of hb⟩,λD hD=>qe6 hD (λj z _=>∃d,ds[j]?=some d/\z=.bl (qh1 (i+1) d)) (qi1 (K:=K) hb) (by rw[h4];decide) (λ_ _ _ _ _ _ h=>h) ?_ ?_⟩
    ·intro j x H3 hj hx s3 Q' hq;obtain⟨d,e1,e2⟩:=r.get hx;exact⟨_,rfl,_,rfl,x,d,i,rfl,e2.same s3,hq _ _ (Same.refl _) ⟨d,e1,rfl⟩⟩
    ·intro ys H3 s3 k9 jH jK;have e:ys=(ds.map (qh1 (i+1))).map V.bl:=by
      refine qi2 (by rw[jH,hl];simp) λj x hx=>?_;obtain⟨d,e1,rfl⟩:=jK j x hx;rw[Zd,Zd,e1];rfl
     refine⟨D,ds.map (qh1 (i+1)),rfl,by rw[<- e];exact k9,?_⟩;have ea:(ds.map (qh1 (i+1))).all id=rowD i (.tuple ds):=by
      show _=(ds.length==4&&ds.all (qh1 (i+1)));rw[<- hl,h4,Vi]
      rfl
     rw[ea];exact q H3 s3
   ·have e1:(decide (V.int ((xs.length:Nat):Int)=V.int 4))=false:=Zk λz=>h4 (by have:=V.int.inj z;lia);rw[e1];refine iteT ?_;have e2:rowD i (.tuple ds)=false:=by
     show (ds.length==4&&ds.all (qh1 (i+1)))=false;rw[<- hl,show (xs.length==4)=false by rw[Yk];exact h4]
     rfl
    have:=q H (Same.refl _);rw[e2] at this;exact this
  |_=>exact iteT (q H (Same.refl _))
def qS2:Sp:=λvs H Q _=>∃(v:V) (d:PyData),vs=[v]/\DatX H v d/\(∀ds,d=.tuple ds->ds.length<=900)/\∀H',Same H H'->Q (.bl (xb3 d)) H'
theorem xk4 {f fR:Addr}{fd fdR:FuncData}(F:Fun K "are_rows" "are_rows" qG7 f fd) (B:Blt mg) (hR:mg "is_row" = some (.ref fR)) (FR:Fun K "is_row" "is_row" sRow fR fdR) (bR:Binds K fdR ["thing", "before"] []) (GR:FnOk P w K mg base CX0 3 fR fdR ["thing", "before"] xb4):FnOk P w K mg base CX0 4 f fd ["thing"] qS2:=by
 refine F.ok scRows (λvs H Q E h=>?_) (λcdv A outer s H vs Q E hr h=>?_)
 ·obtain⟨v,d,rfl,_⟩:=h
  rfl
 ·obtain⟨v,d,rfl,hd,vC,q⟩:=h;refine⟨_,qa8 (qb0 (qr2 (qa7 qd7 (by rfl) B.isi Zt (qa0 (pv 0) (qa0 (qg4 (v:=.ty "tuple") (by rfl) B.tuple ZE rfl) qa1)))
   (qr1 (qa7 (ql7 rfl) (by rfl) B.all YO (qa0 (qU9 ["thing"] (qa4 qG7) rfl rfl rfl scRows.nd (qr7 (by rfl) B.enum (qa0 (pv 0) qa1)) (λcl C fp s₀ H₀=>pcN GR hr hR FR.kp bR (qa0 (pv 1) (qa0 (pv 0) qa1)))) qa1))))),?_⟩
  refine⟨_,rfl,_,_,_,_,_,rfl,rfl,.inl hd.ty,qs2 d,_,rfl,?_⟩;cases hd with
  |@tup p xs ds hp r=>
   refine iteT ?_;have hl:=r.length;have h9:=vC ds rfl;refine⟨_,rfl,p,rfl,⟨_,SqT.of hp⟩,λD hD=>qu5 hD (λ_=>true) (λj=>.bl (rowD j (ds.getD j .none))) (qz8 (K:=K) hp) (by rw[hl];exact qh4 (by lia)) ?_ ?_⟩
   ·rintro i x H2 hi ⟨t,y,rfl,hy,ht⟩ s2 os ho Q1 Q2 q1 q2
    match os,ho with
    |[o1,o2],_=>
     obtain⟨d,e1,e2⟩:=r.get hy;refine⟨t,_,rfl,SqT.of ht,rfl,_,_,rfl,_,_,rfl,rfl,?_⟩;refine iteT (B:=Q1 H2) ?_;refine⟨_,rfl,_,rfl,y,d,i,rfl,e2.same s2,λH3 s3=>?_⟩;have:=q2 rfl H3 s3;have e3:ds.getD i .none=d:=by rw[ZG,e1];rfl
     rw[e3] at this;exact this
   ·intro H2 s2 jG;refine⟨D,(List.range ds.length).map λj=>rowD j (ds.getD j .none),rfl,?_,?_⟩
    ·rw[jG,hl,List.filter_eq_self.mpr (λ_ _=>rfl),Yp]
     rfl
    ·have ea:((List.range ds.length).map λj=>rowD j (ds.getD j .none)).all id=xb3 (.tuple ds):=by
      show _=ds.zipIdx.all λp=>rowD p.2 p.1;have ez:ds.zipIdx=(List.range ds.length).map λj=>(ds.getD j .none,j):=by
       apply YZ;intro j;rw[List.getElem?_zipIdx,Zd];by_cases hj:j<ds.length
       ·rw[Z5 hj,Zf hj];simp[List.getD,hj]
       ·rw[ZZ (by lia),ZZ (by rw[Xf];lia)]
        rfl
      rw[ez,Vi,Vi]
      rfl
     rw[ea];exact q H2 s2
  |_=>exact iteF (q H (Same.refl _))
end
theorem xx4 {P:Program}{w:World}{K:PySem.W.Frag}{mg:Str->Option Value}{base:Heap}{CX:CXT}{k:Nat}{f:Addr}{fd:FuncData}{ps:List Str}{sp sp':Sp}(F:FnOk P w K mg base CX k f fd ps sp) (G:FnOk P w K mg base CX k f fd ps sp') :
  FnOk P w K mg base CX k f fd ps (λvs H Q E=>sp vs H Q E\/sp' vs H Q E):=
 ⟨λvs H Q E h=>h.elim (F.len vs H Q E) (G.len vs H Q E),λA outer s H args us vs Q E hr en b v h=>h.elim (F.run A outer s H args us vs Q E hr en b v) (G.run A outer s H args us vs Q E hr en b v)⟩
def TlD (d:PyData) (n tp:Nat) (rows:List Row):Prop:=d=qq3 n tp rows/\n<=12/\qc0 rows/\tp<rows.length+2
theorem xb5 {a b:Row}(h:dR a=dR b):a=b:=by
 have h1:(a.map λx:Nat=>(x:Int)).map PyData.int=(b.map λx:Nat=>(x:Int)).map PyData.int:=Ye h;exact qA0 ((Xw (λ_ _ z=>YW z)).mp h1)
theorem qA6 {n n' tp tp':Nat}{rows rows':List Row}(h:qq3 n tp rows=qq3 n' tp' rows'):n=n'/\tp=tp'/\rows=rows':=by
 have h1:=Ye h;injection h1 with e1 h2
 injection h2 with e2 h3
 injection h3 with e3 _
 have e1:=YW e1;have e2:=YW e2;have e3:rows.map dR=rows'.map dR:=Ye e3;exact⟨by lia,by lia,(Xw (λ_ _ z=>xb5 z)).mp e3⟩
theorem qx8 {H:Hp}{v:V}{n tp:Nat}{rows:List Row}(h:DatX H v (qq3 n tp rows)):∃t,v=.ref t/\TellAt H t n tp rows:=by
 cases h with
 |@tup t xs _ e r=>
  cases r with
  |cons h0 r=>
   cases h0;cases r with
   |cons h1 r=>
    cases h1;cases r with
    |cons h2 r=>
     cases r;obtain⟨p,rfl,hR⟩:=qW9 (rows:=rows) h2;exact⟨t,rfl,p,e,hR⟩
def Bnd (d:PyData):Prop:=∀d0 d1 ds,d=.tuple [d0,d1,.tuple ds]->ds.length<=900
section
variable {P:Program}{w:World}{K:PySem.W.Frag}{mg:Str->Option Value}{base:Heap}
def qH7:Sp:=λvs H Q _=>∃(v:V) (d:PyData),vs=[v]/\DatX H v d/\Bnd d/\(∀n tp rows,¬TlD d n tp rows)/\∀H',Same H H'->Q (.bl false) H'
theorem xb6 {f fS fR fN fD:Addr}{fd fdS fdR fdN fdD:FuncData}(F:Fun K "is_telling" "is_telling" qm9 f fd) (B:Blt mg)
  (hS:mg "is_size" = some (.ref fS)) (FS:Fun K "is_size" "is_size" qR2 fS fdS) (bS:Binds K fdS ["thing"] []) (GS:FnOk P w K mg base CX0 2 fS fdS ["thing"] qS1)
  (hR:mg "are_rows" = some (.ref fR)) (FR:Fun K "are_rows" "are_rows" qG7 fR fdR) (bR:Binds K fdR ["thing"] []) (GR:FnOk P w K mg base CX0 4 fR fdR ["thing"] qS2)
  (hN:mg "is_number" = some (.ref fN)) (FN:Fun K "is_number" "is_number" qm8 fN fdN) (bN:Binds K fdN ["thing", "many"] []) (GN:FnOk P w K mg base CX0 2 fN fdN ["thing", "many"] qs3)
  (hD:mg "depths_of" = some (.ref fD)) (FD:Fun K "depths_of" "depths_of" qR1 fD fdD) (bD:Binds K fdD ["rows"] []):FnOk P w K mg base CX0 5 f fd ["thing"] qH7:=by
 have GD:FnOk P w K mg base CX0 1 fD fdD ["rows"] qW2:=qR5 FD B;refine F.ok scTelling (λvs H Q E h=>?_) (λcdv A outer s H vs Q E hr h=>?_)
 ·obtain⟨v,d,rfl,_⟩:=h
  rfl
 ·obtain⟨v,d,rfl,hd,bnd,no,q⟩:=h;have jE:Room 1 _:=hr.mono (by decide);have kC:Room 2 _:=hr.mono (by decide);refine⟨_,qc1 (qf3 (qk9 (qe7 (qe1 (qa7 qd7 (by rfl) B.isi Zt (qa0 (pv 0) (qa0 (qg4 (v:=.ty "tuple") (by rfl) B.tuple ZE rfl) qa1)))))
    (qj0 (qc4 qw6 (qa7 qa9 (by rfl) B.len ZJ (qa0 (pv 0) qa1)) qa3 (qc6 _)))).pt (qa8 (qb0 qj1)) qb5)
   (qc1 (qp7 (pv 0) (qn7 rfl (qb6 (pgN 1 scTelling.nd) (qb6 (pgN 2 scTelling.nd) (qb6 (pgN 3 scTelling.nd) qj8)))))
   (qc1 (qf3 (qk9 (qe7 (qe1 (pcN GS kC hS FS.kp bS (qa0 (pv 1) qa1))))
    (qk9 (qe7 (qe1 (pcN GR hr hR FR.kp bR (qa0 (pv 3) qa1))))
    (qj0 (qe7 (qe1 (pcN GN kC hN FN.kp bN (qa0 (pv 2) (qa0 (qa7 qa9 (by rfl) B.len ZJ (qa0 (pv 3) qa1)) qa1)))))))).pt (qa8 (qb0 qj1)) qb5)
   (qa8 (qb0 (qm5 qC2 (pxN qe4 (pcN GD jE hD FD.kp bD (qa0 (pv 3) qa1)) (pv 2)) (pv 1) (qc6 _)))))),?_⟩
  refine⟨_,rfl,_,_,_,_,_,rfl,rfl,.inl hd.ty,qs2 d,_,rfl,?_⟩;cases hd with
  |@tup t xs ds ht r=>
   refine iteF ⟨_,rfl,t,_,rfl,.inr (SqT.of ht),rfl,_,rfl,?_⟩;have hl:=r.length;by_cases h3:xs.length=3
   rotate_left
   ·have e1:(decide (V.int ((xs.length:Nat):Int)=V.int 3))=false:=Zk λz=>h3 (by have:=V.int.inj z;lia);rw[e1];exact iteT (q H (Same.refl _))
   refine xv1 (by rw[h3];rfl) ?_
   match xs,ds,h3,r,ht,bnd,no with
   |[x0,x1,x2],[d0,d1,d2],_,.cons r0 (.cons r1 (.cons r2 .nil)),ht,bnd,no=>
    refine⟨_,rfl,t,_,rfl,SqT.of ht,rfl,_,_,rfl,_,_,rfl,_,_,rfl,rfl,?_⟩;refine⟨_,rfl,x0,d0,rfl,r0,_,rfl,?_⟩;by_cases w0:qh1 12 d0=true
    rotate_left
    ·rw[show qh1 12 d0=false by simpa using w0];exact iteT (q H (Same.refl _))
    rw[w0];refine iteF ⟨_,rfl,x2,d2,rfl,r2,λds e=>bnd d0 d1 ds (by rw[e]),λH2 s2=>⟨_,rfl,?_⟩⟩;by_cases w2:xb3 d2=true
    rotate_left
    ·rw[show xb3 d2=false by simpa using w2];exact iteT (q H2 s2)
    rw[w2];obtain⟨rows,rfl,ok⟩:=xx1 w2;obtain⟨p,rfl,wI⟩:=qW9 (r2.same s2);obtain⟨bs,hp,j9,_⟩:=id wI;refine iteF ⟨_,rfl,_,rfl,p,_,rfl,.inr (SqT.of hp),x1,d1,rows.length,by rw[Zb,j9];rfl,r1.same s2,_,rfl,?_⟩;by_cases w1:qh1 (rows.length+1) d1=true
    rotate_left
    ·rw[show qh1 (rows.length+1) d1=false by simpa using w1];exact iteT (q H2 s2)
    exfalso;obtain⟨n,rfl,hn⟩:=qH6 w0;obtain⟨tp,rfl,jW⟩:=qH6 w1;exact no n tp rows ⟨rfl,hn,ok,by lia⟩
  |_=>exact iteT (q H (Same.refl _))
def qu7:Sp:=λvs H Q _=>∃(v:V) (d:PyData),vs=[v]/\DatX H v d/\Bnd d/\∀(b:Bool) H',(b=true<->∃n tp rows,TlD d n tp rows/\dp rows tp<=n)->Same H H'->Q (.bl b) H'
theorem qX0 {n tp:Nat}{rows:List Row}(h:Bnd (qq3 n tp rows)):rows.length<=900:=by
 have:=h (.int (n:Nat)) (.int (tp:Nat)) (rows.map dR) rfl
 rwa [Zb] at this
theorem qS3 {f:Addr}{fd:FuncData}(G2:FnOk P w K mg base CX0 5 f fd ["thing"] qu6) (G0:FnOk P w K mg base CX0 5 f fd ["thing"] qH7):FnOk P w K mg base CX0 5 f fd ["thing"] qu7:=by
 refine (xx4 G2 G0).imp λvs H Q E h=>?_;obtain⟨v,d,rfl,hd,bnd,q⟩:=h;by_cases hT:∃n tp rows,TlD d n tp rows
 ·obtain⟨n,tp,rows,rfl,hn,ok,jW⟩:=hT;obtain⟨t,rfl,tl⟩:=qx8 hd;refine .inl ⟨t,n,tp,rows,rfl,tl,hn,ok,qX0 bnd,jW,λH' s'=>q _ H' ⟨λz=>⟨n,tp,rows,⟨rfl,hn,ok,jW⟩,ZU z⟩,λz=>?_⟩ s'⟩;obtain⟨n',tp',rows',⟨e,_⟩,hd'⟩:=z;obtain⟨rfl,rfl,rfl⟩:=qA6 e;exact Zi hd'
 ·refine .inr ⟨v,d,rfl,hd,bnd,λn tp rows z=>hT ⟨n,tp,rows,z⟩,λH' s'=>q false H' ⟨λz=>(by cases z),λz=>?_⟩ s'⟩;obtain⟨n,tp,rows,z,_⟩:=z;exact (hT ⟨n,tp,rows,z⟩).elim
end
end Pr
namespace PyProof.Rows
open PySem
def xx5:Bool->Keyed->Array Keyed->Nat->Nat->Nat->StateT SortSt Sem (Option Nat):=sortPriv% PySem.Builtin.gallop
def KLt (prog:Program) (w:World) (A:Around) (s:Shared) (κ:KeyKind) (kd:SortKind):Prop:=
 ∀(E:Value->Shared->Prop) (x y:Value) (a b:κ.α) (Q:Bool->Shared->Prop),κ.keyOf x=some a->κ.keyOf y=some b->Q (κ.blt a b) s->wpAny (model prog w) A (keyLt' kd x y) Q E s
section
variable {prog:Program}{w:World}{A:Around}{E:Value->Shared->Prop}{s:Shared}{κ:KeyKind}
theorem qA7 {kd:SortKind}(hO:KLt prog w A s κ kd){st:SortSt}{x y:Keyed}{a b:κ.α}{Q:Option Bool->SortSt->Prop}(hk:kindOf st=kd) (ha:κ.keyOf x.1=some a) (hb:κ.keyOf y.1=some b) (h:Q (some (κ.blt a b)) st) :
  wpS (model prog w) A E s (lt' x y) Q st:=by
 rw[lt'_eq];refine Zp (WH ?_);rw[hk];refine Zp (Ve (Wb (hO _ _ _ a b _ ha hb ⟨rfl,?_⟩)));exact Zv h
theorem qb9 {st:SortSt}{arr:Array Keyed}{i:Nat}{x:Keyed}{Q:Keyed->SortSt->Prop}(hi:arr[i]?=some x) (h:Q x st):wpS (model prog w) A E s (elem' arr i) Q st:=by
 rw[elem'_eq,hi];exact Zv h
def asks (left:Bool) (k x:κ.α):Bool:=if left then κ.blt x k else !κ.blt k x
theorem qj6 {kd:SortKind}(hO:KLt prog w A s κ kd){left:Bool}{key:Keyed}{k:κ.α}{arr:Array Keyed}{base n hint c:Nat}{st:SortSt}{Q:Option Nat->SortSt->Prop}(hk:kindOf st=kd) (hkey:κ.keyOf key.1=some k)
  (harr:∀i,i<n->∃x a,arr[base+i]?=some x/\κ.keyOf x.1=some a/\asks left k a=decide (i<c)) (hh:hint<n) (hc:c<=n) (h:Q (some c) st):wpS (model prog w) A E s (xx5 left key arr base n hint) Q st:=by
 have bey:∀(i:Nat) (Q':Option Bool->SortSt->Prop),i<n->Q' (some (decide (i<c))) st->wpS (model prog w) A E s (elem' arr (base+i) >>= λx=>if left=true then lt' x key else lt' key x >>= λr=>pure (Option.map (λx=>!x) r)) Q' st:=λi Q' hi hq=>by
  obtain⟨x,a,e1,e2,e3⟩:=harr i hi;refine Zp (qb9 e1 ?_);unfold asks at e3;cases left with
  |true=>
   rw[Zr rfl] at e3 ⊢;refine qA7 hO hk e2 hkey ?_;rw[e3];exact hq
  |false=>
   rw[Zo (by decide)] at e3 ⊢;refine Zp (qA7 hO hk hkey e2 (Zv ?_));show Q' (some (!κ.blt k a)) st;rw[e3];exact hq
 refine Zp (bey hint _ hh ?_);have fin:∀lo hi,lo<=c->c<=hi->hi<=n->∀(f:Nat->Option (Option Nat)×Nat×Nat->StateT SortSt Sem (ForInStep (Option (Option Nat)×Nat×Nat))) (g:Option (Option Nat)×Nat×Nat->StateT SortSt Sem (Option Nat)),
   (∀x lo hi,lo<hi->hi<=n->∀Q',(∀b,Q' (ForInStep.yield (none,if decide (lo+(hi-lo)/2<c)=true then (lo+(hi-lo)/2+1,hi) else (lo,lo+(hi-lo)/2))) b\/b≠st)->wpS (model prog w) A E s (f x (none,lo,hi)) Q' st) ->
   (∀x lo hi,lo>=hi->f x (none,lo,hi)=pure (ForInStep.done (none,lo,hi)))->(∀lo hi,g (none,lo,hi)=pure (some hi))->wpS (model prog w) A E s (forIn [:n] (none,lo,hi) f >>= g) Q st:=by
  intro lo hi h1 h2 h3 f g hf hf2 hg;refine Zp (Wc (YV (I:=λx cc st'=>st'=st/\∃lo hi,cc=(none,lo,hi)/\lo<=c/\c<=hi/\hi<=n/\hi-lo<=n-x) (Q:=λcc st'=>st'=st/\∃lo,cc=(none,lo,c)) ?step ?fin ⟨rfl,lo,hi,rfl,h1,h2,h3,by lia⟩) ?post)
  case post=>
   rintro cc st' ⟨rfl,lo,rfl⟩;rw[hg];exact Zv h
  case fin=>
   rintro cc st' ⟨rfl,lo,hi,rfl,g1,g2,g3,g4⟩;have:hi=c:=by lia
   exact⟨rfl,lo,by rw[this]⟩
  case step=>
   rintro x cc st' _ hx ⟨rfl,lo,hi,rfl,g1,g2,g3,g4⟩;by_cases vQ:lo>=hi
   ·rw[hf2 x lo hi vQ];have:hi=c:=by lia
    exact Zv ⟨rfl,lo,by rw[this]⟩
   ·refine hf x lo hi (by lia) g3 _ λb=>?_;by_cases hbst:b=st'
    ·left;subst hbst;by_cases hm:lo+(hi-lo)/2<c
     ·rw[Zi hm];exact⟨rfl,_,_,rfl,by lia,g2,g3,by lia⟩
     ·rw[Zk hm];exact⟨rfl,_,_,rfl,g1,by lia,by lia,by lia⟩
    ·exact .inr hbst
 have go:∀(x lo hi:Nat),lo<hi->hi<=n->∀(Q':ForInStep (Option (Option Nat)×Nat×Nat)->SortSt->Prop),(∀b,Q' (ForInStep.yield (none,if decide (lo+(hi-lo)/2<c)=true then (lo+(hi-lo)/2+1,hi) else (lo,lo+(hi-lo)/2))) b\/b≠st) ->
   ∀F:Option Bool->StateT SortSt Sem (ForInStep (Option (Option Nat)×Nat×Nat)),(∀b:Bool,F (some b)=if b=true then pure (ForInStep.yield (none,lo+(hi-lo)/2+1,hi)) else pure (ForInStep.yield (none,lo,lo+(hi-lo)/2))) ->
   wpS (model prog w) A E s ((elem' arr (base+(lo+(hi-lo)/2)) >>= λx=>if left=true then lt' x key else lt' key x >>= λr=>pure (Option.map (λx=>!x) r)) >>= F) Q' st:=by
  intro x lo hi jC hn Q' hq F hF;refine Zp (bey _ _ (by lia) ?_);rw[hF];have q:=(hq st).resolve_right (λz=>z rfl);by_cases hm:lo+(hi-lo)/2<c
  ·rw[Zi hm] at q ⊢;exact Zv q
  ·rw[Zk hm] at q ⊢;exact Zv q
 by_cases hr:hint<c
 ·rw[Zi hr];dsimp only;rw[Zr rfl];refine Zp (Wc (YV (I:=λx cc st'=>st'=st/\∃l o,cc=(none,l,o)/\l<o/\hint+l<c/\x<o) (Q:=λcc st'=>st'=st/\∃l o,cc=(none,l,o)/\hint+l<c/\(n-hint<=o\/c<=hint+o)) ?step ?fin ⟨rfl,0,1,rfl,by lia,by lia,by lia⟩) ?post)
  case fin=>
   rintro cc st' ⟨rfl,l,o,rfl,g1,g2,g3⟩;exact⟨rfl,l,o,rfl,g2,.inl (by lia)⟩
  case step=>
   rintro x cc st' _ hx ⟨rfl,l,o,rfl,g1,g2,g3⟩;dsimp only;by_cases ho:o>=n-hint
   ·rw[Zr ho];exact Zv ⟨rfl,l,o,rfl,g2,.inl ho⟩
   ·rw[Zo ho];refine Zp (bey (hint+o) _ (by lia) ?_);by_cases hm:hint+o<c
    ·rw[Zi hm];exact Zv ⟨rfl,o,2*o+1,rfl,by lia,hm,by lia⟩
    ·rw[Zk hm];exact Zv ⟨rfl,l,o,rfl,g2,.inr (by lia)⟩
  case post=>
   rintro cc st' ⟨rfl,l,o,rfl,g2,g3⟩;dsimp only;refine fin (hint+l+1) (hint+min o (n-hint)) (by lia) (by lia) (by lia) _ _ (λx lo hi jC hn' Q' hq=>?_) (λx lo hi vQ=>?_) (λlo hi=>rfl)
   ·dsimp only;rw[Zo (by lia)];exact go x lo hi jC hn' Q' hq _ (λb=>rfl)
   ·dsimp only;rw[Zr vQ]
 ·rw[Zk hr];dsimp only;rw[Zo (by decide)];refine Zp (Wc (YV (I:=λx cc st'=>st'=st/\∃l o,cc=(none,l,o)/\l<o/\c<=hint-l/\l<=hint/\x<o) (Q:=λcc st'=>st'=st/\∃l o,cc=(none,l,o)/\c<=hint-l/\l<=hint/\(hint+1<=o\/(o<=hint/\hint-o<c))) ?step ?fin ⟨rfl,0,1,rfl,by lia,by lia,by lia,by lia⟩) ?post)
  case fin=>
   rintro cc st' ⟨rfl,l,o,rfl,g1,g2,g3,g4⟩;exact⟨rfl,l,o,rfl,g2,g3,.inl (by lia)⟩
  case step=>
   rintro x cc st' _ hx ⟨rfl,l,o,rfl,g1,g2,g3,g4⟩;dsimp only;by_cases ho:o>=hint+1
   ·rw[Zr ho];exact Zv ⟨rfl,l,o,rfl,g2,g3,.inl ho⟩
   ·rw[Zo ho];refine Zp (bey (hint-o) _ (by lia) ?_);by_cases hm:hint-o<c
    ·rw[Zi hm];exact Zv ⟨rfl,l,o,rfl,g2,g3,.inr ⟨by lia,hm⟩⟩
    ·rw[Zk hm];exact Zv ⟨rfl,o,2*o+1,rfl,by lia,by lia,by lia,by lia⟩
  case post=>
   rintro cc st' ⟨rfl,l,o,rfl,g2,g3,g5⟩;dsimp only;refine fin (hint+1-min o (hint+1)) (hint-l) (by lia) (by lia) (by lia) _ _ (λx lo hi jC hn' Q' hq=>?_) (λx lo hi vQ=>?_) (λlo hi=>rfl)
   ·dsimp only;rw[Zo (by lia)];exact go x lo hi jC hn' Q' hq _ (λb=>rfl)
   ·dsimp only;rw[Zr vQ]
end
def SrtK (κ:KeyKind) (xs:Array Keyed) (lo hi:Nat):Prop:=∀i j,lo<=i->i<=j->j<hi->κ.kle (KK κ xs i) (KK κ xs j)
structure Mv (st st':SortSt) (lo hi:Nat):Prop where
 perm:(arrOf st').Perm (arrOf st)
 kind:kindOf st'=kindOf st
 fail:failedOf st'=failedOf st
 pend:pendingOf st'=pendingOf st
 out:∀k:Nat,k<lo\/hi<=k->(arrOf st')[k]?=(arrOf st)[k]?
theorem Mv.refl (st:SortSt) (lo hi:Nat):Mv st st lo hi:=⟨.refl _,rfl,rfl,rfl,λ_ _=>rfl⟩
theorem Mv.trans {a b c:SortSt}{lo hi:Nat}(h:Mv a b lo hi) (k:Mv b c lo hi):Mv a c lo hi:=
 ⟨k.perm.trans h.perm,k.kind.trans h.kind,k.fail.trans h.fail,k.pend.trans h.pend,λi hi=>(k.out i hi).trans (h.out i hi)⟩
theorem Mv.size {a b:SortSt}{lo hi:Nat}(h:Mv a b lo hi):(arrOf b).size=(arrOf a).size:=h.perm.size_eq
theorem ql9 {κ:KeyKind}{xs ys:Array Keyed}(h:KeysOf κ ys) (p:xs.Perm ys):KeysOf κ xs:=λq hq=>h q ((XO.mp p).mem_iff.mp hq)
theorem xr9 {κ:KeyKind}{xs:Array Keyed}(h:KeysOf κ xs){i:Nat}(hi:i<xs.size):∃x p a,xs[i]?=some (x,p)/\κ.keyOf x=some a/\KK κ xs i=a:=by
 obtain⟨a,ha⟩:=h xs[i] (by simp);have e:xs[i]?=some xs[i]:=ZL _ i hi;refine⟨xs[i].1,xs[i].2,a,by rw[e],ha,?_⟩;unfold KK;rw[e];simp[ha]
section
variable {prog:Program}{w:World}{A:Around}{E:Value->Shared->Prop}{s:Shared}{κ:KeyKind}
theorem qu8 {kd:SortKind}(hO:KLt prog w A s κ kd){st:SortSt}{i j:Nat}{Q:Option Bool->SortSt->Prop}(hk:kindOf st=kd) (h0:KeysOf κ (arrOf st)) (hi:i<(arrOf st).size) (hj:j<(arrOf st).size)
  (h:Q (some (κ.blt (KK κ (arrOf st) i) (KK κ (arrOf st) j))) st):wpS (model prog w) A E s (ltAt' i j) Q st:=by
 obtain⟨x,p,a,e1,e2,e3⟩:=xr9 h0 hi;obtain⟨y,q,b,f1,f2,f3⟩:=xr9 h0 hj;rw[e3,f3] at h;rw[ltAt'_eq];refine Zp (WH ?_);exact Zp (qb9 e1 (Zp (qb9 f1 (qA7 hO hk e2 f2 h))))
theorem xk5 {kd:SortKind}(hO:KLt prog w A s κ kd){st:SortSt}{lo n ok:Nat}{Q:Bool->SortSt->Prop}(hk:kindOf st=kd) (h0:KeysOf κ (arrOf st)) (hn:lo+n<=(arrOf st).size) (hok:ok<=n) (hs:SrtK κ (arrOf st) lo (lo+ok))
  (h:∀st',Mv st st' lo (lo+n)->SrtK κ (arrOf st') lo (lo+n)->Q true st'):wpS (model prog w) A E s (binarySort' lo n ok) Q st:=by
 refine Zp (Wc (YV (I:=λk c st'=>c=(none,())/\Mv st st' lo (lo+n)/\SrtK κ (arrOf st') lo (lo+min k n)) (Q:=λc st'=>c=(none,())/\Mv st st' lo (lo+n)/\SrtK κ (arrOf st') lo (lo+n)) ?step ?fin ?init) ?post)
 case post=>
  rintro c st' ⟨rfl,m,o⟩;exact Zv (h st' m o)
 case init=>
  refine⟨rfl,Mv.refl _ _ _,λi j h1 h2 h3=>?_⟩;by_cases z:ok=0
  ·have:i=j:=by lia
   rw[this];exact YA _
  ·exact hs i j h1 h2 (by lia)
 case fin=>
  rintro c st' ⟨rfl,m,o⟩;exact⟨rfl,m,λi j h1 h2 h3=>o i j h1 h2 (by lia)⟩
 case step=>
  rintro k c st1 vE hkn ⟨rfl,m1,o1⟩;have hsz:lo+k<(arrOf st1).size:=by rw[m1.size];lia
  have hk':kindOf st1=kd:=m1.kind.trans hk;have h0':KeysOf κ (arrOf st1):=ql9 h0 m1.perm;have o2:SrtK κ (arrOf st1) lo (lo+k):=λi j h1 h2 h3=>o1 i j h1 h2 (by lia);refine Zp (Wc (YV (I:=λx c st2=>st2=st1/\∃l r,c=(none,l,r)/\l<=r/\r<=k/\r-l<=k-x/\(∀i,i<l->κ.kle (KK κ (arrOf st1) (lo+i)) (KK κ (arrOf st1) (lo+k)))/\(∀i,r<=i->i<k->κ.klt (KK κ (arrOf st1) (lo+k)) (KK κ (arrOf st1) (lo+i))))
   (Q:=λc st2=>st2=st1/\∃l r,c=(none,l,r)/\l<=k/\(∀i,i<l->κ.kle (KK κ (arrOf st1) (lo+i)) (KK κ (arrOf st1) (lo+k)))/\(∀i,l<=i->i<k->κ.klt (KK κ (arrOf st1) (lo+k)) (KK κ (arrOf st1) (lo+i)))) ?istep ?ifin ⟨rfl,0,k,rfl,by lia,by lia,by lia,λi hi=>by lia,λi h1 h2=>by lia⟩) ?ipost)
  case ifin=>
   rintro c st2 ⟨rfl,l,r,rfl,g1,g2,g3,g4,g5⟩;have:r=l:=by lia
   exact⟨rfl,l,r,rfl,by lia,g4,by rw[this] at g5;exact g5⟩
  case istep=>
   rintro x c st2 _ hx ⟨rfl,l,r,rfl,g1,g2,g3,g4,g5⟩;dsimp only;by_cases vQ:l>=r
   ·rw[Zr vQ];have:r=l:=by lia
    exact Zv ⟨rfl,l,r,rfl,by lia,g4,by rw[this] at g5;exact g5⟩
   ·rw[Zo vQ];refine Zp (qu8 hO hk' h0' hsz (show lo+(l+r)/2<_ by lia) ?_);cases hb:κ.blt (KK κ (arrOf st2) (lo+k)) (KK κ (arrOf st2) (lo+(l+r)/2))
    ·refine Zv ⟨rfl,(l+r)/2+1,r,rfl,by lia,by lia,by lia,λi hi=>?_,g5⟩;exact ZP (o2 (lo+i) (lo+(l+r)/2) (by lia) (by lia) (by lia)) (show κ.kle _ _ from hb)
    ·refine Zv ⟨rfl,l,(l+r)/2,rfl,by lia,by lia,by lia,g4,λi h1 h2=>?_⟩;exact Wd hb (o2 (lo+(l+r)/2) (lo+i) (by lia) (by lia) (by lia))
  case ipost=>
   rintro c st2 ⟨rfl,l,r,rfl,g1,g4,g5⟩;dsimp only;have ed:lo+k-(lo+l)=k-l:=by lia
   have es:lo+k-(k-l)=lo+l:=by lia
   refine Zp (m:=moveDown' (lo+k) (lo+l)) ?_;rw[moveDown'_eq];refine Xk (Zv ⟨rfl,m1.trans ⟨bubble_perm _ _ _,rfl,rfl,rfl,λi hi=>?_⟩,λi j h1 h2 h3=>?_⟩)
   ·show (bubble (arrOf st2) (lo+k) (lo+k-(lo+l)))[i]?=_;rw[ed,getElem?_bubble hsz _ (by lia),es,Zo (by lia),Zo (by lia)]
   ·show κ.kle (KK κ (bubble (arrOf st2) (lo+k) (lo+k-(lo+l))) i) (KK κ (bubble (arrOf st2) (lo+k) (lo+k-(lo+l))) j);have h3':j<lo+(k+1):=by lia
    have low:∀i,lo<=i->i<lo+l->κ.kle (KK κ (arrOf st2) i) (KK κ (arrOf st2) (lo+k)):=λi a b=>by
     have:=g4 (i-lo) (by lia)
     rwa [show lo+(i-lo)=i by lia] at this
    have high:∀i,lo+l<=i->i<lo+k->κ.kle (KK κ (arrOf st2) (lo+k)) (KK κ (arrOf st2) i):=λi a b=>by
     have:=ZY (g5 (i-lo) (by lia) (by lia))
     rwa [show lo+(i-lo)=i by lia] at this
    rw[ed,KK_bubble hsz (by lia),KK_bubble hsz (by lia),es]
    repeat' split
    all_goals first
     |(exfalso;lia)
     |exact YA _
     |exact low _ (by lia) (by lia)
     |exact high _ (by lia) (by lia)
     |exact o2 _ _ (by lia) (by lia) (by lia)
theorem qX1 {kd:SortKind}(hO:KLt prog w A s κ kd){st:SortSt}{lo a nrem:Nat}{Q:Option (Option Nat)×Nat->SortSt->Prop}(hk:kindOf st=kd) (h0:KeysOf κ (arrOf st)) (hn:lo+nrem<=(arrOf st).size) (ha:1<=a) (han:a<=nrem) (hs:SrtK κ (arrOf st) lo (lo+a))
  (h:∀n,a<=n->n<=nrem->SrtK κ (arrOf st) lo (lo+n)->(n=nrem\/κ.klt (KK κ (arrOf st) (lo+n)) (KK κ (arrOf st) (lo+n-1)))->Q (none,n) st)
  (f:Nat->Option (Option Nat)×Nat->StateT SortSt Sem (ForInStep (Option (Option Nat)×Nat)))
  (hf:∀x n (Q':ForInStep (Option (Option Nat)×Nat)->SortSt->Prop),lo+n<(arrOf st).size->1<=n->Q' (if κ.blt (KK κ (arrOf st) (lo+n)) (KK κ (arrOf st) (lo+n-1))=true then .done (none,n) else .yield (none,n+1)) st->wpS (model prog w) A E s (f x (none,n)) Q' st) :
  wpS (model prog w) A E s (forIn [a:nrem] (none,a) f) Q st:=by
 refine Wc (YV (I:=λx c st'=>st'=st/\c=(none,x)/\a<=x/\x<=nrem/\SrtK κ (arrOf st) lo (lo+x)) (Q:=λc st'=>st'=st/\∃n,c=(none,n)/\a<=n/\n<=nrem/\SrtK κ (arrOf st) lo (lo+n)/\(n=nrem\/κ.klt (KK κ (arrOf st) (lo+n)) (KK κ (arrOf st) (lo+n-1)))) ?step ?fin ⟨rfl,rfl,Ze _,han,hs⟩) ?post
 case post=>
  rintro c st' ⟨rfl,n,rfl,g1,g2,g3,g4⟩;exact h n g1 g2 g3 g4
 case fin=>
  rintro c st' ⟨rfl,rfl,g1,g2,g3⟩;exact⟨rfl,_,rfl,g1,g2,g3,.inl (by lia)⟩
 case step=>
  rintro x c st' h1 h2 ⟨rfl,rfl,g1,g2,g3⟩;refine hf x x _ (by lia) (by lia) ?_;cases hb:κ.blt (KK κ (arrOf st') (lo+x)) (KK κ (arrOf st') (lo+x-1))
  ·refine⟨rfl,rfl,by lia,by lia,λi j h3 h4 h5=>?_⟩;by_cases hj:j=lo+x
   ·by_cases hi:i=lo+x
    ·rw[hi,hj];exact YA _
    ·rw[hj];exact ZP (g3 i (lo+x-1) h3 (by lia) (by lia)) (show κ.kle _ _ from hb)
   ·exact g3 i j h3 h4 (by lia)
  ·exact⟨rfl,x,rfl,g1,g2,g3,.inr hb⟩
end
def qN2 (κ:KeyKind) (xs:Array Keyed) (lo m:Nat):Prop:=∀i j,lo<=i->i<=j->j<lo+m->κ.kle (KK κ xs j) (KK κ xs i)
def EqK (κ:KeyKind) (xs:Array Keyed) (lo m q:Nat):Prop:=∀i,lo+m-(q+1)<=i->i<lo+m->KK κ xs i=KK κ xs (lo+m-1)
section
variable {prog:Program}{w:World}{A:Around}{E:Value->Shared->Prop}{s:Shared}{κ:KeyKind}
theorem qx9 {st:SortSt}{i j:Nat}{Q:Unit->SortSt->Prop}(h:Q () (setArr st (mirror (arrOf st) i j ((j-i)/2)))):wpS (model prog w) A E s (reverseSlice' i j) Q st:=by
 rw[reverseSlice'_eq];exact Xk h
theorem Mv.rev {st st':SortSt}{lo hi i j:Nat}(h:Mv st st' lo hi) (hi1:lo<=i) (hj:j<=hi) (hs:j<=(arrOf st').size):Mv st (setArr st' (mirror (arrOf st') i j ((j-i)/2))) lo hi:=
 h.trans ⟨mirror_perm _ _ _ _,rfl,rfl,rfl,λk hk=>by
  show (mirror (arrOf st') i j ((j-i)/2))[k]?=_;rw[getElem?_mirror_all hs,Zo (by lia)]⟩
theorem xk6 {st:SortSt}{lo m:Nat}(h:qN2 κ (arrOf st) lo m) (hs:lo+m<=(arrOf st).size):SrtK κ (arrOf (setArr st (mirror (arrOf st) lo (lo+m) ((lo+m-lo)/2)))) lo (lo+m):=λi j h1 h2 h3=>by
 show κ.kle (KK κ (mirror (arrOf st) lo (lo+m) ((lo+m-lo)/2)) i) (KK κ (mirror (arrOf st) lo (lo+m) ((lo+m-lo)/2)) j);rw[KK_mirror hs,KK_mirror hs,Zr (by lia),Zr (by lia)];exact h _ _ (by lia) (by lia) (by lia)
theorem xs0 {st:SortSt}{lo m q:Nat}(h:EqK κ (arrOf st) lo m q) (hs:lo+m<=(arrOf st).size) (k:Nat):KK κ (arrOf (setArr st (mirror (arrOf st) (lo+m-(q+1)) (lo+m) ((lo+m-(lo+m-(q+1)))/2)))) k=KK κ (arrOf st) k:=
 KK_mirror_equal (xs:=arrOf st) hs (λi h1 h2=>h i h1 h2) k
theorem xx6 {G0:Prop}{P G:SortSt->Prop}(a:(∀m,P m->G m)->G0) (b:∀m,P m->G m):G0:=a b
theorem xk7 {kd:SortKind}(hO:KLt prog w A s κ kd){st:SortSt}{lo nrem:Nat}{Q:Option Nat->SortSt->Prop}(hk:kindOf st=kd) (h0:KeysOf κ (arrOf st)) (hn:lo+nrem<=(arrOf st).size) (h1:1<=nrem)
  (h:∀m st',1<=m->m<=nrem->Mv st st' lo (lo+nrem)->SrtK κ (arrOf st') lo (lo+m)->Q (some m) st'):wpS (model prog w) A E s (countRun' lo nrem) Q st:=by
 refine Zp (qX1 hO hk h0 hn (Ze 1) h1 ?_ (λn g1 g2 g3 g4=>?_) _ (λx n Q' e1 e2 hq=>?_))
 ·intro i j a b c;have:i=j:=by lia
  rw[this];exact YA _
 ·dsimp only;by_cases hnn:n=nrem
  ·rw[Zr (by simp[hnn])];exact Zv (h n st g1 g2 (Mv.refl _ _ _) g3)
  ·rw[Zo (by simp[hnn])];have jC:κ.klt (KK κ (arrOf st) (lo+n)) (KK κ (arrOf st) (lo+n-1)):=g4.resolve_left hnn;refine' xx6 (P:=λst1=>Mv st st1 lo (lo+nrem)/\qN2 κ (arrOf st1) lo (n+1)) (G:=_) (λkey=>?ka) (λst1 hP=>?kb)
   case ka=>
    by_cases hn1:n>1
    case pos=>
     rw[Zr hn1];refine Zp (qu8 hO hk h0 (by lia) (by lia) ?_);cases hb:κ.blt (KK κ (arrOf st) lo) (KK κ (arrOf st) (lo+n-1))
     case true=>exact Zv (h n st g1 g2 (Mv.refl _ _ _) g3)
     dsimp only;rw[Zo (by decide)];refine Zp (qx9 ?_);have mv:=(Mv.refl st lo (lo+nrem)).rev (i:=lo) (j:=lo+n) (Ze _) (by lia) (by lia);have alle:∀i,lo<=i->i<lo+n->KK κ (arrOf st) i=KK κ (arrOf st) (lo+n-1):=λi a b=>
      KeyOrd.kle_antisymm (g3 i (lo+n-1) a (by lia) (by lia)) (ZP (show κ.kle _ _ from hb) (g3 lo i (Ze _) a b))
     have kk:∀k,KK κ (arrOf (setArr st (mirror (arrOf st) lo (lo+n) ((lo+n-lo)/2)))) k=KK κ (arrOf st) k:=KK_mirror_equal (xs:=arrOf st) (by lia) alle;have hf:qN2 κ (arrOf (setArr st (mirror (arrOf st) lo (lo+n) ((lo+n-lo)/2)))) lo (n+1):=λi j a b c=>by
      rw[kk,kk];by_cases ej:j=lo+n
      ·by_cases ei:i=lo+n
       ·rw[ei,ej];exact YA _
       ·rw[ej,alle i a (by lia)];exact ZY jC
      ·rw[alle i a (by lia),alle j (by lia) (by lia)];exact YA _
     generalize setArr st (mirror (arrOf st) lo (lo+n) ((lo+n-lo)/2))=st1 at mv hf ⊢;exact key st1 ⟨mv,hf⟩
    case neg=>
     rw[Zo hn1];have hf:qN2 κ (arrOf st) lo (n+1):=λi j a b c=>by
      by_cases e:i=j
      ·rw[e];exact YA _
      ·have e1:i=lo+n-1:=by lia
       have e2:j=lo+n:=by lia
       rw[e1,e2];exact ZY jC
     have mv:=Mv.refl st lo (lo+nrem);exact key st ⟨mv,hf⟩
   case kb=>
    obtain⟨mv,hf⟩:=hP;refine Zp (Ve (Y1 ⟨rfl,?_⟩));refine Zp (Wc (YV (I:=λx c st2=>∃q,c=(none,x,q)/\Mv st st2 lo (lo+nrem)/\n+1<=x/\x<=nrem/\qN2 κ (arrOf st2) lo x/\EqK κ (arrOf st2) lo x q/\q+1<=x) (Q:=λc st2=>∃m q,c=(none,m,q)/\Mv st st2 lo (lo+nrem)/\n+1<=m/\m<=nrem/\qN2 κ (arrOf st2) lo m/\EqK κ (arrOf st2) lo m q/\q+1<=m) ?step ?fin ?init) ?post)
    case init=>
     refine⟨0,rfl,mv,Ze _,by lia,hf,λi a b=>?_,by lia⟩;rw[show i=lo+(n+1)-1 by lia]
    case fin=>
     rintro c st2 ⟨q,rfl,r1,r2,r3,r4,r5,r6⟩;exact⟨_,q,rfl,r1,r2,r3,r4,r5,r6⟩
    case step=>
     rintro x c st2 a b ⟨q,rfl,m2,c1,c2,f2,e2,c3⟩;dsimp only;have hk2:=m2.kind.trans hk;have h02:=ql9 h0 m2.perm;have sz2:=m2.size;refine Zp (qu8 hO hk2 h02 (by lia) (by lia) ?_);cases hb:κ.blt (KK κ (arrOf st2) (lo+x)) (KK κ (arrOf st2) (lo+x-1))
     ·dsimp only;rw[Zo (by decide)];refine Zp (qu8 hO hk2 h02 (by lia) (by lia) ?_);cases kM:κ.blt (KK κ (arrOf st2) (lo+x-1)) (KK κ (arrOf st2) (lo+x))
      ·dsimp only;rw[Zo (by decide)];have eqk:KK κ (arrOf st2) (lo+x)=KK κ (arrOf st2) (lo+x-1):=κ.total _ _ hb kM;refine Zv ⟨q+1,rfl,m2,by lia,by lia,λi j d1 d2 d3=>?_,λi d1 d2=>?_,by lia⟩
       ·by_cases ej:j=lo+x
        ·by_cases ei:i=lo+x
         ·rw[ei,ej];exact YA _
         ·rw[ej,eqk];exact f2 i (lo+x-1) d1 (by lia) (by lia)
        ·exact f2 i j d1 d2 (by lia)
       ·rw[show lo+(x+1)-1=lo+x by lia];by_cases ei:i=lo+x
        ·rw[ei]
        ·rw[eqk];exact e2 i (by lia) (by lia)
      ·exact Zv ⟨x,q,rfl,m2,c1,c2,f2,e2,c3⟩
     ·dsimp only;rw[Zr rfl];have nf:∀st3:SortSt,(∀k,KK κ (arrOf st3) k=KK κ (arrOf st2) k)->qN2 κ (arrOf st3) lo (x+1):=λst3 kk i j d1 d2 d3=>by
       rw[kk,kk];by_cases ej:j=lo+x
       ·by_cases ei:i=lo+x
        ·rw[ei,ej];exact YA _
        ·rw[ej];exact ZP (ZY hb) (f2 i (lo+x-1) d1 (by lia) (by lia))
       ·exact f2 i j d1 d2 (by lia)
      have ne:∀st3:SortSt,EqK κ (arrOf st3) lo (x+1) 0:=λst3 i d1 d2=>by rw[show i=lo+(x+1)-1 by lia]
      by_cases hq:q>0
      ·rw[Zr hq];exact Zp (qx9 (Zv ⟨0,rfl,m2.rev (by lia) (by lia) (by lia),by lia,by lia,nf _ (xs0 e2 (by lia)),ne _,by lia⟩))
      ·rw[Zo hq];exact Zv ⟨0,rfl,m2,by lia,by lia,nf _ (λ_=>rfl),ne _,by lia⟩
    case post=>
     rintro c st2 ⟨m,q,rfl,m2,c1,c2,f2,e2,c3⟩;dsimp only;have sz2:=m2.size;by_cases hq:q>0
     case' neg=>
      rw[Zo hq];have m3:=m2;have f3:=f2;generalize st2=st3 at m3 f3 ⊢
     case' pos=>
      rw[Zr hq];refine Zp (qx9 ?_);have m3:=m2.rev (i:=lo+m-(q+1)) (j:=lo+m) (by lia) (by lia) (by lia);have kk:=xs0 e2 (by lia);have f3:qN2 κ (arrOf (setArr st2 (mirror (arrOf st2) (lo+m-(q+1)) (lo+m) ((lo+m-(lo+m-(q+1)))/2)))) lo m:=λi j d1 d2 d3=>by rw[kk,kk];exact f2 i j d1 d2 d3
      generalize setArr st2 (mirror (arrOf st2) (lo+m-(q+1)) (lo+m) ((lo+m-(lo+m-(q+1)))/2))=st3 at m3 f3 ⊢
     all_goals
      refine Zp (qx9 ?_);have m4:=m3.rev (i:=lo) (j:=lo+m) (Ze _) (by lia) (by rw[m3.size];lia);have o4:=xk6 f3 (by rw[m3.size];lia);have hk4:=m4.kind.trans hk;have h04:=ql9 h0 m4.perm;have z4:=m4.size;generalize setArr st3 (mirror (arrOf st3) lo (lo+m) ((lo+m-lo)/2))=st4 at m4 o4 hk4 h04 z4 ⊢;refine Zp (qX1 hO hk4 h04 (by lia) (show 1<=m by lia) c2 o4 (λk k1 k2 k3 _=>?_) _ (λx k Q' e1 e2 hq=>?_))
      ·exact Zv (h k st4 (by lia) k2 m4 k3)
      ·refine Zp (qu8 hO hk4 h04 e1 (by lia) ?_);cases hb:κ.blt (KK κ (arrOf st4) (lo+k)) (KK κ (arrOf st4) (lo+k-1))
       ·rw[hb] at hq;exact Zv hq
       ·rw[hb] at hq;exact Zv hq
 ·refine Zp (qu8 hO hk h0 e1 (by lia) ?_);cases hb:κ.blt (KK κ (arrOf st) (lo+n)) (KK κ (arrOf st) (lo+n-1))
  ·rw[hb] at hq;exact Zv hq
  ·rw[hb] at hq;exact Zv hq
end
def kv (κ:KeyKind) (p:Keyed):κ.α:=(κ.keyOf p.1).getD κ.dflt
def Asc (κ:KeyKind) (l:List Keyed):Prop:=l.Pairwise λx y=>κ.kle (kv κ x) (kv κ y)
structure Mg (κ:KeyKind) (all out a b:List Keyed):Prop where
 perm:(out++(a++b)).Perm all
 so:Asc κ out
 sa:Asc κ a
 sb:Asc κ b
 la:∀x∈out,∀y∈a,κ.kle (kv κ x) (kv κ y)
 lb:∀x∈out,∀y∈b,κ.kle (kv κ x) (kv κ y)
theorem Mg.takeA {κ:KeyKind}{all out a b:List Keyed}{x:Keyed}(m:Mg κ all out (x::a) b) (h:∀y∈b,κ.kle (kv κ x) (kv κ y)):Mg κ all (out++[x]) a b where
 perm:=by simpa using m.perm
 so:=XQ.mpr ⟨m.so,by simp,λp hp q hq=>by
  have:q=x:=by simpa using hq
  rw[this];exact m.la p hp x (by simp)⟩
 sa:=(Y8.mp m.sa).2
 sb:=m.sb
 la:=λp hp y hy=>by
  rcases Z2.mp hp with z|z
  ·exact m.la p z y (Zs _ hy)
  ·have:p=x:=by simpa using z
   rw[this];exact (Y8.mp m.sa).1 y hy
 lb:=λp hp y hy=>by
  rcases Z2.mp hp with z|z
  ·exact m.lb p z y hy
  ·have:p=x:=by simpa using z
   rw[this];exact h y hy
theorem Mg.swap {κ:KeyKind}{all out a b:List Keyed}(m:Mg κ all out a b):Mg κ all out b a where
 perm:=(WD out List.perm_append_comm).trans m.perm
 so:=m.so
 sa:=m.sb
 sb:=m.sa
 la:=m.lb
 lb:=m.la
theorem Mg.takeB {κ:KeyKind}{all out a b:List Keyed}{x:Keyed}(m:Mg κ all out a (x::b)) (h:∀y∈a,κ.kle (kv κ x) (kv κ y)):Mg κ all (out++[x]) a b:=(m.swap.takeA h).swap
theorem Mg.doneB {κ:KeyKind}{all out a:List Keyed}(m:Mg κ all out a []):(out++a).Perm all/\Asc κ (out++a):=
 ⟨by simpa using m.perm,XQ.mpr ⟨m.so,m.sa,m.la⟩⟩
theorem Mg.doneAB {κ:KeyKind}{all out a b:List Keyed}(m:Mg κ all out a b) (h:∀y∈b,∀x∈a,κ.kle (kv κ y) (kv κ x)):(out++(b++a)).Perm all/\Asc κ (out++(b++a)):=
 ⟨m.swap.perm,XQ.mpr ⟨m.so,XQ.mpr ⟨m.sb,m.sa,h⟩,λx hx y hy=>(Z2.mp hy).elim (m.lb x hx y) (m.la x hx y)⟩⟩
def xk8:Array Keyed->Array Keyed->StateT SortSt Sem (Array Keyed):=sortPriv% PySem.Builtin.mergeLo
abbrev qs4 (st:SortSt) (g:Nat):SortSt:=SortSt.mk' (kindOf st) (arrOf st) (pendingOf st) g (failedOf st)
theorem Mg.takesA {κ:KeyKind}{all b:List Keyed}:∀{out l a:List Keyed},Mg κ all out (l++a) b->(∀x∈l,∀y∈b,κ.kle (kv κ x) (kv κ y))->Mg κ all (out++l) a b
 |out,[],a,m,_=>by rw[YK];exact m
 |out,x::l,a,m,h=>by
  have:=(m.takeA (λy hy=>h x (by simp) y hy)).takesA (λz hz=>h z (by simp[hz]))
  rwa [Z3] at this
theorem Mg.takesB {κ:KeyKind}{all out l a b:List Keyed}(m:Mg κ all out a (l++b)) (h:∀x∈l,∀y∈a,κ.kle (kv κ x) (kv κ y)):Mg κ all (out++l) a b:=(m.swap.takesA h).swap
theorem qN3 {p:Nat->Bool}:∀n:Nat,(∀i j,i<=j->j<n->p j=true->p i=true)->∃c,c<=n/\∀i,i<n->p i=decide (i<c)
 |0,_=>⟨0,Ze _,λi hi=>absurd hi (Nat.not_lt_zero _)⟩
 |n+1,h=>by
  obtain⟨c,c1,c2⟩:=qN3 n (λi j a b e=>h i j a (by lia) e);cases e:p n with
  |true=>
   exact⟨n+1,Ze _,λi hi=>by rw[h i n (by lia) (by lia) e,Zi hi]⟩
  |false=>
   refine⟨c,by lia,λi hi=>?_⟩;by_cases en:i=n
   ·rw[en,e,Zk (by lia)]
   ·exact c2 i (by lia)
theorem xb7 {a:Array Keyed}{i:Nat}(h:i<a.size):a.toList.drop i=a[i]::a.toList.drop (i+1):=by
 rw[XZ (by simpa using h)];simp
theorem qs5 {κ:KeyKind}{a:Array Keyed}(h:KeysOf κ a){i:Nat}(hi:i<a.size):κ.keyOf a[i].1=some (kv κ a[i]):=by
 obtain⟨x,e⟩:=h a[i] (by simp);rw[e];unfold kv;rw[e];rfl
theorem qm0 {κ:KeyKind}{a:Array Keyed}(h:Asc κ a.toList){i j:Nat}(kD:i<=j) (hj:j<a.size):κ.kle (kv κ a[i]) (kv κ a[j]):=by
 rcases Nat.lt_or_eq_of_le kD with z|z
 ·have:=Xb.mp h i j (by simp;lia) (by simpa using hj) z;simpa using this
 ·subst z;exact YA _
theorem qp2 {a:Array Keyed}{i:Nat}{x:Keyed}(h:x∈a.toList.drop i):∃j,∃hj:j<a.size,i<=j/\a[j]=x:=by
 obtain⟨k,hk,e⟩:=Yx h;have hk':i+k<a.size:=by simp at hk;lia
 exact⟨i+k,hk',by lia,by rw[<- e];simp⟩
theorem qN4 {κ:KeyKind}{a:Array Keyed}(ka:KeysOf κ a) (sa:Asc κ a.toList) (k:κ.α){base n:Nat}(hn:base+n<=a.size) :
  ∃c,c<=n/\(∀i,i<n->∃x y,a[base+i]?=some x/\κ.keyOf x.1=some y/\asks false k y=decide (i<c))/\∀i,(h:base+i<a.size)->i<n->(i<c->κ.kle (kv κ a[base+i]) k)/\(c<=i->κ.klt k (kv κ a[base+i])):=by
 have key:∀i,(h:base+i<a.size)->KK κ a (base+i)=kv κ a[base+i]:=λi h=>by unfold KK kv;rw[ZL a _ h]
 obtain⟨c,c1,c2⟩:=qN3 (p:=λi=>!κ.blt k (KK κ a (base+i))) n (λi j kD hj e=>by
  simp only[YY] at e ⊢;rw[key _ (by lia)] at e ⊢;exact ZP (qm0 sa (by lia) (by lia)) e)
 refine⟨c,c1,λi hi=>⟨_,_,ZL a _ (by lia),qs5 ka (by lia),?_⟩,λi h hi=>⟨λhc=>?_,λhc=>?_⟩⟩
 ·rw[<- c2 i hi,key i (by lia)];rfl
 ·have e:=c2 i hi;rw[key i h,Zi hc] at e;exact (YY _).mp e
 ·have e:=c2 i hi;rw[key i h,Zk (by lia)] at e;exact (Bool.not_eq_false' _).mp e
theorem qX2 {κ:KeyKind}{a:Array Keyed}(ka:KeysOf κ a) (sa:Asc κ a.toList) (k:κ.α){base n:Nat}(hn:base+n<=a.size) :
  ∃c,c<=n/\(∀i,i<n->∃x y,a[base+i]?=some x/\κ.keyOf x.1=some y/\asks true k y=decide (i<c))/\∀i,(h:base+i<a.size)->i<n->(i<c->κ.klt (kv κ a[base+i]) k)/\(c<=i->κ.kle k (kv κ a[base+i])):=by
 have key:∀i,(h:base+i<a.size)->KK κ a (base+i)=kv κ a[base+i]:=λi h=>by unfold KK kv;rw[ZL a _ h]
 obtain⟨c,c1,c2⟩:=qN3 (p:=λi=>κ.blt (KK κ a (base+i)) k) n (λi j kD hj e=>by
  rw[key _ (by lia)] at e ⊢;exact KeyOrd.klt_of_kle_of_klt (qm0 sa (by lia) (by lia)) e)
 refine⟨c,c1,λi hi=>⟨_,_,ZL a _ (by lia),qs5 ka (by lia),?_⟩,λi h hi=>⟨λhc=>?_,λhc=>?_⟩⟩
 ·rw[<- c2 i hi,key i (by lia)];rfl
 ·have e:=c2 i hi;rw[key i h,Zi hc] at e;exact e
 ·have e:=c2 i hi;rw[key i h,Zk (by lia)] at e;exact e
def Mp (κ:KeyKind) (a b out:Array Keyed) (ia ib:Nat):Prop:=Mg κ (a.toList++b.toList) out.toList (a.toList.drop ia) (b.toList.drop ib)
abbrev Rd (κ:KeyKind) (a b out:Array Keyed):Prop:=out.toList.Perm (a.toList++b.toList)/\Asc κ out.toList
section
variable {κ:KeyKind}{a b out:Array Keyed}{ia ib:Nat}
theorem Mp.ta (sb:Asc κ b.toList) (m:Mp κ a b out ia ib) (hia:ia<a.size) (hib:ib<b.size) (h:κ.kle (kv κ a[ia]) (kv κ b[ib])):Mp κ a b (out.push a[ia]) (ia+1) ib:=by
 unfold Mp at m ⊢;rw[xb7 hia] at m;rw[XI];refine m.takeA λy hy=>?_;obtain⟨j,hj,h1,rfl⟩:=qp2 hy;exact ZP h (qm0 sb h1 hj)
theorem Mp.tb (sa:Asc κ a.toList) (m:Mp κ a b out ia ib) (hia:ia<a.size) (hib:ib<b.size) (h:κ.kle (kv κ b[ib]) (kv κ a[ia])):Mp κ a b (out.push b[ib]) ia (ib+1):=by
 unfold Mp at m ⊢;rw[xb7 hib] at m;rw[XI];refine m.takeB λy hy=>?_;obtain⟨j,hj,h1,rfl⟩:=qp2 hy;exact ZP h (qm0 sa h1 hj)
theorem qX3 {a:Array Keyed}{i k:Nat}(h:i+k<=a.size):a.toList.drop i=(a.extract i (i+k)).toList++a.toList.drop (i+k):=by
 rw[Xg,List.extract_eq_drop_take,<- Vo,show i+k-i=k by lia,Yz]
theorem xb8 {a:Array Keyed}{i k:Nat}(h:i+k<=a.size){x:Keyed}(hx:x∈(a.extract i (i+k)).toList):∃j,∃hj:i+j<a.size,j<k/\a[i+j]=x:=by
 obtain⟨j,hj,e⟩:=Yx hx;have hj':j<k:=by simp at hj;lia
 exact⟨j,by lia,hj',by rw[<- e];simp⟩
theorem Mp.as (sb:Asc κ b.toList) (m:Mp κ a b out ia ib){k:Nat}(hk:ia+k<=a.size) (hib:ib<b.size) (h:∀i,(hi:ia+i<a.size)->i<k->κ.kle (kv κ a[ia+i]) (kv κ b[ib])):Mp κ a b (out++a.extract ia (ia+k)) (ia+k) ib:=by
 unfold Mp at m ⊢;rw[qX3 hk] at m;rw[Z1];refine m.takesA λx hx y hy=>?_;obtain⟨i,hi,wD,rfl⟩:=xb8 hk hx;obtain⟨j,hj,h1,rfl⟩:=qp2 hy;exact ZP (h i hi wD) (qm0 sb h1 hj)
theorem Mp.bs (sa:Asc κ a.toList) (m:Mp κ a b out ia ib){k:Nat}(hk:ib+k<=b.size) (hia:ia<a.size) (h:∀i,(hi:ib+i<b.size)->i<k->κ.kle (kv κ b[ib+i]) (kv κ a[ia])):Mp κ a b (out++b.extract ib (ib+k)) ia (ib+k):=by
 unfold Mp at m ⊢;rw[qX3 hk] at m;rw[Z1];refine m.takesB λx hx y hy=>?_;obtain⟨i,hi,wD,rfl⟩:=xb8 hk hx;obtain⟨j,hj,h1,rfl⟩:=qp2 hy;exact ZP (h i hi wD) (qm0 sa h1 hj)
theorem qH8 {a:Array Keyed}{i:Nat}:(a.extract i a.size).toList=a.toList.drop i:=by
 rw[Xg,List.extract_eq_drop_take,Yv (by simp)]
theorem Mp.done (m:Mp κ a b out ia ib) (h:ib=b.size):Rd κ a b (out++a.extract ia a.size++b.extract ib b.size):=by
 unfold Mp at m;have e:b.toList.drop ib=[]:=by rw[h];simp
 rw[e] at m;show (out++a.extract ia a.size++b.extract ib b.size).toList.Perm _/\Asc κ (out++a.extract ia a.size++b.extract ib b.size).toList;rw[Z1,Z1,qH8,qH8,e,YK];exact m.doneB
def ap1 {α:Type}{β:Type _}(f:α->β) (x:α):β:=f x
def ap2 {α γ:Type}{β:Type _}(f:α->γ->β) (x:α) (y:γ):β:=f x y
theorem qd4 {M:Model}{A:Around}{E:Value->Shared->Prop}{s:Shared}{σ α:Type}{c:Prop}[Decidable c]{x y:StateT σ Sem α}{Q:α->σ->Prop}{st:σ}(h:c) (k:wpS M A E s x Q st):wpS M A E s (if c then x else y) Q st:=by rw[Zr h];exact k
theorem qd0 {M:Model}{A:Around}{E:Value->Shared->Prop}{s:Shared}{σ α:Type}{c:Prop}[Decidable c]{x y:StateT σ Sem α}{Q:α->σ->Prop}{st:σ}(h:¬c) (k:wpS M A E s y Q st):wpS M A E s (if c then x else y) Q st:=by rw[Zo h];exact k
theorem qu9 {M:Model}{A:Around}{E:Value->Shared->Prop}{s:Shared}{σ α:Type}{c:Prop}[Decidable c]{x y:StateT σ Sem α}{Q:α->σ->Prop}{st:σ}(h:c->wpS M A E s x Q st) (k:¬c->wpS M A E s y Q st):wpS M A E s (if c then x else y) Q st:=
 if e:c then qd4 e (h e) else qd0 e (k e)
theorem qp3 {M:Model}{A:Around}{E:Value->Shared->Prop}{s:Shared}{σ β γ:Type}{a b:Nat}{f:Nat->β->StateT σ Sem (ForInStep β)}{k:β->StateT σ Sem γ}{Q0:γ->σ->Prop}(I:Nat->β->σ->Prop){Q:β->σ->Prop}
  (step:∀(i:Nat) (c:β) (st:σ),a<=i->i<b->I i c st->wpS M A E s (ap2 f i c) (λr st'=>match r with|ForInStep.done c'=>Q c' st'|ForInStep.yield c'=>I (i+1) c' st') st)
  (fin:∀(c:β) (st:σ),I (max a b) c st->Q c st){c:β}{st:σ}(init:I a c st) (post:∀c' st',Q c' st'->wpS M A E s (ap1 k c') Q0 st'):wpS M A E s (forIn [a:b] c f >>= k) Q0 st:=Zp (Wc (YV I step fin init) post)
theorem xs1 {G0:Prop}{P G:Nat->Prop}(a:(∀m,P m->G m)->G0) (b:∀m,P m->G m):G0:=a b
theorem xx7 {G0:Prop}{P G:Nat->Array Keyed->Prop}(a:(∀m o,P m o->G m o)->G0) (b:∀m o,P m o->G m o):G0:=a b
theorem Mp.last (m:Mp κ a b out ia ib) (na:0<a.size) (h2:∀j,(hj:j<b.size)->κ.klt (kv κ b[j]) (kv κ a[a.size-1])) (h:ia+1=a.size):Rd κ a b (out++b.extract ib b.size++a.extract ia a.size):=by
 show (out++b.extract ib b.size++a.extract ia a.size).toList.Perm _/\Asc κ (out++b.extract ib b.size++a.extract ia a.size).toList;rw[Z1,Z1,qH8,qH8,Z3];refine Mg.doneAB m λy hy x hx=>?_;obtain⟨i,hi,h3,rfl⟩:=qp2 hx;obtain⟨j,hj,_,rfl⟩:=qp2 hy;have:i=a.size-1:=by lia
 subst this;exact ZY (h2 j hj)
end
def LoI (κ:KeyKind) (a b:Array Keyed) (st:SortSt) (x:Nat) (out:Array Keyed) (ia ib:Nat) (st':SortSt):Prop:=(∃g,st'=qs4 st g)/\Mp κ a b out ia ib/\ia+1<a.size/\ib<b.size/\x<=ia+ib
def LoD (κ:KeyKind) (a b:Array Keyed) (st:SortSt) (o:Option (Array Keyed)) (st':SortSt):Prop:=∃r,o=some r/\(∃g,st'=qs4 st g)/\Rd κ a b r
theorem LoI.of {κ:KeyKind}{a b out:Array Keyed}{st:SortSt}{x g ia ib:Nat}(m:Mp κ a b out ia ib) (h1:ia+1<a.size) (h2:ib<b.size) (h3:x<=ia+ib):LoI κ a b st x out ia ib (qs4 st g):=⟨⟨g,rfl⟩,m,h1,h2,h3⟩
theorem LoI.mono {κ:KeyKind}{a b out:Array Keyed}{st st':SortSt}{x y ia ib:Nat}(j:LoI κ a b st x out ia ib st') (h:y<=x):LoI κ a b st y out ia ib st':=⟨j.1,j.2.1,j.2.2.1,j.2.2.2.1,ZK h j.2.2.2.2⟩
section
variable {prog:Program}{w:World}{A:Around}{E:Value->Shared->Prop}{s:Shared}{κ:KeyKind}
theorem qS4 {kd:SortKind}(hO:KLt prog w A s κ kd){st:SortSt}{a b:Array Keyed}{Q:Array Keyed->SortSt->Prop}(hk0:kindOf st=kd) (ka:KeysOf κ a) (kb:KeysOf κ b) (sa:Asc κ a.toList) (sb:Asc κ b.toList)
  (na:0<a.size) (nb:0<b.size) (h1:κ.klt (kv κ b[0]) (kv κ a[0])) (h2:∀j,(hj:j<b.size)->κ.klt (kv κ b[j]) (kv κ a[a.size-1]))
  (h:∀out g,Rd κ a b out->Q out (qs4 st g)):wpS (model prog w) A E s (xk8 a b) Q st:=by
 have hk:∀g,kindOf (qs4 st g)=kd:=λg=>hk0;refine Zp (Ve (Y1 ⟨rfl,?_⟩));refine Zp (qb9 (ZL b 0 nb) ?_);have m0:Mp κ a b #[b[0]] 0 1:=by
  refine Mp.tb (out:=#[]) (ib:=0) sa ⟨by simp,by simp[Asc],by simpa using sa,by simpa using sb,by simp,by simp⟩ na nb (ZY h1)
 by_cases e0:1=b.size
 ·exact qd4 (by simp[<- e0]) (Zv (h _ (gallopOf st) (m0.done e0)))
 refine qd0 (by simpa using e0) ?_;by_cases e1:0+1=a.size
 ·exact qd4 (by simp[<- e1]) (Zv (h _ (gallopOf st) (m0.last na h2 e1)))
 refine qd0 (by simpa using e1) ?_;refine Zp (WH ?_);refine qp3 (I:=λx c st'=>LoI κ a b st x c.2.1 c.2.2.1 c.2.2.2.1 st') (Q:=λc st'=>LoD κ a b st c.1 st') ?step ?fin (LoI.of (g:=gallopOf st) (ia:=0) (ib:=1) m0 (by lia) (by lia) (by lia)) ?post
 case post=>
  rintro⟨c1,c2⟩ st' ⟨r,e,⟨g,rfl⟩,hr⟩;cases (show c1=some r from e);exact Zv (h r g hr)
 case fin=>
  rintro c st' ⟨_,m,y1,y2,y3⟩;lia
 case step=>
  rintro x c st' _ hx ⟨⟨g,rfl⟩,m0,y1,y2,y3⟩;refine qp3 (I:=λy c st'=>LoI κ a b st (x+y) c.2.1 c.2.2.1 c.2.2.2.1 st') (Q:=λc st'=>c.1=none/\LoI κ a b st (x+1) c.2.1 c.2.2.1 c.2.2.2.1 st'\/LoD κ a b st c.1 st') ?step ?fin (LoI.of (g:=g) m0 y1 y2 (by lia)) ?post
  case fin=>
   rintro c st' ⟨_,m,y1,y2,y3⟩;lia
  case step=>
   rintro y c st' _ hy ⟨⟨g,rfl⟩,m,y1,y2,y3⟩;refine Zp (qb9 (ZL b c.2.2.2.1 y2) ?_);refine Zp (qb9 (ZL a c.2.2.1 (by lia)) ?_);refine Zp (qA7 hO (hk g) (qs5 kb y2) (qs5 ka (by lia)) ?_);by_cases hb:κ.blt (kv κ b[c.2.2.2.1]) (kv κ (a[c.2.2.1]'(by lia)))=true
   ·refine qd4 hb ?_;refine Zp (qb9 (ZL b c.2.2.2.1 y2) ?_);have m1:=m.tb sa (by lia) y2 (ZY hb);by_cases e1:c.2.2.2.1+1=b.size
    ·exact qd4 (by simp[e1]) (Zv (.inr ⟨_,rfl,⟨_,rfl⟩,m1.done e1⟩))
    have j:=LoI.of (st:=st) (g:=g) (x:=x+(y+1)) m1 y1 (by lia) (by lia);exact qd0 (by simp[e1]) (qu9 (λ_=>Zv (.inl ⟨rfl,j.mono (by lia)⟩)) λ_=>Zv j)
   ·refine qd0 hb ?_;refine Zp (qb9 (ZL a c.2.2.1 (by lia)) ?_);have m1:=m.ta sb (by lia) y2 (eq_false_of_ne_true hb);by_cases e1:c.2.2.1+1+1=a.size
    ·exact qd4 (by simp[e1]) (Zv (.inr ⟨_,rfl,⟨_,rfl⟩,m1.last na h2 e1⟩))
    have j:=LoI.of (st:=st) (g:=g) (x:=x+(y+1)) m1 (by lia) y2 (by lia);exact qd0 (by simp[e1]) (qu9 (λ_=>Zv (.inl ⟨rfl,j.mono (by lia)⟩)) λ_=>Zv j)
  case post=>
   rintro⟨c1,c2⟩ st' (⟨e,⟨g,rfl⟩,m,y1,y2,y3⟩|⟨r,e,hg,hr⟩)
   ·cases (show c1=none from e);refine Zp (Ve (Y1 ⟨rfl,?_⟩));refine qp3 (I:=λy c st'=>LoI κ a b st (x+1+y) c.2.1 c.2.2.1 c.2.2.2.1 st') (Q:=λc st'=>c.1=none/\LoI κ a b st (x+1) c.2.1 c.2.2.1 c.2.2.2.1 st'\/LoD κ a b st c.1 st') ?step ?fin (LoI.of (g:=g) m y1 y2 y3) ?post
    case fin=>
     rintro c st' ⟨_,m,y1,y2,y3⟩;lia
    case post=>
     rintro⟨c1,c2⟩ st' (⟨e,⟨g,rfl⟩,m,y1,y2,y3⟩|⟨r,e,hg,hr⟩)
     ·cases (show c1=none from e);exact Zp (Xk (Zv ⟨⟨_,rfl⟩,m,y1,y2,y3⟩))
     ·cases (show c1=some r from e);exact Zv ⟨r,rfl,hg,hr⟩
    case step=>
     rintro y c st' _ hy ⟨⟨g,rfl⟩,m1,y1,y2,y3⟩;refine' xs1 (P:=λ_=>True) (G:=_) (λkey=>?ka) (λm _=>?kb)
     case ka=>
      by_cases hc:c.2.2.2.2.1>1
      case neg=>
       refine qd0 hc ?_;generalize c.2.2.2.2.1=mg;exact key mg trivial
      case pos=>exact qd4 hc (key _ trivial)
     case kb=>
      refine Zp (Xk ?_);refine Zp (qb9 (ZL b c.2.2.2.1 y2) ?_);obtain⟨k,c1,c2,c3⟩:=qN4 ka sa (kv κ b[c.2.2.2.1]) (base:=c.2.2.1) (n:=a.size-c.2.2.1) (by lia);refine Zp (qj6 hO (hk m) (qs5 kb y2) c2 (by lia) c1 ?_);have lc:k<a.size-c.2.2.1:=by
       rcases Nat.lt_or_ge k (a.size-c.2.2.1) with z|z
       ·exact z
       ·have:=(c3 (a.size-1-c.2.2.1) (by lia) (by lia)).1 (by lia);have e:a[c.2.2.1+(a.size-1-c.2.2.1)]'(by lia)=a[a.size-1]:=by congr 1;lia
        rw[e] at this;exact absurd (h2 c.2.2.2.1 y2) (WE this)
      refine' xx7 (P:=λia1 out1=>∃hz:ia1+1<a.size,c.2.2.1<=ia1/\Mp κ a b out1 ia1 c.2.2.2.1/\κ.klt (kv κ (b[c.2.2.2.1]'y2)) (kv κ (a[ia1]'(by lia)))) (G:=_) (λkey=>?kc) (λia1 out1 hP=>?kd)
      case kc=>
       by_cases hc:k>0
       case neg=>
        refine qd0 hc ?_;have q2:κ.klt (kv κ b[c.2.2.2.1]) (kv κ a[c.2.2.1]):=(c3 0 (by lia) (by lia)).2 (by lia);have key':=key c.2.2.1 c.2.1 ⟨y1,Ze _,m1,q2⟩;generalize c.2.2.1=ia at key' ⊢;generalize c.2.1=out at key' ⊢;exact key'
       case pos=>
        refine qd4 hc ?_;have m2:=m1.as sb (k:=k) (by lia) y2 (λi hi hic=>(c3 i hi (by lia)).1 hic);have q2:κ.klt (kv κ b[c.2.2.2.1]) (kv κ a[c.2.2.1+k]):=(c3 k (by lia) (by lia)).2 (Ze _);by_cases e2:c.2.2.1+k+1=a.size
        ·exact qd4 (by simp[e2]) (Zv (.inr ⟨_,rfl,⟨_,rfl⟩,m2.last na h2 e2⟩))
        exact qd0 (by simp[e2]) (qd0 (by simp;lia) (key _ _ ⟨by lia,by lia,m2,q2⟩))
      case kd=>
       obtain⟨hz,vQ,m2,q2⟩:=hP;refine Zp (qb9 (ZL b c.2.2.2.1 y2) ?_);have m3:=m2.tb sa (by lia) y2 (ZY q2);by_cases e3:c.2.2.2.1+1=b.size
       ·exact qd4 (by simp[e3]) (Zv (.inr ⟨_,rfl,⟨_,rfl⟩,m3.done e3⟩))
       refine qd0 (by simp[e3]) ?_;refine Zp (qb9 (ZL a ia1 (by lia)) ?_);obtain⟨d,d1,d2,d3⟩:=qX2 kb sb (kv κ a[ia1]) (base:=c.2.2.2.1+1) (n:=b.size-(c.2.2.2.1+1)) (by lia);refine Zp (qj6 hO (hk m) (qs5 ka (by lia)) d2 (by lia) d1 ?_);by_cases hd:d>0
       case' neg=>
        refine qd0 hd ?_;have m4:=m3;have q4:κ.kle (kv κ a[ia1]) (kv κ b[c.2.2.2.1+1]):=(d3 0 (by lia) (by lia)).2 (by lia)
       case' pos=>
        refine qd4 hd ?_;have m4:=m3.bs sa (k:=d) (by lia) (by lia) (λi hi hid=>ZY ((d3 i hi (by lia)).1 hid));by_cases e4:c.2.2.2.1+1+d=b.size
        ·exact qd4 (by simp[e4]) (Zv (.inr ⟨_,rfl,⟨_,rfl⟩,m4.done e4⟩))
        refine qd0 (by simp[e4]) ?_;have q4:κ.kle (kv κ a[ia1]) (kv κ b[c.2.2.2.1+1+d]):=(d3 d (by lia) (by lia)).2 (Ze _)
       all_goals
        refine Zp (qb9 (ZL a ia1 (by lia)) ?_);have m5:=m4.ta sb (by lia) (by lia) q4;by_cases e5:ia1+1+1=a.size
        ·exact qd4 (by simp[e5]) (Zv (.inr ⟨_,rfl,⟨_,rfl⟩,m5.last na h2 e5⟩))
        have j:=LoI.of (st:=st) (g:=m) (x:=x+1+(y+1)) m5 (by lia) (by lia) (by lia);exact qd0 (by simp[e5]) (qu9 (λ_=>Zv (.inl ⟨rfl,j.mono (by lia)⟩)) λ_=>Zv j)
   ·cases (show c1=some r from e);exact Zv ⟨r,rfl,hg,hr⟩
end
def xk9:Array Keyed->Array Keyed->StateT SortSt Sem (Array Keyed):=sortPriv% PySem.Builtin.mergeHi
def xx8 (κ:KeyKind):KeyKind where
 α:=κ.α
 blt:=λa b=>κ.blt b a
 irrefl:=κ.irrefl
 trans:=λa b c h1 h2=>κ.trans _ _ _ h2 h1
 negTrans:=λa b c h=>(κ.negTrans _ b _ h).symm
 total:=λa b h1 h2=>κ.total _ _ h2 h1
 keyOf:=κ.keyOf
 dflt:=κ.dflt
theorem qX4 {κ:KeyKind}{l:List Keyed}(h:Asc (xx8 κ) l):Asc κ l.reverse:=List.pairwise_reverse.mpr h
theorem qN5 {κ:KeyKind}{l:List Keyed}(h:Asc κ l):Asc (xx8 κ) l.reverse:=List.pairwise_reverse.mpr h
theorem xb9 {a:Array Keyed}{n:Nat}(h:n<a.size):(a.toList.take (n+1)).reverse=a[n]::(a.toList.take n).reverse:=by
 rw[Yo (by simpa using h),Xn];simp
theorem qp4 {a:Array Keyed}{n:Nat}{x:Keyed}(h:x∈(a.toList.take n).reverse):∃j,∃hj:j<a.size,j<n/\a[j]=x:=by
 obtain⟨k,hk,e⟩:=Yx (List.mem_reverse.mp h);have hk':k<n/\k<a.size:=by simp at hk;lia
 exact⟨k,hk'.2,hk'.1,by rw[<- e];simp⟩
theorem qX5 {a:Array Keyed}{i n:Nat}(h:i<=n) (hn:n<=a.size):(a.toList.take n).reverse=(a.extract i n).reverse.toList++(a.toList.take i).reverse:=by
 rw[XR,Xg,List.extract_eq_drop_take,<- Xn,<- List.take_add,show i+(n-i)=n by lia]
theorem qX6 {a:Array Keyed}{i n:Nat}(hn:n<=a.size){x:Keyed}(hx:x∈(a.extract i n).reverse.toList):∃j,∃hj:j<a.size,i<=j/\j<n/\a[j]=x:=by
 rw[XR] at hx;obtain⟨j,hj,e⟩:=Yx (List.mem_reverse.mp hx);have hj':i+j<n:=by simp at hj;lia
 exact⟨i+j,by lia,by lia,hj',by rw[<- e];simp⟩
theorem qH9 {a:Array Keyed}{n:Nat}:(a.extract 0 n).toList=a.toList.take n:=by
 rw[Xg,List.extract_eq_drop_take];simp
def Hp (κ:KeyKind) (a b out:Array Keyed) (na nb:Nat):Prop:=Mg (xx8 κ) (a.toList++b.toList) out.toList (a.toList.take na).reverse (b.toList.take nb).reverse
section
variable {κ:KeyKind}{a b out:Array Keyed}{na nb:Nat}
theorem Hp.ta (m:Hp κ a b out (na+1) nb) (hna:na<a.size) (h:∀j,(hj:j<b.size)->j<nb->κ.kle (kv κ b[j]) (kv κ a[na])):Hp κ a b (out.push a[na]) na nb:=by
 unfold Hp at m ⊢;rw[xb9 hna] at m;rw[XI];refine m.takeA λy hy=>?_;obtain⟨j,hj,h1,rfl⟩:=qp4 hy;exact h j hj h1
theorem Hp.tb (m:Hp κ a b out na (nb+1)) (hnb:nb<b.size) (h:∀j,(hj:j<a.size)->j<na->κ.kle (kv κ a[j]) (kv κ b[nb])):Hp κ a b (out.push b[nb]) na nb:=by
 unfold Hp at m ⊢;rw[xb9 hnb] at m;rw[XI];refine m.takeB λy hy=>?_;obtain⟨j,hj,h1,rfl⟩:=qp4 hy;exact h j hj h1
theorem Hp.as (m:Hp κ a b out na nb){k:Nat}(hk:k<=na) (hna:na<=a.size) (h:∀i j,(hi:i<a.size)->(hj:j<b.size)->k<=i->i<na->j<nb->κ.kle (kv κ b[j]) (kv κ a[i])):Hp κ a b (out++(a.extract k na).reverse) k nb:=by
 unfold Hp at m ⊢;rw[qX5 hk hna] at m;rw[Z1];refine m.takesA λx hx y hy=>?_;obtain⟨i,hi,wD,jO,rfl⟩:=qX6 hna hx;obtain⟨j,hj,h1,rfl⟩:=qp4 hy;exact h i j hi hj wD jO h1
theorem Hp.bs (m:Hp κ a b out na nb){k:Nat}(hk:k<=nb) (hnb:nb<=b.size) (h:∀i j,(hi:i<b.size)->(hj:j<a.size)->k<=i->i<nb->j<na->κ.kle (kv κ a[j]) (kv κ b[i])):Hp κ a b (out++(b.extract k nb).reverse) na k:=by
 unfold Hp at m ⊢;rw[qX5 hk hnb] at m;rw[Z1];refine m.takesB λx hx y hy=>?_;obtain⟨i,hi,wD,jO,rfl⟩:=qX6 hnb hx;obtain⟨j,hj,h1,rfl⟩:=qp4 hy;exact h i j hi hj wD jO h1
theorem Hp.done (m:Hp κ a b out na nb) (h:na=0):Rd κ a b (a.extract 0 na++b.extract 0 nb++out.reverse):=by
 unfold Hp at m;subst h;have e:=m.swap.doneB;have z:(a.extract 0 0++b.extract 0 nb++out.reverse).toList=(out.toList++(b.toList.take nb).reverse).reverse:=by
  rw[Z1,Z1,qH9,qH9,XR,Xn];simp
 show (a.extract 0 0++b.extract 0 nb++out.reverse).toList.Perm _/\Asc κ (a.extract 0 0++b.extract 0 nb++out.reverse).toList;rw[z];exact⟨(WC _).trans e.1,qX4 e.2⟩
theorem Hp.first (m:Hp κ a b out na nb) (sa:Asc κ a.toList) (ha:0<a.size) (hb:0<b.size) (h1:κ.klt (kv κ b[0]) (kv κ a[0])) (h:nb=1):Rd κ a b (b.extract 0 nb++a.extract 0 na++out.reverse):=by
 unfold Hp at m;subst h;have e:=m.swap.doneAB λy hy x hx=>by
  obtain⟨i,hi,_,rfl⟩:=qp4 hy;obtain⟨j,hj,h3,rfl⟩:=qp4 hx;have:j=0:=by lia
  subst this;have q:κ.kle (kv κ b[0]) (kv κ a[i]):=ZP (ZY h1) (qm0 sa (ZN i) hi);exact q
 have z:(b.extract 0 1++a.extract 0 na++out.reverse).toList=(out.toList++((a.toList.take na).reverse++(b.toList.take 1).reverse)).reverse:=by
  rw[Z1,Z1,qH9,qH9,XR,Xn,Xn];simp
 show (b.extract 0 1++a.extract 0 na++out.reverse).toList.Perm _/\Asc κ (b.extract 0 1++a.extract 0 na++out.reverse).toList;rw[z];exact⟨(WC _).trans e.1,qX4 e.2⟩
end
theorem Hp.ta' {κ:KeyKind}{a b out:Array Keyed}{na nb:Nat}(sb:Asc κ b.toList) (m:Hp κ a b out na nb) (h0:0<na) (hna:na<=a.size) (h1:0<nb) (hnb:nb<=b.size) (h:κ.kle (kv κ (b[nb-1]'(by lia))) (kv κ (a[na-1]'(by lia)))):Hp κ a b (out.push (a[na-1]'(by lia))) (na-1) nb:=by
 refine Hp.ta (na:=na-1) (by rw[show na-1+1=na by lia];exact m) (by lia) λj hj hn=>?_;exact ZP (qm0 sb (show j<=nb-1 by lia) (by lia)) h
theorem Hp.tb' {κ:KeyKind}{a b out:Array Keyed}{na nb:Nat}(sa:Asc κ a.toList) (m:Hp κ a b out na nb) (h0:0<na) (hna:na<=a.size) (h1:0<nb) (hnb:nb<=b.size) (h:κ.kle (kv κ (a[na-1]'(by lia))) (kv κ (b[nb-1]'(by lia)))):Hp κ a b (out.push (b[nb-1]'(by lia))) na (nb-1):=by
 refine Hp.tb (nb:=nb-1) (by rw[show nb-1+1=nb by lia];exact m) (by lia) λj hj hn=>?_;exact ZP (qm0 sa (show j<=na-1 by lia) (by lia)) h
theorem xx9 {G0:Prop}{P:Nat->Array Keyed->Prop}{G:Nat->Array Keyed->Nat->Prop}(a:(∀m o c,P m o->G m o c)->G0) (b:∀m o c,P m o->G m o c):G0:=a b
def HiI (κ:KeyKind) (a b:Array Keyed) (st:SortSt) (x na nb:Nat) (out:Array Keyed) (st':SortSt):Prop:=(∃g,st'=qs4 st g)/\Hp κ a b out na nb/\0<na/\na<=a.size/\1<nb/\nb<=b.size/\x+na+nb<=a.size+b.size
theorem HiI.of {κ:KeyKind}{a b out:Array Keyed}{st:SortSt}{x g na nb:Nat}(m:Hp κ a b out na nb) (h1:0<na) (h2:na<=a.size) (h3:1<nb) (h4:nb<=b.size) (h5:x+na+nb<=a.size+b.size):HiI κ a b st x na nb out (qs4 st g):=⟨⟨g,rfl⟩,m,h1,h2,h3,h4,h5⟩
theorem HiI.mono {κ:KeyKind}{a b out:Array Keyed}{st st':SortSt}{x y na nb:Nat}(j:HiI κ a b st x na nb out st') (h:y<=x):HiI κ a b st y na nb out st':=by
 obtain⟨j1,j2,j3,j4,j5,j6,j7⟩:=j;exact⟨j1,j2,j3,j4,j5,j6,by lia⟩
section
variable {prog:Program}{w:World}{A:Around}{E:Value->Shared->Prop}{s:Shared}{κ:KeyKind}
theorem qS5 {kd:SortKind}(hO:KLt prog w A s κ kd){st:SortSt}{a b:Array Keyed}{Q:Array Keyed->SortSt->Prop}(hk0:kindOf st=kd) (ka:KeysOf κ a) (kb:KeysOf κ b) (sa:Asc κ a.toList) (sb:Asc κ b.toList)
  (pa:0<a.size) (pb:0<b.size) (h1:κ.klt (kv κ b[0]) (kv κ a[0])) (h2:∀j,(hj:j<b.size)->κ.klt (kv κ b[j]) (kv κ a[a.size-1]))
  (h:∀out g,Rd κ a b out->Q out (qs4 st g)):wpS (model prog w) A E s (xk9 a b) Q st:=by
 have hk:∀g,kindOf (qs4 st g)=kd:=λg=>hk0;have bq:∀{i j:Nat},i=j->(i==j)=true:=λe=>YG.mpr e;have bn:∀{i j:Nat},i≠j->¬(i==j)=true:=λe z=>e (YG.mp z);refine Zp (Ve (Y1 ⟨rfl,?_⟩));refine Zp (qb9 (ZL a (a.size-1) (by lia)) ?_);have m0:Hp κ a b #[a[a.size-1]] (a.size-1) b.size:=by
  refine Hp.ta' (out:=#[]) sb ⟨by simp only[Array.toList_empty,List.nil_append];rw[Yv (by simp),Yv (by simp)];exact (WC _).append (WC _),by simp[Asc],?_,?_,by simp,by simp⟩ pa (Ze _) pb (Ze _) (ZY (h2 _ (by lia)))
  ·rw[Yv (by simp)];exact qN5 sa
  ·rw[Yv (by simp)];exact qN5 sb
 by_cases e0:a.size-1=0
 ·exact qd4 (bq e0) (Zv (h _ (gallopOf st) (m0.done e0)))
 refine qd0 (bn e0) ?_;by_cases e1:b.size=1
 ·exact qd4 (bq e1) (Zv (h _ (gallopOf st) (m0.first sa pa pb h1 e1)))
 refine qd0 (bn e1) ?_;refine Zp (WH ?_);refine qp3 (I:=λx c st'=>HiI κ a b st x c.2.1 c.2.2.1 c.2.2.2.1 st') (Q:=λc st'=>LoD κ a b st c.1 st') ?step ?fin (HiI.of (g:=gallopOf st) (na:=a.size-1) (nb:=b.size) m0 (by lia) (by lia) (by lia) (by lia) (by lia)) ?post
 case post=>
  rintro⟨c1,c2⟩ st' ⟨r,e,⟨g,rfl⟩,hr⟩;cases (show c1=some r from e);exact Zv (h r g hr)
 case fin=>
  rintro c st' ⟨_,m,y1,y2,y3,y4,y5⟩;lia
 case step=>
  rintro x c st' _ hx ⟨⟨g,rfl⟩,m0,y1,y2,y3,y4,y5⟩;refine qp3 (I:=λy c st'=>HiI κ a b st (x+y) c.2.1 c.2.2.1 c.2.2.2.1 st') (Q:=λc st'=>c.1=none/\HiI κ a b st (x+1) c.2.1 c.2.2.1 c.2.2.2.1 st'\/LoD κ a b st c.1 st') ?step ?fin (HiI.of (g:=g) m0 y1 y2 y3 y4 (by lia)) ?post
  case fin=>
   rintro c st' ⟨_,m,y1,y2,y3,y4,y5⟩;lia
  case step=>
   rintro y c st' _ hy ⟨⟨g,rfl⟩,m,y1,y2,y3,y4,y5⟩;refine Zp (qb9 (ZL b (c.2.2.1-1) (by lia)) ?_);refine Zp (qb9 (ZL a (c.2.1-1) (by lia)) ?_);refine Zp (qA7 hO (hk g) (qs5 kb (by lia)) (qs5 ka (by lia)) ?_);by_cases hb:κ.blt (kv κ (b[c.2.2.1-1]'(by lia))) (kv κ (a[c.2.1-1]'(by lia)))=true
   ·refine qd4 hb ?_;refine Zp (qb9 (ZL a (c.2.1-1) (by lia)) ?_);have m1:=m.ta' sb y1 y2 (by lia) y4 (ZY hb);by_cases e1:c.2.1-1=0
    ·exact qd4 (bq e1) (Zv (.inr ⟨_,rfl,⟨_,rfl⟩,m1.done e1⟩))
    have j:=HiI.of (st:=st) (g:=g) (x:=x+(y+1)) m1 (by lia) (by lia) y3 y4 (by lia);exact qd0 (bn e1) (qu9 (λ_=>Zv (.inl ⟨rfl,j.mono (by lia)⟩)) λ_=>Zv j)
   ·refine qd0 hb ?_;refine Zp (qb9 (ZL b (c.2.2.1-1) (by lia)) ?_);have m1:=m.tb' sa y1 y2 (by lia) y4 (eq_false_of_ne_true hb);by_cases e1:c.2.2.1-1=1
    ·exact qd4 (bq e1) (Zv (.inr ⟨_,rfl,⟨_,rfl⟩,m1.first sa pa pb h1 e1⟩))
    have j:=HiI.of (st:=st) (g:=g) (x:=x+(y+1)) m1 y1 y2 (by lia) (by lia) (by lia);exact qd0 (bn e1) (qu9 (λ_=>Zv (.inl ⟨rfl,j.mono (by lia)⟩)) λ_=>Zv j)
  case post=>
   rintro⟨c1,c2⟩ st' (⟨e,⟨g,rfl⟩,m,y1,y2,y3,y4,y5⟩|⟨r,e,hg,hr⟩)
   ·cases (show c1=none from e);refine Zp (Ve (Y1 ⟨rfl,?_⟩));refine qp3 (I:=λy c st'=>HiI κ a b st (x+1+y) c.2.1 c.2.2.1 c.2.2.2.1 st') (Q:=λc st'=>c.1=none/\HiI κ a b st (x+1) c.2.1 c.2.2.1 c.2.2.2.1 st'\/LoD κ a b st c.1 st') ?step ?fin (HiI.of (g:=g) m y1 y2 y3 y4 y5) ?post
    case fin=>
     rintro c st' ⟨_,m,y1,y2,y3,y4,y5⟩;lia
    case post=>
     rintro⟨c1,c2⟩ st' (⟨e,⟨g,rfl⟩,m,y1,y2,y3,y4,y5⟩|⟨r,e,hg,hr⟩)
     ·cases (show c1=none from e);exact Zp (Xk (Zv ⟨⟨_,rfl⟩,m,y1,y2,y3,y4,y5⟩))
     ·cases (show c1=some r from e);exact Zv ⟨r,rfl,hg,hr⟩
    case step=>
     rintro y c st' _ hy ⟨⟨g,rfl⟩,m1,y1,y2,y3,y4,y5⟩;refine' xs1 (P:=λ_=>True) (G:=_) (λkey=>?ka) (λm _=>?kb)
     case ka=>
      by_cases hc:c.2.2.2.2.1>1
      case neg=>
       refine qd0 hc ?_;generalize c.2.2.2.2.1=mg;exact key mg trivial
      case pos=>exact qd4 hc (key _ trivial)
     case kb=>
      refine Zp (Xk ?_);refine Zp (qb9 (ZL b (c.2.2.1-1) (by lia)) ?_);obtain⟨k,c1,c2,c0⟩:=qN4 ka sa (kv κ (b[c.2.2.1-1]'(by lia))) (base:=0) (n:=c.2.1) (by lia);have c3:∀i,(hi:i<a.size)->i<c.2.1->(i<k->κ.kle (kv κ a[i]) (kv κ (b[c.2.2.1-1]'(by lia))))/\(k<=i->κ.klt (kv κ (b[c.2.2.1-1]'(by lia))) (kv κ a[i])):=λi hi hn=>by
       have:=c0 i (by lia) hn;simp only[Nat.zero_add] at this;exact this
      refine Zp (qj6 hO (hk m) (qs5 kb (by lia)) c2 (by lia) c1 ?_);refine' xx9 (P:=λna1 out1=>∃hz:0<na1/\na1<=c.2.1,Hp κ a b out1 na1 c.2.2.1/\κ.kle (kv κ (a[na1-1]'(by lia))) (kv κ (b[c.2.2.1-1]'(by lia)))) (G:=_) (λkey=>?kc) (λna1 out1 cn hP=>?kd)
      case kc=>
       by_cases hc:c.2.1-k>0
       case neg=>
        refine qd0 hc ?_;have q2:κ.kle (kv κ (a[c.2.1-1]'(by lia))) (kv κ (b[c.2.2.1-1]'(by lia))):=(c3 (c.2.1-1) (by lia) (by lia)).1 (by lia);have key':=key c.2.1 c.2.2.2.1 (c.2.1-k) ⟨⟨y1,Ze _⟩,m1,q2⟩;generalize c.2.1-k=cn at key' ⊢;generalize c.2.1=na at key' ⊢;generalize c.2.2.2.1=out at key' ⊢;exact key'
       case pos=>
        refine qd4 hc ?_;have m2:=m1.as (k:=k) (by lia) (by lia) (λi j hi hj z1 z2 z3=>ZP (qm0 sb (show j<=c.2.2.1-1 by lia) (by lia)) (ZY ((c3 i hi z2).2 z1)));by_cases e2:k=0
        ·exact qd4 (bq e2) (Zv (.inr ⟨_,rfl,⟨_,rfl⟩,m2.done e2⟩))
        have q2:κ.kle (kv κ (a[k-1]'(by lia))) (kv κ (b[c.2.2.1-1]'(by lia))):=(c3 (k-1) (by lia) (by lia)).1 (by lia);exact qd0 (bn e2) (key k _ (c.2.1-k) ⟨⟨by lia,by lia⟩,m2,q2⟩)
      case kd=>
       obtain⟨hz,m2,q2⟩:=hP;refine Zp (qb9 (ZL b (c.2.2.1-1) (by lia)) ?_);have m3:=m2.tb' sa (by lia) (by lia) (by lia) (by lia) q2;by_cases e3:c.2.2.1-1=1
       ·exact qd4 (bq e3) (Zv (.inr ⟨_,rfl,⟨_,rfl⟩,m3.first sa pa pb h1 e3⟩))
       refine qd0 (bn e3) ?_;refine Zp (qb9 (ZL a (na1-1) (by lia)) ?_);obtain⟨d,d1,d2,d0⟩:=qX2 kb sb (kv κ (a[na1-1]'(by lia))) (base:=0) (n:=c.2.2.1-1) (by lia);have d3:∀i,(hi:i<b.size)->i<c.2.2.1-1->(i<d->κ.klt (kv κ b[i]) (kv κ (a[na1-1]'(by lia))))/\(d<=i->κ.kle (kv κ (a[na1-1]'(by lia))) (kv κ b[i])):=λi hi hn=>by
        have:=d0 i (by lia) hn;simp only[Nat.zero_add] at this;exact this
       refine Zp (qj6 hO (hk m) (qs5 ka (by lia)) d2 (by lia) d1 ?_);have ld:0<d:=by
        rcases Nat.eq_zero_or_pos d with z|z
        ·have:=(d3 0 (by lia) (by lia)).2 (by lia);exact absurd (Wd h1 (qm0 sa (ZN (na1-1)) (by lia))) (WE this)
        ·exact z
       by_cases hd:c.2.2.1-1-d>0
       case' neg=>
        refine qd0 hd ?_;have m4:=m3;have q4:κ.klt (kv κ (b[c.2.2.1-1-1]'(by lia))) (kv κ (a[na1-1]'(by lia))):=(d3 (c.2.2.1-1-1) (by lia) (by lia)).1 (by lia)
       case' pos=>
        refine qd4 hd ?_;have m4:=m3.bs (k:=d) (by lia) (by lia) (λi j hi hj c1 c2 c3=>ZP (qm0 sa (show j<=na1-1 by lia) (by lia)) ((d3 i hi (by lia)).2 c1));by_cases e4:d=1
        ·exact qd4 (bq e4) (Zv (.inr ⟨_,rfl,⟨_,rfl⟩,m4.first sa pa pb h1 e4⟩))
        refine qd0 (bn e4) (qd0 (bn (show d≠0 by lia)) ?_);have q4:κ.klt (kv κ (b[d-1]'(by lia))) (kv κ (a[na1-1]'(by lia))):=(d3 (d-1) (by lia) (by lia)).1 (by lia)
       all_goals
        refine Zp (qb9 (ZL a (na1-1) (by lia)) ?_);have m5:=m4.ta' sb (by lia) (by lia) (by lia) (by lia) (ZY q4);by_cases e5:na1-1=0
        ·exact qd4 (bq e5) (Zv (.inr ⟨_,rfl,⟨_,rfl⟩,m5.done e5⟩))
        have j:=HiI.of (st:=st) (g:=m) (x:=x+1+(y+1)) m5 (by lia) (by lia) (by lia) (by lia) (by lia);exact qd0 (bn e5) (qu9 (λ_=>Zv (.inl ⟨rfl,j.mono (by lia)⟩)) λ_=>Zv j)
   ·cases (show c1=some r from e);exact Zv ⟨r,rfl,hg,hr⟩
end
theorem qA8 {κ:KeyKind}{a:Array Keyed}{i:Nat}(h:i<a.size):KK κ a i=kv κ a[i]:=by unfold KK kv;rw[ZL a _ h]
theorem q29 {κ:KeyKind}{a:Array Keyed}(ka:KeysOf κ a){base n:Nat}(sa:SrtK κ a base (base+n)) (k:κ.α) (hn:base+n<=a.size) :
  ∃c,c<=n/\(∀i,i<n->∃x y,a[base+i]?=some x/\κ.keyOf x.1=some y/\asks false k y=decide (i<c))/\∀i,i<n->(i<c->κ.kle (KK κ a (base+i)) k)/\(c<=i->κ.klt k (KK κ a (base+i))):=by
 obtain⟨c,c1,c2⟩:=qN3 (p:=λi=>!κ.blt k (KK κ a (base+i))) n (λi j kD hj e=>by
  simp only[YY] at e ⊢;exact ZP (sa (base+i) (base+j) (by lia) (by lia) (by lia)) e)
 refine⟨c,c1,λi hi=>⟨_,_,ZL a _ (by lia),qs5 ka (by lia),?_⟩,λi hi=>⟨λhc=>?_,λhc=>?_⟩⟩
 ·rw[<- c2 i hi,qA8 (by lia)];rfl
 ·have e:=c2 i hi;rw[Zi hc] at e;exact (YY _).mp e
 ·have e:=c2 i hi;rw[Zk (by lia)] at e;exact (Bool.not_eq_false' _).mp e
theorem xc2 {κ:KeyKind}{a:Array Keyed}(ka:KeysOf κ a){base n:Nat}(sa:SrtK κ a base (base+n)) (k:κ.α) (hn:base+n<=a.size) :
  ∃c,c<=n/\(∀i,i<n->∃x y,a[base+i]?=some x/\κ.keyOf x.1=some y/\asks true k y=decide (i<c))/\∀i,i<n->(i<c->κ.klt (KK κ a (base+i)) k)/\(c<=i->κ.kle k (KK κ a (base+i))):=by
 obtain⟨c,c1,c2⟩:=qN3 (p:=λi=>κ.blt (KK κ a (base+i)) k) n (λi j kD hj e=>KeyOrd.klt_of_kle_of_klt (sa (base+i) (base+j) (by lia) (by lia) (by lia)) e);refine⟨c,c1,λi hi=>⟨_,_,ZL a _ (by lia),qs5 ka (by lia),?_⟩,λi hi=>⟨λhc=>?_,λhc=>?_⟩⟩
 ·rw[<- c2 i hi,qA8 (by lia)];rfl
 ·have e:=c2 i hi;rw[Zi hc] at e;exact e
 ·have e:=c2 i hi;rw[Zk (by lia)] at e;exact e
def qh6 (xs:Array Keyed) (lo:Nat) (l:List (Keyed×Nat)):Array Keyed:=l.foldl (λa x=>a.setIfInBounds (lo+x.2) x.1) xs
theorem qq4 (lo k:Nat):∀(l:List Keyed) (o:Nat) (xs:Array Keyed),lo+o+l.length<=xs.size->(qh6 xs lo (l.zipIdx o)).size=xs.size/\(qh6 xs lo (l.zipIdx o))[k]?=if lo+o<=k/\k<lo+o+l.length then l[k-(lo+o)]? else xs[k]?
 |[],o,xs,_=>⟨rfl,by rw[Zo (by simp)];rfl⟩
 |p::l,o,xs,h=>by
  have h':lo+(o+1)+l.length<=(xs.setIfInBounds (lo+o) p).size:=by simp at h ⊢;lia
  obtain⟨i1,i2⟩:=qq4 lo k l (o+1) (xs.setIfInBounds (lo+o) p) h';have e:qh6 xs lo ((p::l).zipIdx o)=qh6 (xs.setIfInBounds (lo+o) p) lo (l.zipIdx (o+1)):=rfl;rw[e];refine⟨by rw[i1];simp,?_⟩;rw[i2];simp only[ZQ] at h ⊢;by_cases c1:k=lo+o
  ·subst c1;rw[Zo (by lia),Zr (by lia),WA];rw[WQ];simp;lia
  ·by_cases c2:lo+o<=k/\k<lo+o+(l.length+1)
   ·rw[Zr (by lia),Zr c2];rw[show k-(lo+o)=(k-(lo+(o+1)))+1 by lia];simp
   ·rw[Zo (by lia),Zo c2,WQ,Zo (by lia)]
theorem qN6 {xs m:Array Keyed}{lo:Nat}(h:lo+m.size<=xs.size):(qh6 xs lo m.toList.zipIdx).toList=xs.toList.take lo++(m.toList++xs.toList.drop (lo+m.size)):=by
 apply YZ;intro k;have g:=(qq4 lo k m.toList 0 xs (by simpa using h)).2;rw[Y9,g];simp only[Nat.add_zero,YI];by_cases c1:k<lo
 ·rw[Zo (by lia),Zg (by simp;lia),Yj c1];simp
 ·have el:(xs.toList.take lo).length=lo:=by simp;lia
  rw[Zh (by lia),el];by_cases c2:k<lo+m.size
  ·rw[Zr (by lia),Zg (by simp;lia)]
  ·rw[Zo (by lia),Zh (by simp;lia),W3];simp only[YI];rw[show lo+m.size+(k-lo-m.size)=k by lia];simp
theorem qI0 {a:Array Keyed}{i j:Nat}:(a.extract i j).toList=(a.toList.drop i).take (j-i):=by
 rw[Xg,List.extract_eq_drop_take]
theorem xc3 {κ:KeyKind}{a:Array Keyed}{lo hi:Nat}(h:SrtK κ a lo hi) (hs:hi<=a.size):Asc κ (a.extract lo hi).toList:=by
 refine Xb.mpr λi j hi' hj kD=>?_;simp at hi' hj;have:=h (lo+i) (lo+j) (by lia) (by lia) (by lia);rw[qA8 (by lia),qA8 (by lia)] at this;simpa using this
theorem qy0 {κ:KeyKind}{a:Array Keyed}(h:KeysOf κ a) (lo hi:Nat):KeysOf κ (a.extract lo hi):=λp hp=>by
 rw[qI0] at hp;exact h p (List.mem_of_mem_drop (List.mem_of_mem_take hp))
section
variable {prog:Program}{w:World}{A:Around}{E:Value->Shared->Prop}{s:Shared}{κ:KeyKind}
theorem xy0 {Q:PUnit->SortSt->Prop}{st st':SortSt}(h:Q ⟨⟩ st'):wpS (model prog w) A E s (set st':StateT SortSt Sem PUnit) Q st:=by
 unfold wpS;rw[StateT.run_set];exact Zm ⟨rfl,h⟩
structure Mrg (κ:KeyKind) (st st':SortSt) (i sa na pw nb:Nat):Prop where
 perm:(arrOf st').Perm (arrOf st)
 kind:kindOf st'=kindOf st
 fail:failedOf st'=failedOf st
 out:∀k:Nat,k<sa\/sa+na+nb<=k->(arrOf st')[k]?=(arrOf st)[k]?
 srt:SrtK κ (arrOf st') sa (sa+na+nb)
 pend:pendingOf st'=((pendingOf st).setIfInBounds i (sa,na+nb,pw)).eraseIdxIfInBounds (i+1)
theorem xc4 {a m:Array Keyed}{sa na nb k d:Nat}(s1:SrtK κ a sa (sa+na)) (s2:SrtK κ a (sa+na) (sa+na+nb)) (hsz:sa+na+nb<=a.size) (hk:k<na) (hd:d<=nb) (pnb:0<nb)
  (g1:∀i,i<na->i<k->κ.kle (KK κ a (sa+i)) (KK κ a (sa+na))) (g2:∀i,i<nb->d<=i->κ.kle (KK κ a (sa+na-1)) (KK κ a (sa+na+i)))
  (r:Rd κ (a.extract (sa+k) (sa+na)) (a.extract (sa+na) (sa+na+d)) m) :
  (qh6 a (sa+k) m.toList.zipIdx).Perm a/\(∀j:Nat,j<sa\/sa+na+nb<=j->(qh6 a (sa+k) m.toList.zipIdx)[j]?=a[j]?)/\SrtK κ (qh6 a (sa+k) m.toList.zipIdx) sa (sa+na+nb):=by
 have hm:m.size=na-k+d:=by
  have:=r.1.length_eq;simp at this;lia
 have cat:(a.extract (sa+k) (sa+na)).toList++(a.extract (sa+na) (sa+na+d)).toList=(a.toList.drop (sa+k)).take (na-k+d):=by
  rw[qI0,qI0,show sa+na-(sa+k)=na-k by lia,show sa+na+d-(sa+na)=d by lia,List.take_add,Vo,show sa+k+(na-k)=sa+na by lia]
 have get:=λj=>(qq4 (sa+k) j m.toList 0 a (by simp;lia)).2;simp only[Nat.add_zero,YI] at get;have p:(qh6 a (sa+k) m.toList.zipIdx).Perm a:=by
  refine XO.mpr ?_;rw[qN6 (by lia)];have e:a.toList=a.toList.take (sa+k)++((a.toList.drop (sa+k)).take (na-k+d)++a.toList.drop (sa+k+m.size)):=by
   rw[hm,<- Vo (i:=na-k+d) (j:=sa+k),Yz,Yz]
  conv=>rhs;rw[e]
  refine WD _ (List.Perm.append_right _ ?_);rw[<- cat];exact r.1
 refine⟨p,λj hj=>?_,?_⟩
 ·rw[get j,Zo (by lia)]
 ·have low:∀j,j<sa+k\/sa+na+d<=j->KK κ (qh6 a (sa+k) m.toList.zipIdx) j=KK κ a j:=λj hj=>KK_congr (by rw[get j,Zo (by lia)]);have mid:∀j,sa+k<=j->(hj:j<sa+na+d)->KK κ (qh6 a (sa+k) m.toList.zipIdx) j=kv κ (m[j-(sa+k)]'(by lia)):=λj h1 h2=>by
   unfold KK kv;rw[get j,Zr (by lia),Y9,ZL m _ (by lia)]
  have src:∀j,sa+k<=j->j<sa+na+d->∃i,sa+k<=i/\i<sa+na+d/\KK κ (qh6 a (sa+k) m.toList.zipIdx) j=KK κ a i:=λj h1 h2=>by
   rw[mid j h1 h2];have me:m[j-(sa+k)]'(by lia)∈(a.toList.drop (sa+k)).take (na-k+d):=by
    rw[<- cat];exact r.1.mem_iff.mp (by simp)
   obtain⟨i,hi,e⟩:=Yx me;simp at hi;refine⟨sa+k+i,by lia,by lia,?_⟩;rw[qA8 (by lia),<- e];simp
  have last:∀i,sa<=i->i<sa+na->κ.kle (KK κ a i) (KK κ a (sa+na-1)):=λi h1 h2=>s1 i (sa+na-1) h1 (by lia) (by lia);intro i j h1 h2 h3;by_cases ci:i<sa+k
  ·rw[low i (.inl ci)];have gi:κ.kle (KK κ a i) (KK κ a (sa+na)):=by
    have:=g1 (i-sa) (by lia) (by lia)
    rwa [show sa+(i-sa)=i by lia] at this
   by_cases cj:j<sa+k\/sa+na+d<=j
   ·rw[low j cj];by_cases c:j<sa+na
    ·exact s1 i j h1 h2 c
    ·exact ZP gi (s2 (sa+na) j (Ze _) (by lia) (by lia))
   ·obtain⟨q,q1,q2,q3⟩:=src j (by lia) (by lia);rw[q3];by_cases c:q<sa+na
    ·exact s1 i q h1 (by lia) c
    ·exact ZP gi (s2 (sa+na) q (Ze _) (by lia) (by lia))
  ·by_cases ci2:i<sa+na+d
   ·by_cases cj:j<sa+na+d
    ·rw[mid i (by lia) ci2,mid j (by lia) cj];exact qm0 r.2 (by lia) (by lia)
    ·obtain⟨q,q1,q2,q3⟩:=src i (by lia) ci2;rw[q3,low j (.inr (by lia))];by_cases c:q<sa+na
     ·have:=g2 (j-(sa+na)) (by lia) (by lia);rw[show sa+na+(j-(sa+na))=j by lia] at this;exact ZP (last q (by lia) c) this
     ·exact s2 q j (by lia) (by lia) (by lia)
   ·rw[low i (.inr (by lia)),low j (.inr (by lia))];exact s2 i j (by lia) h2 h3
theorem qS6 {kd:SortKind}(hO:KLt prog w A s κ kd){st:SortSt}{i sa na pw nb pw2:Nat}{Q:Bool->SortSt->Prop}(hk:kindOf st=kd) (h0:KeysOf κ (arrOf st)) (hf:failedOf st=none)
  (p1:(pendingOf st)[i]?=some (sa,na,pw)) (p2:(pendingOf st)[i+1]?=some (sa+na,nb,pw2)) (pna:0<na) (pnb:0<nb) (hsz:sa+na+nb<=(arrOf st).size)
  (s1:SrtK κ (arrOf st) sa (sa+na)) (s2:SrtK κ (arrOf st) (sa+na) (sa+na+nb)) (h:∀st',Mrg κ st st' i sa na pw nb->Q true st'):wpS (model prog w) A E s (mergeAt' i) Q st:=by
 refine Zp (WH ?_);dsimp only;rw[p1,p2];refine Zp (xy0 ?_);refine Zp (qb9 (ZL (arrOf st) (sa+na) (by lia)) ?_);obtain⟨k,k1,k2,k3⟩:=q29 h0 s1 (KK κ (arrOf st) (sa+na)) (by lia);refine Zp (qj6 (st:=SortSt.mk' (kindOf st) (arrOf st) (((pendingOf st).setIfInBounds i (sa,na+nb,pw)).eraseIdxIfInBounds (i+1)) (gallopOf st) (failedOf st)) hO hk (qs5 h0 (by lia)) (by rw[qA8 (by lia)] at k2;exact k2) pna k1 ?_);dsimp only;by_cases c1:na-k=0
 ·rw[Zr (by simp only[YG];exact c1)];refine Zv (h _ ⟨.refl _,rfl,rfl,λ_ _=>rfl,λx y d1 d2 d3=>?_,rfl⟩);show κ.kle (KK κ (arrOf st) x) (KK κ (arrOf st) y);by_cases cx:x<sa+na
  ·by_cases cy:y<sa+na
   ·exact s1 x y d1 d2 cy
   ·have:=(k3 (x-sa) (by lia)).1 (by lia);rw[show sa+(x-sa)=x by lia] at this;exact ZP this (s2 (sa+na) y (Ze _) (by lia) d3)
  ·exact s2 x y (by lia) d2 d3
 ·rw[Zo (by simp only[YG];exact c1)];rw[show sa+k+(na-k)-1=sa+na-1 by lia];refine Zp (qb9 (ZL (arrOf st) (sa+na-1) (by lia)) ?_);obtain⟨d,d1,d2,d3⟩:=xc2 h0 s2 (KK κ (arrOf st) (sa+na-1)) (by lia);refine Zp (qj6 (st:=SortSt.mk' (kindOf st) (arrOf st) (((pendingOf st).setIfInBounds i (sa,na+nb,pw)).eraseIdxIfInBounds (i+1)) (gallopOf st) (failedOf st)) hO hk (qs5 h0 (by lia)) (by rw[qA8 (by lia)] at d2;exact d2) (by lia) d1 ?_);dsimp only;have lk:κ.klt (KK κ (arrOf st) (sa+na)) (KK κ (arrOf st) (sa+k)):=(k3 k (by lia)).2 (Ze _);have ld:d≠0:=λz=>by
   have:=(d3 0 pnb).2 (by lia);exact absurd (Wd lk (s1 (sa+k) (sa+na-1) (by lia) (by lia) (by lia))) (WE this)
  rw[Zo (by simp only[YG];exact ld)];have sx:((arrOf st).extract (sa+k) (sa+na)).size=na-k:=by simp;lia
  have sy:((arrOf st).extract (sa+na) (sa+na+d)).size=d:=by simp;lia
  have px:0<((arrOf st).extract (sa+k) (sa+na)).size:=by lia
  have py:0<((arrOf st).extract (sa+na) (sa+na+d)).size:=by lia
  have gx:∀j,(hj:j<((arrOf st).extract (sa+k) (sa+na)).size)->kv κ ((arrOf st).extract (sa+k) (sa+na))[j]=KK κ (arrOf st) (sa+k+j):=λj hj=>by rw[qA8 (by lia)];simp
  have gy:∀j,(hj:j<((arrOf st).extract (sa+na) (sa+na+d)).size)->kv κ ((arrOf st).extract (sa+na) (sa+na+d))[j]=KK κ (arrOf st) (sa+na+j):=λj hj=>by rw[qA8 (by lia)];simp
  have q1:κ.klt (kv κ (((arrOf st).extract (sa+na) (sa+na+d))[0]'(by lia))) (kv κ (((arrOf st).extract (sa+k) (sa+na))[0]'(by lia))):=by
   rw[gx,gy];exact lk
  have q2:∀j,(hj:j<((arrOf st).extract (sa+na) (sa+na+d)).size)->κ.klt (kv κ ((arrOf st).extract (sa+na) (sa+na+d))[j]) (kv κ (((arrOf st).extract (sa+k) (sa+na))[((arrOf st).extract (sa+k) (sa+na)).size-1]'(by lia))):=λj hj=>by
   rw[gx,gy,show sa+k+(((arrOf st).extract (sa+k) (sa+na)).size-1)=sa+na-1 by lia];exact (d3 j (by lia)).1 (by lia)
  have fin:∀out g,Rd κ ((arrOf st).extract (sa+k) (sa+na)) ((arrOf st).extract (sa+na) (sa+na+d)) out->Q true (SortSt.mk' (kindOf st) (qh6 (arrOf st) (sa+k) out.toList.zipIdx) (((pendingOf st).setIfInBounds i (sa,na+nb,pw)).eraseIdxIfInBounds (i+1)) g (failedOf st)):=λout g r=>by
   obtain⟨r1,r2,r3⟩:=xc4 s1 s2 hsz (by lia) d1 pnb (λj j1 j2=>(k3 j j1).1 j2) (λj j1 j2=>(d3 j j1).2 j2) r;exact h _ ⟨r1,rfl,rfl,r2,r3,rfl⟩
  have fn:∀out g,Rd κ ((arrOf st).extract (sa+k) (sa+na)) ((arrOf st).extract (sa+na) (sa+na+d)) out->Q (failedOf st).isNone (SortSt.mk' (kindOf st) (qh6 (arrOf st) (sa+k) out.toList.zipIdx) (((pendingOf st).setIfInBounds i (sa,na+nb,pw)).eraseIdxIfInBounds (i+1)) g (failedOf st)):=λout g r=>by
   have e:(failedOf st).isNone=true:=by rw[hf];rfl
   rw[e];exact fin out g r
  have ax:Asc κ ((arrOf st).extract (sa+k) (sa+na)).toList:=xc3 (λx y e1 e2 e3=>s1 x y (by lia) e2 e3) (by lia);have ay:Asc κ ((arrOf st).extract (sa+na) (sa+na+d)).toList:=xc3 (λx y e1 e2 e3=>s2 x y e1 e2 (by lia)) (by lia);by_cases hle:na-k<=d
  ·rw[Zr hle];refine Zp (qS4 (st:=SortSt.mk' (kindOf st) (arrOf st) (((pendingOf st).setIfInBounds i (sa,na+nb,pw)).eraseIdxIfInBounds (i+1)) (gallopOf st) (failedOf st)) hO hk (qy0 h0 _ _) (qy0 h0 _ _) ax ay px py q1 q2 λout g r=>?_);exact Zp (Xk (Zp (WH (Zv (fn out g r)))))
  ·rw[Zo hle];refine Zp (qS5 (st:=SortSt.mk' (kindOf st) (arrOf st) (((pendingOf st).setIfInBounds i (sa,na+nb,pw)).eraseIdxIfInBounds (i+1)) (gallopOf st) (failedOf st)) hO hk (qy0 h0 _ _) (qy0 h0 _ _) ax ay px py q1 q2 λout g r=>?_);exact Zp (Xk (Zp (WH (Zv (fn out g r)))))
end
def Runs (κ:KeyKind) (a:Array Keyed):List (Nat×Nat×Nat)->Nat->Nat->Prop
 |[],lo,hi=>lo=hi
 |r::rs,lo,hi=>r.1=lo/\0<r.2.1/\SrtK κ a lo (lo+r.2.1)/\Runs κ a rs (lo+r.2.1) hi
section
variable {κ:KeyKind}{a a':Array Keyed}
theorem Runs.app:∀{p q:List (Nat×Nat×Nat)}{lo hi:Nat},Runs κ a (p++q) lo hi<->∃m,Runs κ a p lo m/\Runs κ a q m hi
 |[],q,lo,hi=>⟨λh=>⟨lo,rfl,h⟩,λ⟨m,e,h⟩=>by cases e;exact h⟩
 |r::p,q,lo,hi=>⟨λ⟨h1,h2,h3,h4⟩=>by
   obtain⟨m,m1,m2⟩:=Runs.app.mp h4;exact⟨m,⟨h1,h2,h3,m1⟩,m2⟩,λ⟨m,⟨h1,h2,h3,m1⟩,m2⟩=>⟨h1,h2,h3,Runs.app.mpr ⟨m,m1,m2⟩⟩⟩
theorem Runs.le:∀{p:List (Nat×Nat×Nat)}{lo hi:Nat},Runs κ a p lo hi->lo+p.length<=hi
 |[],lo,hi,h=>by cases h;simp
 |r::p,lo,hi,⟨h1,h2,h3,h4⟩=>by
  have:=h4.le;simp only[ZQ];lia
theorem SrtK.congr {lo hi:Nat}(h:SrtK κ a lo hi) (e:∀k:Nat,lo<=k->k<hi->a'[k]?=a[k]?):SrtK κ a' lo hi:=λi j h1 h2 h3=>by
 rw[KK_congr (e i h1 (by lia)),KK_congr (e j (by lia) h3)];exact h i j h1 h2 h3
theorem Runs.congr:∀{p:List (Nat×Nat×Nat)}{lo hi:Nat},Runs κ a p lo hi->(∀k:Nat,lo<=k->k<hi->a'[k]?=a[k]?)->Runs κ a' p lo hi
 |[],lo,hi,h,_=>h
 |r::p,lo,hi,⟨h1,h2,h3,h4⟩,e=>⟨h1,h2,h3.congr (λk k1 k2=>e k k1 (by have:=h4.le;lia)),h4.congr (λk k1 k2=>e k (by lia) k2)⟩
theorem Runs.mod {f:Nat×Nat×Nat->Nat×Nat×Nat}(hf:∀x,(f x).1=x.1/\(f x).2.1=x.2.1):∀{p:List (Nat×Nat×Nat)}{i lo hi:Nat},Runs κ a p lo hi->Runs κ a (p.modify i f) lo hi
 |[],i,lo,hi,h=>by cases i<;>exact h
 |r::p,0,lo,hi,⟨h1,h2,h3,h4⟩=>by
  show Runs κ a (f r::p) lo hi;refine⟨by rw[(hf r).1];exact h1,by rw[(hf r).2];exact h2,by rw[(hf r).2];exact h3,by rw[(hf r).2];exact h4⟩
 |r::p,i+1,lo,hi,⟨h1,h2,h3,h4⟩=>⟨h1,h2,h3,h4.mod hf⟩
theorem Runs.one {lo n w:Nat}(h:0<n) (hs:SrtK κ a lo (lo+n)):Runs κ a [(lo,n,w)] lo (lo+n):=⟨rfl,h,hs,rfl⟩
end
theorem xE9 {α:Type}{l:List α}{i:Nat}(h:i+1<l.length):∃pre x y post,l=pre++x::y::post/\pre.length=i:=by
 refine⟨l.take i,l[i],l[i+1],l.drop (i+2),?_,by simp;lia⟩;rw[<- XZ,<- XZ,Yz]
theorem xF0 {p:Array (Nat×Nat×Nat)}{pre post:List (Nat×Nat×Nat)}{x y v:Nat×Nat×Nat}{i:Nat}(h:p.toList=pre++x::y::post) (hi:pre.length=i):((p.setIfInBounds i v).eraseIdxIfInBounds (i+1)).toList=pre++v::post:=by
 have hl:p.size=i+(post.length+2):=by
  have:=Yr List.length h;simp at this;lia
 rw[Array.eraseIdxIfInBounds,dif_pos (by simp;lia),Array.toList_eraseIdx,Array.toList_setIfInBounds,h];subst hi;have e1:(pre++x::y::post).set pre.length v=pre++v::y::post:=by
  rw[List.set_append_right _ _ (Ze _)];simp
 rw[e1,List.eraseIdx_append_of_length_le (by lia)];simp
structure Stands (κ:KeyKind) (kd:SortKind) (a₀:Array Keyed) (st:SortSt) (lo:Nat):Prop where
 perm:(arrOf st).Perm a₀
 kind:kindOf st=kd
 fail:failedOf st=none
 runs:Runs κ (arrOf st) (pendingOf st).toList 0 lo
section
variable {prog:Program}{w:World}{A:Around}{E:Value->Shared->Prop}{s:Shared}{κ:KeyKind}
theorem Stands.merge {kd:SortKind}{a₀:Array Keyed}(hO:KLt prog w A s κ kd) (h0:KeysOf κ a₀){st:SortSt}{lo i:Nat}{Q:Bool->SortSt->Prop}(d:Stands κ kd a₀ st lo) (hlo:lo<=a₀.size) (hi:i+1<(pendingOf st).size)
  (h:∀st',Stands κ kd a₀ st' lo->(pendingOf st').size+1=(pendingOf st).size->(∀k:Nat,lo<=k->(arrOf st')[k]?=(arrOf st)[k]?)->Q true st'):wpS (model prog w) A E s (mergeAt' i) Q st:=by
 obtain⟨pre,⟨s1,n1,w1⟩,⟨s2,n2,w2⟩,post,e,hp⟩:=xE9 (l:=(pendingOf st).toList) (by simpa using hi);have r:=d.runs;rw[e] at r;obtain⟨m,r1,r2,r3,r4,r5,r6,r7,r8⟩:=Runs.app.mp r;simp only at r2 r3 r4 r5 r6 r7 r8;subst r2 r5;have l8:=r8.le;have l1:=r1.le;have sz:(arrOf st).size=a₀.size:=d.perm.size_eq;have p1:(pendingOf st)[i]?=some (s1,n1,w1):=by
  rw[<- Y9,e,Zh (by lia),hp,WA];rfl
 have p2:(pendingOf st)[i+1]?=some (s1+n1,n2,w2):=by
  rw[<- Y9,e,Zh (by lia),hp,Nat.add_sub_cancel_left];rfl
 refine qS6 hO d.kind (ql9 h0 d.perm) d.fail p1 p2 r3 r6 (by lia) r4 r7 λst' g=>h st' ⟨g.perm.trans d.perm,g.kind.trans d.kind,g.fail.trans d.fail,?_⟩ ?_ λk hk=>g.out k (.inr (by lia))
 ·rw[g.pend,xF0 e hp];refine Runs.app.mpr ⟨s1,r1.congr λk _ k2=>g.out k (.inl k2),rfl,by show 0<n1+n2;lia,?_,?_⟩
  ·have:=g.srt
   rwa [Nat.add_assoc] at this
  ·have:=r8.congr (a':=arrOf st') λk k1 _=>g.out k (.inr k1)
   rwa [Nat.add_assoc] at this
 ·have:=Yr List.length (xF0 (v:=(s1,n1+n2,w1)) e hp);rw[<- g.pend] at this;have e2:=Yr List.length e;simp at this e2;lia
theorem qI1 {kd:SortKind}{a₀:Array Keyed}(hO:KLt prog w A s κ kd) (h0:KeysOf κ a₀){st:SortSt}{Q:Unit->SortSt->Prop}(d:Stands κ kd a₀ st 0)
  (h:∀st',(arrOf st').Perm a₀->failedOf st'=none->SortedToK κ (arrOf st') a₀.size->Q () st'):wpS (model prog w) A E s sortRuns' Q st:=by
 rw[sortRuns'_eq];refine Zp (WH ?_);dsimp only;have sz:(arrOf st).size=a₀.size:=d.perm.size_eq;simp only[sz];generalize minRun' a₀.size a₀.size 0=mr;refine Zp (Wc (YV (I:=λx c st'=>∃lo,c=(none,lo)/\Stands κ kd a₀ st' lo/\x<=lo/\lo<=a₀.size)
  (Q:=λc st'=>c=(none,a₀.size)/\Stands κ kd a₀ st' a₀.size) ?step ?fin ⟨0,rfl,d,Ze _,ZN _⟩) ?post)
 case fin=>
  rintro c st' ⟨lo,rfl,d,h1,h2⟩;have:lo=a₀.size:=by lia
  subst this;exact⟨rfl,d⟩
 case post=>
  rintro c st' ⟨rfl,d⟩;dsimp only;refine Zp (Wc (YV (I:=λx c st'=>c=(none,())/\Stands κ kd a₀ st' a₀.size/\(pendingOf st').size+x<=a₀.size)
   (Q:=λc st'=>c=(none,())/\Stands κ kd a₀ st' a₀.size/\(pendingOf st').size<=1) ?step2 ?fin2 ⟨rfl,d,?init2⟩) ?post2)
  case init2=>
   have:=d.runs.le;simp at this;lia
  case fin2=>
   rintro c st' ⟨rfl,d,h1⟩;exact⟨rfl,d,by lia⟩
  case post2=>
   rintro c st' ⟨rfl,d,h1⟩;refine Zv (h st' d.perm d.fail λi j kD hj=>?_);have r:=d.runs;cases e:(pendingOf st').toList with
   |nil=>
    rw[e] at r;have r':0=a₀.size:=r;lia
   |cons p ps=>
    rw[e] at r;obtain⟨r1,r2,r3,r4⟩:=r;have:ps=[]:=by
     have:=Yr List.length e;simp at this;exact Wp.mp (by lia)
    subst this;have r4':0+p.2.1=a₀.size:=r4;rw[r4'] at r3;exact r3 i j (ZN _) kD hj
  case step2=>
   rintro x c st' _ hx ⟨rfl,d,h1⟩;refine Zp (WH ?_);by_cases c1:(pendingOf st').size<=1
   ·rw[Zr c1];exact Zv ⟨rfl,d,c1⟩
   ·rw[Zo c1];refine Zp (d.merge hO h0 (Ze _) ?_ λst2 d2 e2 _=>?_)
    ·have key:∀c:Bool,(if c=true then (pendingOf st').size-2-1 else (pendingOf st').size-2)+1<(pendingOf st').size:=λc=>by cases c<;>simp<;>lia
     exact key _
    ·simp only[Bool.not_true,Yh,Wa];exact Zv ⟨rfl,d2,by lia⟩
 case step=>
  rintro x c st' _ hx ⟨lo,rfl,d,h1,h2⟩;dsimp only;by_cases c1:lo>=a₀.size
  ·rw[Zr c1];have:lo=a₀.size:=by lia
   subst this;exact Zv ⟨rfl,d⟩
  ·rw[Zo c1];have sz':(arrOf st').size=a₀.size:=d.perm.size_eq;have rest:∀(n:Nat) (st2:SortSt),1<=n->lo+n<=a₀.size->Mv st' st2 lo a₀.size->SrtK κ (arrOf st2) lo (lo+n)->Stands κ kd a₀ st2 lo:=λn st2 n1 n2 m2 _=>
    ⟨m2.perm.trans d.perm,m2.kind.trans d.kind,m2.fail.trans d.fail,by rw[m2.pend];exact d.runs.congr λk _ k2=>m2.out k (.inl k2)⟩
   have push:∀(n:Nat) (st2:SortSt),1<=n->Stands κ kd a₀ st2 lo->SrtK κ (arrOf st2) lo (lo+n)->Stands κ kd a₀ (setPending st2 ((pendingOf st2).push (lo,n,0))) (lo+n):=λn st2 n1 d2 s2=>
    ⟨d2.perm,d2.kind,d2.fail,by
     show Runs κ (arrOf st2) ((pendingOf st2).push (lo,n,0)).toList 0 (lo+n);rw[XI];exact Runs.app.mpr ⟨lo,d2.runs,Runs.one (by lia) s2⟩⟩
   refine Zp (xk7 hO d.kind (ql9 h0 d.perm) (by lia) (by lia) λm st2 m1 m2 mv s2=>?_);have mv':Mv st' st2 lo a₀.size:=by rwa [show lo+(a₀.size-lo)=a₀.size by lia] at mv
   dsimp only;by_cases c2:m<mr
   case' neg=>
    rw[Zo c2];have s3:=s2;have d3:=rest _ st2 m1 (by lia) mv' s2;have n1:1<=m:=m1;have n2:lo+m<=a₀.size:=by lia
    clear s2;obtain⟨n,hn⟩:∃n,n=m:=⟨_,rfl⟩;simp only[<- hn] at s3 n1 n2 ⊢
   case' pos=>
    rw[Zr c2];refine Zp (Ve (Y1 ⟨rfl,?_⟩));have hmin:lo+min (a₀.size-lo) mr<=(arrOf st2).size:=by rw[mv.size];lia
    refine Zp (xk5 hO (mv.kind.trans d.kind) (ql9 h0 (mv.perm.trans d.perm)) hmin (by lia) s2 λst3 mv3 s3=>?_);simp only[Bool.not_true,Yh,Wa];have mv3':Mv st' st3 lo a₀.size:=mv'.trans ⟨mv3.perm,mv3.kind,mv3.fail,mv3.pend,λk hk=>mv3.out k (by lia)⟩;have d3:=rest _ st3 (show 1<=min (a₀.size-lo) mr by lia) (by lia) mv3' s3;obtain⟨n,hn⟩:∃n,n=min (a₀.size-lo) mr:=⟨_,rfl⟩;have n1:1<=n:=by lia
    have n2:lo+n<=a₀.size:=by lia
    simp only[<- hn] at s3 ⊢;clear hn hmin mv3
   all_goals
    refine Zp (WH ?_);split
    ·refine Zp (Wc (YV (I:=λx c st4=>c=(none,())/\Stands κ kd a₀ st4 lo/\SrtK κ (arrOf st4) lo (lo+n)) (Q:=λc st4=>c=(none,())/\Stands κ kd a₀ st4 lo/\SrtK κ (arrOf st4) lo (lo+n)) ?_ ?_ ⟨rfl,d3,s3⟩) ?_)
     ·rintro y c st4 _ _ ⟨rfl,d4,s4⟩;refine Zp (WH ?_);split
      ·rename_i e5;split
       ·exact Zv ⟨rfl,d4,s4⟩
       ·have hsz2:(pendingOf st4).size>1:=by
         by_cases z:(pendingOf st4).size>1
         ·exact z
         ·rw[Zo z] at e5;cases e5
        refine Zp (d4.merge hO h0 h2 (by lia) λst5 d5 _ o5=>?_);simp only[Bool.not_true,Yh,Wa];exact Zv ⟨rfl,d5,s4.congr λk k1 _=>o5 k k1⟩
      ·exact Zv ⟨rfl,d4,s4⟩
     ·rintro c st4 ⟨rfl,d4,s4⟩;exact⟨rfl,d4,s4⟩
     ·rintro c st4 ⟨rfl,d4,s4⟩;refine Zp (Xk (Zp (Xk (Zv ⟨_,rfl,push _ _ n1 ⟨d4.perm,d4.kind,d4.fail,?_⟩ s4,by lia,n2⟩))));show Runs κ (arrOf st4) (Array.modify _ _ _).toList 0 lo;rw[Array.toList_modify];refine Runs.mod ?_ d4.runs;exact λ_=>⟨rfl,rfl⟩
    ·exact Zp (Xk (Zv ⟨_,rfl,push _ _ n1 d3 s3,by lia,n2⟩))
end
inductive AtK:Bool->Value->List Int->Prop
 |int (i:Int) (t:Tok):AtK false (.int i t) [i]
 |str (x:Str) (t:Tok):AtK true (.str x t) (x.cps.toList.map Int.ofNat)
theorem AtK.uniq {k:Bool}{v:Value}{l m:List Int}(h:AtK k v l) (g:AtK k v m):l=m:=by
 cases h<;>cases g<;>rfl
inductive AtsK (pat:Nat->Bool):Nat->List Value->List (List Int)->Prop
 |nil {i:Nat}:AtsK pat i [] []
 |cons {i:Nat}{v:Value}{l:List Int}{vs:List Value}{ls:List (List Int)}(h:AtK (pat i) v l) (r:AtsK pat (i+1) vs ls):AtsK pat i (v::vs) (l::ls)
theorem AtsK.uniq {pat:Nat->Bool}:∀{i:Nat}{vs:List Value}{ls ms:List (List Int)},AtsK pat i vs ls->AtsK pat i vs ms->ls=ms
 |_,_,_,_,.nil,.nil=>rfl
 |_,_,_,_,.cons h r,.cons h' r'=>by rw[h.uniq h',r.uniq r']
def TupK (h:Heap) (pat:Nat->Bool) (v:Value) (l:List (List Int)):Prop:=∃a o xs n,v=.ref a/\h.get? a=some o/\o.cls=.type "tuple" /\ o.data=.seq xs n/\AtsK pat 0 xs.toList l
theorem TupK.uniq {h:Heap}{pat:Nat->Bool}{v:Value}{l m:List (List Int)}(x:TupK h pat v l) (y:TupK h pat v m):l=m:=by
 obtain⟨a,o,xs,n,rfl,e1,e2,e3,e4⟩:=x;obtain⟨a',o',xs',n',e5,f1,f2,f3,f4⟩:=y;cases e5;rw[e1] at f1;cases f1;rw[e3] at f3;cases f3;exact e4.uniq f4
theorem TupK.keep {h h':Heap}{pat:Nat->Bool}{v:Value}{l:List (List Int)}(k:∀b o,h.get? b=some o->o.cls=.type "tuple" -> h'.get? b=some o) (x:TupK h pat v l):TupK h' pat v l:=by
 obtain⟨a,o,xs,n,rfl,e1,e2,e3,e4⟩:=x;exact⟨a,o,xs,n,rfl,k _ _ e1 e2,e2,e3,e4⟩
open Classical in
noncomputable def ql1 (h:Heap) (pat:Nat->Bool):KeyKind where
 α:=List (List Int)
 blt a b:=decide (a<b)
 irrefl a:=by simpa using Vp a
 trans a b c h1 h2:=by simp only[WB] at *;exact List.lt_trans h1 h2
 negTrans a b c h:=by
  simp only[WB] at *;by_cases hab:a<b
  ·exact .inl hab
  ·exact .inr (List.lt_of_le_of_lt (XS.mp hab) h)
 total a b h1 h2:=by simp only[Wq] at *;exact List.le_antisymm (XS.mp h2) (XS.mp h1)
 keyOf v:=if e:∃l,TupK h pat v l then some e.choose else none
 dflt:=[]
open Classical in
theorem qI2 {h:Heap}{pat:Nat->Bool}{v:Value}{l:List (List Int)}(x:TupK h pat v l):(ql1 h pat).keyOf v=some l:=by
 have e:∃l,TupK h pat v l:=⟨l,x⟩;show (if e:∃l,TupK h pat v l then some e.choose else none)=some l;rw[dif_pos e,e.choose_spec.uniq x]
open Classical in
theorem xc5 {h:Heap}{pat:Nat->Bool}{v:Value}{l:List (List Int)}(x:(ql1 h pat).keyOf v=some l):TupK h pat v l:=by
 by_cases e:∃l,TupK h pat v l
 ·have:=qI2 e.choose_spec;rw[this] at x;cases x;exact e.choose_spec
 ·have:(ql1 h pat).keyOf v=none:=by
   show (if e:∃l,TupK h pat v l then some e.choose else none)=none;rw[dif_neg e]
  rw[this] at x;cases x
theorem xs2:∀{l m:List Nat},l.map Int.ofNat<m.map Int.ofNat<->l<m
 |[],[]=>by simp
 |[],_::_=>by simp
 |_::_,[]=>by simp
 |x::l,y::m=>by
  rw[ZH,ZH,Xa,Xa,xs2];simp only[Int.ofNat_eq_natCast,Int.ofNat_lt,Int.ofNat_inj]
theorem xc6:∀{l m:List Nat},l.map Int.ofNat=m.map Int.ofNat->l=m
 |[],[],_=>rfl
 |[],_::_,h=>by simp at h
 |_::_,[],h=>by simp at h
 |x::l,y::m,h=>by
  rw[ZH,ZH] at h;obtain⟨h1,h2⟩:=List.cons.inj h;rw[Y6 h1,xc6 h2]
section
variable {prog:Program}{w:World}{A:Around}{E:Value->Shared->Prop}{s:Shared}{pat:Nat->Bool}
theorem xF1 {k:Bool}{x y:Value}{a b:List Int}{Q:Bool->Shared->Prop}(hx:AtK k x a) (hy:AtK k y b) (h:Q (decide (a=b)) s):wpAny (model prog w) A (eqBool x y) Q E s:=by
 cases hx with
 |int i t=>
  cases hy with
  |int j u=>
   refine wpAny_eqBool_int ?_;have e:decide ([i]=[j])=(i==j):=by simp;rfl
   rw[e] at h;exact h
 |str x t=>
  cases hy with
  |str y u=>
   refine PySem.wpAny_eqBool_str ?_;have e:decide (x.cps.toList.map Int.ofNat=y.cps.toList.map Int.ofNat)=decide (x=y):=by
    rw[Yw];constructor
    ·intro z;have:=xc6 z;cases x;cases y;simp at this ⊢;exact this
    ·rintro rfl;rfl
   rw[e] at h;exact h
theorem xl0 {k c:Bool}{x y:Value}{a b:List Int}{Q:Bool->Shared->Prop}(hx:AtK k x a) (hy:AtK k y b) (h:Q (decide (a<b)) s):wpAny (model prog w) A (oneLt' c x y) Q E s:=by
 cases hx with
 |int i t=>
  cases hy with
  |int j u=>
   have e:decide ([i]<[j])=decide (i<j):=by rw[Yw,Xa];simp
   rw[e] at h;cases c with
   |true=>exact oneLt_int h
   |false=>
    rw[oneLt'_eq];simp only[Yh,Wa,WX];exact Za (wpAny_lt_int (Yy h))
 |str x t=>
  cases hy with
  |str y u=>
   have e:decide (x.cps.toList.map Int.ofNat<y.cps.toList.map Int.ofNat)=decide (x.cps.toList<y.cps.toList):=by rw[Yw];exact xs2
   rw[e] at h;cases c with
   |true=>exact oneLt_str h
   |false=>
    rw[oneLt'_eq];simp only[Yh,Wa,WX];exact Za (PySem.P.lt_str (Yy h))
theorem xy1 (c:Bool):KLt prog w A s (ql1 s.heap pat) (tuples' c):=by
 intro E x y (a:List (List Int)) (b:List (List Int)) Q ha hb hq;obtain⟨p,o,xs,n,rfl,e1,e2,e3,e4⟩:=xc5 ha;obtain⟨p',o',xs',n',rfl,f1,f2,f3,f4⟩:=xc5 hb;refine Za (listItems_at e1 e3 ?_);refine Za (listItems_at f1 f3 ?_);have go:∀(vs us:List Value) (i:Nat) (l m:List (List Int)),AtsK pat i vs l->AtsK pat i us m->∀(F:(Value×Value)×Nat->Option Bool×Unit->Sem (ForInStep (Option Bool×Unit))) (R:Option Bool×Unit->Shared->Prop),
   (∀p q j x y Q',AtK (pat j) p x->AtK (pat j) q y->(if x=y then Q' (.yield (none,())) s else Q' (.done (some (decide (x<y)),())) s)->wpAny (model prog w) A (F ((p,q),j) (none,())) Q' E s) ->
   (∀r,(r=(some (decide (l<m)),())\/(r=(none,())/\decide (l<m)=decide (vs.length<us.length)))->R r s)->wpAny (model prog w) A (forIn ((vs.zip us).zipIdx i) (none,()) F) R E s:=by
  intro vs
  induction vs with
  |nil=>
   intro us i l m hl hm F R hF hR;cases hl;rw[List.zip_nil_left,List.zipIdx_nil,Vn];refine Zm (hR _ (.inr ⟨rfl,?_⟩));cases hm<;>simp
  |cons v vs ih=>
   intro us i l m hl hm F R hF hR;cases hl with
   |@cons _ _ x _ xs hx rx=>
   cases hm with
   |nil=>
    rw[List.zip_nil_right,List.zipIdx_nil,Vn];exact Zm (hR _ (.inr ⟨rfl,by simp⟩))
   |@cons _ u y us ys hy ry=>
    rw[List.zip_cons_cons,List.zipIdx_cons,WL];refine Za (hF _ _ _ _ _ _ hx hy ?_);by_cases e:x=y
    ·rw[Zr e];dsimp only;refine ih us (i+1) xs ys rx ry F R hF λr hr=>hR r ?_;have e2:decide (x::xs<y::ys)=decide (xs<ys):=by
      rw[Yw,Xa,e];simp[Vp]
     rw[e2,ZQ,ZQ];simpa using hr
    ·rw[Zo e];dsimp only;refine Zm (hR _ (.inl ?_));have e2:decide (x::xs<y::ys)=decide (x<y):=by
      rw[Yw,Xa];simp[e]
     rw[e2]
 refine Za (go _ _ 0 a b e4 f4 _ _ (λp q j x y Q' hx hy hQ=>?_) λr hr=>?_)
 ·dsimp only;refine Za (xF1 hx hy ?_);by_cases e:x=y
  ·rw[Zr e] at hQ;rw[Zi e];exact Zm hQ
  ·rw[Zo e] at hQ;rw[Zk e];exact Za (xl0 hx hy (Zm hQ))
 ·have hq':Q (decide (a<b)) s:=hq;rcases hr with rfl|⟨rfl,e⟩
  ·exact Zm hq'
  ·rw[e] at hq';refine Zm ?_;simpa using hq'
theorem qE3:∀{vs:List Value}{Q:List (Option Value)->Shared->Prop},(∀v∈vs,∃l,TupK s.heap pat v l/\l≠[])->(∀us:List Value,us.length=vs.length->(∀u∈us,∃l,AtK (pat 0) u l)->Q (us.map some) s)->wpAny (model prog w) A (vs.mapM firstOfTuple') Q E s
 |[],Q,_,h=>by rw[List.mapM_nil];exact Zm (h [] rfl (by simp))
 |v::vs,Q,hv,h=>by
  rw[List.mapM_cons];obtain⟨l,⟨a,o,xs,n,rfl,e1,e2,e3,e4⟩,e5⟩:=hv v (by simp);refine Za (m:=firstOfTuple' (.ref a)) (Za (Vg (T:= "tuple") ⟨o,e1,e2⟩ ?_));rw[Zo (by simp)];refine Za (listItems_at e1 e3 (Zm (Za (qE3 (λu hu=>hv u (by simp[hu])) λus hl hu=>Zm ?_))));generalize hx:xs.toList=ys at e4;cases e4 with
  |nil=>exact absurd rfl e5
  |@cons _ u l _ _ hk _=>
   have ex:xs[0]?=some u:=by rw[<- Y9,hx];rfl
   rw[ex];refine h (u::us) (by simp[hl]) λq hq=>?_;rcases Zy.mp hq with rfl|z
   ·exact⟨l,hk⟩
   ·exact hu q z
def tyK (k:Bool):Value:=if k then .type "str" else .type "int"
theorem qX7 {k:Bool}:∀{us:List Value},(∀u∈us,∃l,AtK k u l)->us.mapM typeOf=pure (us.map λ_=>tyK k)
 |[],_=>by simp
 |u::us,h=>by
  rw[List.mapM_cons,qX7 (us:=us) λq hq=>h q (by simp[hq])];obtain⟨l,hl⟩:=h u (by simp);have e:typeOf u=pure (tyK k):=by cases hl<;>rfl
  rw[e];simp
theorem xl1 {vs:List Value}{Q:SortKind->Shared->Prop}(h0:vs≠[]) (hv:∀v∈vs,∃l,TupK s.heap pat v l/\l≠[]) (h:Q (tuples' true) s):wpAny (model prog w) A (keyKind' vs.toArray) Q E s:=by
 rw[keyKind'_eq,List.mapM_toArray];simp only[bind_map_left];refine Za (qE3 hv λus hl hu=>?_);rw[Zr (by simp)];refine Za (Y1 ?_);have e:(us.map some).toArray.filterMap id=us.toArray:=by
  rw[List.filterMap_toArray];congr 1;rw[List.filterMap_map];exact List.filterMap_some
 rw[e,oneTypeOnly'_eq,List.mapM_toArray,qX7 hu];simp only[map_pure,WX];cases us with
 |nil=>exact absurd (Wp.mp hl.symm) h0
 |cons u us=>
  have e0:((u::us).map λ_=>tyK (pat 0)).toArray[0]?=some (tyK (pat 0)):=by simp
  have e1:(((u::us).map λ_=>tyK (pat 0)).toArray.all λx=>x==tyK (pat 0))=true:=by
   simp only[List.all_toArray,Vi,Z6];intro _ _;show (tyK (pat 0)==tyK (pat 0))=true;cases pat 0<;>rfl
  rw[e0];simp only[e1,Vr,WX];have e2:((some (tyK (pat 0))).any λx=>x != Value.type "tuple")=true:=by cases pat 0<;>rfl
  rw[e2];exact Zm h
def AscT (h:Heap) (pat:Nat->Bool) (vs:List Value):Prop:=vs.Pairwise λu v=>∀l m,TupK h pat u l->TupK h pat v m->¬m<l
theorem xy2 {vs:List Value}{h:Heap}{xs:Array Keyed}(hv:∀v∈vs,∃l,TupK h pat v l) (hp:xs.Perm (pairsOf vs)) (hs:SortedToK (ql1 h pat) xs (pairsOf vs).size) :
  (xs.map (·.2)).toList.Perm vs/\AscT h pat (xs.map (·.2)).toList:=by
 have hl:xs.toList.Perm (vs.zip vs):=by rw[<- pairsOf_toList];exact XO.mp hp
 have mem:∀p,p∈xs.toList->p.1=p.2/\p.1∈vs:=λp q=>mem_zip_self (hl.mem_iff.mp q);constructor
 ·rw[Array.toList_map];have z:=hl.map Prod.snd
  rwa [List.map_snd_zip (Ze _)] at z
 ·refine Xb.mpr λi j hi hj kD l m hl hm=>?_;have i1:i<xs.size:=by simpa using hi
  have j1:j<xs.size:=by simpa using hj
  have z:=hs i j (ZX kD) (by rw[<- hp.size_eq];exact j1);have ki:KK (ql1 h pat) xs i=l:=by
   have a:=(mem xs[i] (by simp)).1;have b:TupK h pat xs[i].1 l:=by rw[a];simpa using hl
   rw[qA8 i1];unfold kv;rw[qI2 b];rfl
  have kj:KK (ql1 h pat) xs j=m:=by
   have a:=(mem xs[j] (by simp)).1;have b:TupK h pat xs[j].1 m:=by rw[a];simpa using hm
   rw[qA8 j1];unfold kv;rw[qI2 b];rfl
  rw[ki,kj] at z;exact of_decide_eq_false z
theorem xc7 {p:Addr}{vs:List Value}{n:Nat}{P:Fin->Shared->Prop}(hL:s.heap.get? p=some (seqObj "list" vs.toArray n)) (hv:∀v∈vs,∃l,TupK s.heap pat v l/\l≠[]) (hz:vs.length<=sizeLine)
  (h:∀out:Array Value,out.toList.Perm vs->AscT s.heap pat out.toList->P (.done (.ret .none)) { s with heap:=sortedHeap s.heap p vs out }) :
  wpAny (model prog w) A (Builtin.«list.sort» ⟨[.ref p],[]⟩) P E s:=by
 have lt:=Zl hL;obtain⟨c1,hE⟩:∃c,(s.heap.update p (Obj.mapSeq λ_=>#[])).get? p=some (seqObj "list" #[] c):=⟨_,get?_update_seq hL (λ_=>#[])⟩;have kp:∀b o,b≠p->s.heap.get? b=some o->(((s.heap.update p (Obj.mapSeq λ_=>#[])).push (seqObj "tuple" vs.toArray 0)).push (seqObj "list" #[] 0)).get? b=some o:=λb o hb q=>by
  have l2:=Zl q;rw[Xh _ _ _ (by rw[size_push',XY];exact Zz (YX l2)),Xh _ _ _ (by rw[XY];exact Zz l2),Heap.get?_update_ne _ _ _ _ hb];exact q
 have hT:(((s.heap.update p (Obj.mapSeq λ_=>#[])).push (seqObj "tuple" vs.toArray 0)).push (seqObj "list" #[] 0)).get? p=some (seqObj "list" #[] c1):=by
  rw[Xh _ _ _ (by rw[size_push',XY];exact Zz (YX lt)),Xh _ _ _ (by rw[XY];exact Zz lt)];exact hE
 have kT:∀b o,s.heap.get? b=some o->o.cls=.type "tuple" -> (((s.heap.update p (Obj.mapSeq λ_=>#[])).push (seqObj "tuple" vs.toArray 0)).push (seqObj "list" #[] 0)).get? b=some o:=λb o q c=>kp b o (by rintro rfl;rw[hL] at q;cases q;simp at c) q;have hv':∀v∈vs,∃l,TupK (((s.heap.update p (Obj.mapSeq λ_=>#[])).push (seqObj "tuple" vs.toArray 0)).push (seqObj "list" #[] 0)) pat v l/\l≠[]:=λv q=>by
  obtain⟨l,x,y⟩:=hv v q;exact⟨l,x.keep kT,y⟩
 have back:∀out:Array Value,out.toList.Perm vs->AscT (((s.heap.update p (Obj.mapSeq λ_=>#[])).push (seqObj "tuple" vs.toArray 0)).push (seqObj "list" #[] 0)) pat out.toList->AscT s.heap pat out.toList:=λout _ q=>List.Pairwise.imp (λz l m x y=>z l m (x.keep kT) (y.keep kT)) q;rw[list_sort_plain];refine Za (listItems_at hL rfl (Za (listUpdate_at hL rfl (Za (seqEpoch_at hE rfl (Za (wpAny_newTuple (Za (wpAny_newList (YR ?_) (ZN _))) (by simpa using hz))))) (by simpa using hz) (ZN _))));show wpAny (model prog w) A _ P E { s with heap:=((s.heap.update p (Obj.mapSeq λ_=>#[])).push (seqObj "tuple" vs.toArray 0)).push (seqObj "list" #[] 0) };dsimp only;by_cases small:vs.toArray.size<2
 ·rw[Zr small,Zr small];refine Za (Zm ?_);rw[StateT.run_pure];refine Za (Zm ?_);dsimp only;have e:(vs.toArray.zip vs.toArray).map (·.2)=vs.toArray:=by
   apply Array.toList_inj.mp;simp[List.map_snd_zip]
  refine Za (seqEpoch_at hT rfl (Za (listUpdate_at hT rfl ?_ (ZN _) (by show ((vs.toArray.zip vs.toArray).map (·.2)).size<=_;rw[e];simp;lia))));simp only[bne_self_eq_false,Yh,Wa];refine Zm ?_;show P _ { s with heap:=sortedHeap s.heap p vs ((vs.toArray.zip vs.toArray).map (·.2)) };rw[e];refine h _ (by simp) ?_;have:vs.length<2:=by simpa using small
  match vs,this with
  |[],_=>exact List.Pairwise.nil
  |[x],_=>exact List.pairwise_singleton _ _
  |_::_::_,z=>simp at z;lia
 ·rw[Zo small,Zo small];refine Za (xl1 (pat:=pat) (λz=>small (by rw[z];decide)) hv' ?_);have ka:KeysOf (ql1 (((s.heap.update p (Obj.mapSeq λ_=>#[])).push (seqObj "tuple" vs.toArray 0)).push (seqObj "list" #[] 0)) pat) (pairsOf vs):=λq hq=>by
   rw[pairsOf_toList] at hq;obtain⟨l,x,_⟩:=hv' _ (mem_zip_self hq).2;exact⟨l,qI2 x⟩
  refine Za (Yq (qI1 (κ:=ql1 (((s.heap.update p (Obj.mapSeq λ_=>#[])).push (seqObj "tuple" vs.toArray 0)).push (seqObj "list" #[] 0)) pat) (kd:=tuples' true) (a₀:=pairsOf vs) (st:=SortSt.mk' (tuples' true) (vs.toArray.zip vs.toArray) #[] 7 none)
   (Q:=λ_ st'=>(arrOf st').Perm (pairsOf vs)/\failedOf st'=none/\SortedToK (ql1 (((s.heap.update p (Obj.mapSeq λ_=>#[])).push (seqObj "tuple" vs.toArray 0)).push (seqObj "list" #[] 0)) pat) (arrOf st') (pairsOf vs).size)
   (xy1 true) ka ⟨Array.Perm.refl _,rfl,rfl,rfl⟩ λst' a b c=>⟨a,b,c⟩) ?_ λ_ _ e=>e)
  rintro⟨⟨⟩,st'⟩ s' ⟨rfl,hp,hf,hs⟩;dsimp only;obtain⟨o1,o2⟩:=xy2 (λv q=>(hv' v q).imp λ_ z=>z.1) hp hs;refine Za (seqEpoch_at hT rfl (Za (listUpdate_at hT rfl ?_ (ZN _) ?_)))
  ·rw[hf];simp only[bne_self_eq_false,Yh,Wa];exact Zm (h _ o1 (back _ o1 o2))
  ·refine ZK (XV ?_) (Nat.le_succ_of_le hz);have:=o1.length_eq;rw[YI] at this;exact this
theorem q30 {p:Addr}{vs:List Value}{Q:Value->Shared->Prop}(hl:s.heap.IsList p vs.toArray) (hv:∀v∈vs,∃l,TupK s.heap pat v l/\l≠[]) (hz:vs.length<=sizeLine)
  (h:∀out:Array Value,out.toList.Perm vs->AscT s.heap pat out.toList->Q (.ref (s.heap.objs.size+1)) { s with heap:=sortedAll s.heap vs out }) :
  wpAny (model prog w) A (call (.builtin "sorted") [.ref p]) Q E s:=by
 refine Calls.call_function_entry kind_sorted plain_sorted entry_sorted (args_sorted1 _) ?_;unfold Builtin.«sorted»;have hsz:((s.heap.push (seqObj "list" #[] 0)).update s.heap.objs.size (Obj.mapSeq (·++vs.toArray))).objs.size=s.heap.objs.size+1:=by rw[XY,size_push']
 have hL:(((s.heap.push (seqObj "list" #[] 0)).update s.heap.objs.size (Obj.mapSeq (·++vs.toArray))).push (seqObj "list" vs.toArray 0)).get? (s.heap.objs.size+1)=some (seqObj "list" vs.toArray 0):=by rw[<- hsz];exact Zn _ rfl
 have kp:∀b o,s.heap.get? b=some o->(((s.heap.push (seqObj "list" #[] 0)).update s.heap.objs.size (Obj.mapSeq (·++vs.toArray))).push (seqObj "list" vs.toArray 0)).get? b=some o:=λb o q=>by
  have l2:=Zl q;rw[Xh _ _ _ (by rw[hsz];exact Zz (YX l2)),Heap.get?_update_ne _ _ _ _ (Zz l2),Xh _ _ _ (Zz l2)];exact q
 have back:∀{v:Value}{l:List (List Int)},TupK s.heap pat v l->TupK (((s.heap.push (seqObj "list" #[] 0)).update s.heap.objs.size (Obj.mapSeq (·++vs.toArray))).push (seqObj "list" vs.toArray 0)) pat v l:=λx=>x.keep λb o q _=>kp b o q;refine Za (m:=checkCount "sorted" 1 1 _) (Zm (Za (collect_list hl (Za (wpAny_newList ?_ hz)) hz)));show wpAny _ _ _ _ _ { s with heap:=((s.heap.push (seqObj "list" #[] 0)).update s.heap.objs.size (Obj.mapSeq (·++vs.toArray))).push (seqObj "list" vs.toArray 0) };rw[hsz];refine Za (YR (YC slot_list_sort ⟨_,hL,rfl⟩ entry_list_sort (xc7 (pat:=pat) hL (λv q=>(hv v q).imp λ_ z=>⟨back z.1,z.2⟩) hz λout a1 a2=>⟨_,rfl,Zm ⟨_,rfl,h out a1 ?_⟩⟩) (args_list_sort _)));exact List.Pairwise.imp (λz l m x y=>z l m (back x) (back y)) a2
end
end PyProof.Rows
namespace L2
open PySem PySem.Spec PyProof.Rows
inductive AtV:Bool->V->List Int->Prop
 |int (i:Int):AtV false (.int i) [i]
 |str (x:Str):AtV true (.str x) (x.cps.toList.map Int.ofNat)
inductive AtsV (pat:Nat->Bool):Nat->List V->List (List Int)->Prop
 |nil {i:Nat}:AtsV pat i [] []
 |cons {i:Nat}{v:V}{l:List Int}{vs:List V}{ls:List (List Int)}(h:AtV (pat i) v l) (r:AtsV pat (i+1) vs ls):AtsV pat i (v::vs) (l::ls)
def TupV (H:Hp) (pat:Nat->Bool) (v:V) (l:List (List Int)):Prop:=∃a xs,v=.ref a/\H a=some (.tup xs)/\AtsV pat 0 xs l
def AscV (H:Hp) (pat:Nat->Bool) (vs:List V):Prop:=vs.Pairwise λu v=>∀l m,TupV H pat u l->TupV H pat v m->¬m<l
theorem AtV.rel {k:Bool}{x:V}{l:List Int}{u:Value}(h:AtV k x l) (r:RelV x u):AtK k u l:=by
 cases h with
 |int i=>obtain⟨t,rfl⟩:=r;exact .int i t
 |str x=>obtain⟨t,rfl⟩:=r;exact .str x t
theorem AtsV.rel {pat:Nat->Bool}:∀{i:Nat}{xs:List V}{ls:List (List Int)}{us:List Value},AtsV pat i xs ls->Vals xs us->AtsK pat i us ls
 |_,_,_,_,.nil,.nil=>.nil
 |_,_,_,_,.cons h r,.cons h' r'=>.cons (h.rel h') (r.rel r')
theorem TupV.rel {P:Program}{w:World}{H:Hp}{h:Heap}(ok:HOk P w H h){pat:Nat->Bool}{x:V}{l:List (List Int)}{u:Value}(t:TupV H pat x l) (r:RelV x u):TupK h pat u l:=by
 obtain⟨a,xs,rfl,e,ha⟩:=t;cases (show u=Value.ref a from r);obtain⟨_,its,rv,o,ho,hc,n,hd⟩:=ok a _ e;exact⟨a,o,_,n,rfl,ho,hc,hd,by simpa using ha.rel rv⟩
theorem xc8:∀{us us':List Value},us'.Perm us->∀{xs:List V},Vals xs us->∃xs',Vals xs' us'/\xs'.Perm xs:=by
 intro us us' p
 induction p with
 |nil=>intro xs r;exact⟨xs,r,.refl _⟩
 |cons u p ih=>
  intro xs r;cases r with
  |cons h r=>
   obtain⟨xs',r',p'⟩:=ih r;exact⟨_::xs',.cons h r',p'.cons _⟩
 |swap u v l=>
  intro xs r;cases r with
  |cons h r=>
   cases r with
   |cons h2 r=>exact⟨_::_::_,.cons h2 (.cons h r),List.Perm.swap _ _ _⟩
 |trans p q ihp ihq=>
  intro xs r;obtain⟨x1,r1,p1⟩:=ihq r;obtain⟨x2,r2,p2⟩:=ihp r1;exact⟨x2,r2,p2.trans p1⟩
theorem qX8:∀{xs:List V}{us:List Value}{u:Value},Vals xs us->u∈us->∃x,x∈xs/\RelV x u
 |_,_,u,.nil,h=>by simp at h
 |_,_,u,.cons r rs,h=>by
  rcases Zy.mp h with rfl|z
  ·exact⟨_,by simp,r⟩
  ·obtain⟨x,h1,h2⟩:=qX8 rs z;exact⟨x,by simp[h1],h2⟩
theorem qX9 {P:Program}{w:World}{H:Hp}{h:Heap}(ok:HOk P w H h){pat:Nat->Bool}:∀{xs:List V}{us:List Value},Vals xs us->AscT h pat us->AscV H pat xs
 |_,_,.nil,_=>.nil
 |x::xs,u::us,.cons r rs,a=>by
  obtain⟨a1,a2⟩:=Y8.mp a;refine Y8.mpr ⟨λy hy l m tl tm=>?_,qX9 ok rs a2⟩;obtain⟨v,hv,rv⟩:∃v,v∈us/\RelV y v:=by
   clear a a1 a2
   induction rs with
   |nil=>simp at hy
   |cons h t ih=>
    rcases Zy.mp hy with rfl|z
    ·exact⟨_,by simp,h⟩
    ·obtain⟨v,h1,h2⟩:=ih z;exact⟨v,by simp[h1],h2⟩
  exact a1 v hv l m (tl.rel ok r) (tm.rel ok rv)
section
variable {X:Cx}
theorem qN7:qi3 X (.builtin "sorted") (λxs H Q=>∃(p:Addr) (vs:List V) (pat:Nat->Bool),xs=[.ref p]/\H p=some (.lst vs)/\(∀v∈vs,∃l,TupV H pat v l/\l≠[]) /\
  ∀q us,H q=none->us.Perm vs->AscV H pat us->Q (.ref q) (upd H q (.lst us))):=by
 intro j8 s σ H xs us Q I r h;obtain⟨p,vs,pat,rfl,hp,ht,q⟩:=h;obtain⟨u,rfl,ru⟩:=qn5 r;cases ru;obtain⟨hz,its,n,rv,ho⟩:=I.hok p _ hp;have hl:=rv.length;refine q30 (pat:=pat) (vs:=its) ⟨_,ho,rfl,n,rfl⟩ (λv hv=>?_) (by lia) λout o1 o2=>?_
 ·obtain⟨x,hx,rx⟩:=qX8 rv hv;obtain⟨l,t,ne⟩:=ht x hx;exact⟨l,t.rel I.hok rx,ne⟩
 ·obtain⟨e,he⟩:=sortedAll_at s.heap its out;obtain⟨xs',r',p'⟩:=xc8 o1 rv;exact⟨.ref _,_,I.laid (a:=s.heap.objs.size+1) (o:=.lst xs') (t':=s.toks) (λb o z=>sortedAll_old z) (Wm _) ⟨by rw[p'.length_eq];exact hz,out.toList,e,r',by simpa using he⟩,rfl,q _ xs' (I.hok.fresh (Wm _)) p' (qX9 I.hok r' o2)⟩
end
section
variable {prog:Program}{w:World}{A:Around}{E:Value->Shared->Prop}{s:Shared}
theorem q31 {e it t:Addr}{i:Nat}{items:Array Value}{x old:Value}{Q:Option Value->Shared->Prop}(he:IsEnum s.heap e it i old) (jS:e≠it) (st:s.heap.IsListIter it t i) (ht:s.heap.IsList t items) (hx:items[i]?=some x)
  (q:∀h1 h',Heap.SameBut it s.heap h1->IsEnumOut h' e it ((i:Int)+1) x s.heap.objs.size->h'.IsListIter it t (i+1)->h'.get? s.heap.objs.size=some { cls:=.type "tuple",data:=.seq #[.int i s.toks,x] } ->
   (∀b o,b≠e->h1.get? b=some o->h'.get? b=some o)->Q (some (.ref s.heap.objs.size)) { s with heap:=h',toks:=s.toks+1 }):wpAny (model prog w) A (pyNext (.ref e)) Q E s:=by
 have hT:s.TypeIs (.ref e) "enumerate":=⟨_,he,rfl⟩;unfold pyNext;refine Za (Wb (Yc (name:=Str.ofString "__next__") hT YM (YC YM hT Wx
  (EnumT.pair_next (St:=λh=>h.IsListIter it t (i+1)) he jS (λQ' q'=>wpAny_nextOf_list_item st ht hx λh' st' sb=>q' h' sb st') λh1 h' sb st1 ho hT' kp=>Zm (q h1 h' sb ho ?_ hT' kp)) (Wo _))))
 obtain⟨o,x1,x2⟩:=st1;exact⟨o,kp it o (Yn jS) x1,x2⟩
end
def ItEl (K:PySem.W.Frag) (a:Addr):It:=
 ⟨λi H=>∃xs x,SqL K H a xs/\xs[i]?=some x,λi H y H'=>∃p x,H p=none/\(∀xs,SqL K H a xs->xs[i]?=some x)/\H'=upd H p (.tup [.int i,x])/\y=.ref p,λi H=>∃xs,SqL K H a xs/\xs.length<=i⟩
theorem q32 {P:Program}{w:World}{K:PySem.W.Frag}{elts:List Expr}{x1:Nat}{tpos:Pos}(a e it:Addr) (jS:e≠it) :
  Turn P w K (.Tuple elts x1 tpos) (ItEl K a) [e,it] e (λi h=>(∃old,IsEnum h e it i old)/\h.IsListIter it a i) where
 mem:=by simp
 obj:=λi h st b hb=>by
  rcases Zy.mp hb with rfl|hb
  ·obtain⟨⟨old,z⟩,_⟩:=st;exact⟨_,z,λv q=>by
    have q':Data.fields _=Data.cell v:=q;cases q'⟩
  ·have:b=it:=by simpa using hb
   subst this;obtain⟨_,o,z,_,d⟩:=st;exact⟨o,z,λv q=>by rw[d] at q;cases q⟩
 keep:=λi h h' st k=>by
  obtain⟨⟨old,z⟩,st2⟩:=st;exact⟨⟨old,k e (by simp) _ z⟩,st2.at λo q=>k it (by simp) o q⟩
 item:=by
  intro X hP hw hK hc i j8 s σ H E I hf st hg;subst hP hw hK;obtain⟨⟨old,he⟩,st2⟩:=st;obtain⟨xs,x,hq,hx⟩:=hg;obtain⟨its,rv,p,hz⟩:=I.list hq;obtain⟨u,hu,ru⟩:=rv.get hx;obtain⟨e0,e1,e2,e3,e4,e5⟩:=hf e (by simp);obtain⟨f0,f1,f2,f3,f4,f5⟩:=hf it (by simp);refine q31 he jS st2 (show s.heap.IsList a its.toArray from p.isList) (x:=u) (by simpa using hu) λh1 h' sb ho st3 ht kp=>?_;refine⟨_,rfl,wpAny_letOwnedTupleGo_enum ho λh2 kX sb2=>?_⟩;have elt:e<s.heap.objs.size:=Zl he;have ilt:it<s.heap.objs.size:=by obtain⟨o,z,_⟩:=st2;exact Zl z
  have fresh:H s.heap.objs.size=none:=I.hok.fresh (Ze _);have z1:h1.objs.size=s.heap.objs.size:=sb.1;have J0:Inv X j8 σ (upd H s.heap.objs.size (.tup [.int i,x])) { s with heap:=s.heap.push { cls:=.type "tuple",data:=.seq #[.int i s.toks,u] },toks:=s.toks+1 }:=
   I.laid (λb o q=>Zc _ q) (Ze _) ⟨by show 2<=sizeLine;decide,[.int i s.toks,u],.cons ⟨_,rfl⟩ (.cons ru .nil),_,Zn _ rfl,rfl,⟨_,rfl⟩,rfl⟩
  have ne1:(upd H s.heap.objs.size (.tup [.int i,x])) it=none:=by rw[qa6 (Zz ilt)];exact f0
  have ne2:(upd H s.heap.objs.size (.tup [.int i,x])) e=none:=by rw[qa6 (Zz elt)];exact e0
  have J1:=J0.turned (it:=it) (h':=h1.push { cls:=.type "tuple",data:=.seq #[.int i s.toks,u] }) (t':=s.toks+1) (λb o hb q=>by
    have q:(s.heap.push { cls:=.type "tuple",data:=.seq #[.int i s.toks,u] }).get? b=some o:=q;by_cases jC:b<s.heap.objs.size
    ·have q':s.heap.get? b=some o:=qF5 q jC;exact Zc _ ((sb.2 b hb).trans q')
    ·have kM:b<s.heap.objs.size+1:=by have:=Zl q;rw[Yi] at this;exact this
     have eb:b=s.heap.objs.size:=WN (Wy kM) (XX jC);subst eb;rw[Zn _ rfl] at q;cases q;have:=Zn h1 (o:={ cls:=.type "tuple",data:=.seq #[.int i s.toks,u] }) rfl;rw[z1] at this;exact this) ne1 f1 f3 f4 f5
  have J2:=J1.turned (it:=e) (h':=h') (t':=s.toks+1) (λb o hb q=>by
    have q:(h1.push { cls:=.type "tuple",data:=.seq #[.int i s.toks,u] }).get? b=some o:=q;by_cases jC:b<s.heap.objs.size
    ·have q':h1.get? b=some o:=qF5 q (by rw[z1];exact jC);exact kp b o hb q'
    ·have kM:b<s.heap.objs.size+1:=by have:=Zl q;rw[Yi,z1] at this;exact this
     have eb:b=s.heap.objs.size:=WN (Wy kM) (XX jC);subst eb;have:=Zn h1 (o:={ cls:=.type "tuple",data:=.seq #[.int i s.toks,u] }) rfl;rw[z1] at this;rw[this] at q;cases q;exact ht) ne2 e1 e3 e4 e5
  have J3:=J2.turned (it:=e) (h':=h2) (t':=s.toks+1) (λb o hb q=>(sb2.2 b hb).trans q) ne2 e1 e3 e4 e5;refine⟨.ref s.heap.objs.size,_,J3,rfl,⟨_,x,fresh,λys hy=>by rw[I.list_inj hy hq];exact hx,rfl,rfl⟩,⟨⟨u,by
   have:(((i+1:Nat)):Int)=(i:Int)+1:=by lia
   rw[this];exact kX⟩,st3.at λo q=>(sb2.2 it (Yn jS)).trans q⟩,λb hb=>?_⟩
  rcases Zy.mp hb with rfl|hb
  ·exact ne2
  ·have:b=it:=by simpa using hb
   subst this;exact ne1
 done:=by
  intro X hP hw hK hc i j8 s σ H E I hf st hg;subst hP hw hK;obtain⟨⟨old,he⟩,st2⟩:=st;obtain⟨xs,hq,hx⟩:=hg;obtain⟨its,rv,p,hz⟩:=I.list hq;obtain⟨f0,f1,f2,f3,f4,f5⟩:=hf it (by simp);have hl:=rv.length;exact wpAny_pyNext_enum_end (I.ok.hd hc) he st2 (show s.heap.IsList a its.toArray from p.isList) (by simp;lia) λh' eb=>⟨rfl,I.turned (t':=s.toks) (λb o hb e=>eb b o hb e) f0 f1 f3 f4 f5⟩
 self:=λ_ _ _ _ _ st h=>by
  obtain⟨⟨old,he⟩,_⟩:=st;exact Wz he h
section
variable {X:Cx}{elts:List Expr}{x1:Nat}{tpos:Pos}
def xF2 (K:PySem.W.Frag) (ta:TA):TI:=λσ H R=>ta σ H λvs H1=>∃a,vs=[.ref a]/\(∃xs,SqL K H1 a xs)/\R (ItEl K a) H1
theorem xl2 {e:Expr}{ta:TA}{p pos:Pos}(hg:Gl X "enumerate") (hm:X.mg "enumerate" = none) (ha:PA X [e] ta) (hs:starEach [e] X.env=[(false,eval e X.env)]:=by rfl):PI X (.Tuple elts x1 tpos) (.Call (.Name "enumerate" p) [e] [] pos) (xF2 X.K ta):=by
 intro j8 s σ H R I h;refine Call_ (qC9 I hg hm WW (Y4 (thn (ha pos j8 s σ H _ I h) λus s1 ⟨vs,H1,I1,r1,q1⟩=>?_) hs rfl));obtain⟨a,rfl,⟨xs,hq⟩,q⟩:=q1;obtain⟨u,rfl,ru⟩:=qn5 r1;cases ru;obtain⟨its,rv,pt,hz⟩:=I1.list hq;refine call_enumerate_list (show s1.heap.IsList a its.toArray from pt.isList) λh' he st _ kp=>?_;refine Wz he ?_;have J:Inv X j8 σ H1 { s1 with heap:=h' }:=I1.kept (t':=s1.toks) kp;refine⟨s1.heap.objs.size+1,[s1.heap.objs.size+1,s1.heap.objs.size],_,_,H1,rfl,J,q32 a _ _ (Nat.succ_ne_self _),⟨⟨.none,he⟩,st⟩,λb hb=>?_,q⟩;rcases Zy.mp hb with rfl|hb
 ·exact I1.fpOk (Wm _) (I1.hok.fresh (Wm _))
 ·have:b=s1.heap.objs.size:=by simpa using hb
  subst this;exact I1.fpOk (Ze _) (I1.hok.fresh (Ze _))
end
theorem q33 {K:PySem.W.Frag}{H:Hp}{a:Addr}{xs:List V}(ha:H a=some (.lst xs)):Goes (ItEl K a) H xs.length (λi y H3=>∃p x,y=.ref p/\xs[i]?=some x/\H3 p=some (.tup [.int i,x])) where
 go:=λi H2 hi s=>⟨xs,xs[i],SqL.of (s _ _ ha),by simp[hi]⟩
 yl:=λi H2 y H3 hi s h=>by
  obtain⟨p,x,hp,hx,rfl,rfl⟩:=h;exact⟨qb2 hp,p,x,rfl,hx xs (SqL.of (s _ _ ha)),qa2⟩
 st:=λH2 s=>⟨xs,SqL.of (s _ _ ha),Ze _⟩
theorem qN8 {K:PySem.W.Frag}{a:Addr}{xs:List V}{g:TG}{tb:TS}{D:Ends}{σ:St}{H:Hp}(Pv:Nat->St->Hp->Prop) (hk:∀i σ H2,Pv i σ H2->H2 a=some (.tup xs)) (h0:Pv 0 σ H)
  (hs:∀i x σ H p,xs[i]?=some x->Pv i σ H->H p=none->g (.ref p) σ (upd H p (.tup [.int i,x])) λσ2 H2=>tb { D with nx:=Pv (i+1),ct:=Pv (i+1),bk:=D.nx } σ2 H2) (hd:∀σ H,Pv xs.length σ H->D.nx σ H) :
  ∃W:Nat->Nat->St->Hp->Prop,(∃m,W 0 m σ H)/\∀i m σ H,W i m σ H ->
   ((Ite K a).stop i H/\D.nx σ H)\/((Ite K a).go i H/\∃N:St->Hp->Prop,(∀σ' H',N σ' H'->∃m',m'<m/\W (i+1) m' σ' H')/\∀x H',(Ite K a).yld i H x H'->g x σ H' λσ2 H2=>tb { D with nx:=N,ct:=N,bk:=D.nx } σ2 H2):=by
 refine⟨λi m σ H=>m=xs.length-i/\i<=xs.length/\Pv i σ H,⟨xs.length,by simp,ZN _,h0⟩,?_⟩;rintro i m σ H ⟨rfl,hi,p⟩;have hq:SqT K H a xs:=SqT.of (hk i σ H p);by_cases jC:i<xs.length
 ·refine .inr ⟨⟨xs,xs[i],hq,by simp[jC]⟩,Pv (i+1),λσ' H' p'=>⟨xs.length-(i+1),by lia,rfl,jC,p'⟩,λx H' y=>?_⟩;obtain⟨b,c,e0,e1,e2,e3⟩:=y;subst e2 e3;exact hs i c σ _ b (e1 xs hq) p e0
 ·have e:i=xs.length:=by lia
  subst e;exact .inl ⟨⟨xs,hq,Ze _⟩,hd σ H p⟩
theorem xy3 (l b:Addr) (xs ys:Array Value) (n m:Nat) (dct:Option Addr) (sl:Array (Option Value)) (c0:¬(!xs.isEmpty&&Builtin.List.listTooLong (xs.size+ys.size))=true) (c1:xs.size<=sizeLine) (c2:xs.size+ys.size<=sizeLine+1) :
  Meets (Builtin.«list.extend» ⟨[.ref l,.ref b],[]⟩) (λ_ R s=>s.heap.get? l=some { cls:=.type "list",dict:=none,data:=.seq xs n,slots:=#[] }/\s.heap.get? b=some { cls:=.type "tuple",dict:=dct,data:=.seq ys m,slots:=sl } /\
   R (.ok (.ret Value.none)) { s with heap:=s.heap.update l (Obj.mapSeq λx=>x++ys),toks:=s.toks }):=
 .of_wp λprog w A R s h=>by
  obtain⟨hp,g,d,tk,os⟩:=s;obtain⟨hl,hb,h⟩:=h;have f1:=AutoSeq1.sub_tuple_tuple;have f2:=AutoSeq1.sub_list_list;have f3:=AutoSeq1.sub_tuple_list;have f4:=AutoSeq1.sub_list_tuple;have z:(xs++ys).size<=sizeLine+1:=by rw[W8];exact c2
  wp_walk using (wpAny_updateSeq hl rfl (hz:=c1) (_hz':=z)),YS hl,YS hb
  exact⟨_,rfl,h⟩
section
variable {X:Cx}
theorem q34:MtM X "list.extend" (λx vs H Q=>∃l b xs zs,x=.ref l/\vs=[.ref b]/\H l=some (.lst xs)/\H b=some (.tup zs)/\xs.length+zs.length<=sizeLine/\Q .non (upd H l (.lst (xs++zs)))):=by
 intro j8 s σ H x vs v us Q I rx rv h;obtain⟨l,b,xs,zs,rfl,rfl,hH,hB,hz,q⟩:=h;cases rx;obtain⟨u,rfl,ru⟩:=rv.one;cases ru;obtain⟨z,its,n,r,hl,e⟩:=I.lstM hH;obtain⟨z2,its2,r2,⟨c,dct,dt,sl⟩,e2,e3,⟨n2,hdn⟩,e4⟩:=I.hok b _ hB
 replace e3:c=.type "tuple":=e3
 replace e4:dt=.seq its2.toArray n2:=e4
 clear hdn;subst e3 e4;have k8:=r2.length;have hsz:its.toArray.size+its2.toArray.size<=sizeLine:=by rw[ZA,ZA];lia
 have hlong:¬(!its.toArray.isEmpty&&Builtin.List.listTooLong (its.toArray.size+its2.toArray.size))=true:=by
  rw[qU5 hsz,Vl];exact Zu
 refine W0 F.slot_list_extend ⟨_,e,rfl⟩ F.entry_list_extend (F.args_list_extend_2 _ _) (xy3 l b its.toArray its2.toArray n n2 dct sl hlong (by rw[ZA];lia) (by lia)) ⟨e,e2,?_⟩;refine⟨.non,_,I.lset (its':=its++its2) hH e (by simp) (r.append r2) ?_,rfl,q⟩;rw[Zj];lia
theorem qN9:qi3 X (.type "range") (λxs H Q=>∃a b:Int,xs=[.int a,.int b]/\∀r,H r=none->Q (.ref r) (upd H r (.rng a b))):=by
 intro j8 s σ H xs us Q I r h;obtain⟨a,b,rfl,q⟩:=h;obtain⟨u,v,rfl,⟨t,rfl⟩,t2,rfl⟩:=q61 r;exact call_range_2 ⟨.ref s.heap.objs.size,_,I.laid (a:=s.heap.objs.size) (o:=.rng a b) (t':=s.toks+1) (λb o e=>Zc _ e) (Ze _) ⟨_,_,_,Zn _ rfl⟩,rfl,q _ I.fresh⟩
theorem qS7 (hc:X.calm=true):qi3 X (.type "list") (λxs H Q=>∃(r:Addr) (a n:Nat),xs=[.ref r]/\H r=some (.rng (a:Int) ((a+n:Nat):Int))/\a+n<=1000000/\∀l,H l=none->Q (.ref l) (upd H l (.lst ((List.range n).map λ(i:Nat)=>V.int ((a+i:Nat):Int))))):=by
 intro j8 s σ H xs us Q I rv h;obtain⟨r,a,n,rfl,hr,hn,q⟩:=h;obtain⟨u,rfl,ru⟩:=qn5 rv;cases ru;obtain⟨t,u,v,ho⟩:=I.hok r _ hr;refine call_list_range (a:=a) (b:=((a+n:Nat):Int)) (c:=1) (n:=n) (I.ok.hd hc) ho (small_one (by lia) (by lia) (by lia) (by lia)) (by rw[rangeSize_one];split<;>lia) (by lia) λh' tk acc c kp ho' kI=>?_;refine⟨.ref s.heap.objs.size,_,I.laid (a:=s.heap.objs.size) (o:=.lst ((List.range n).map λ(i:Nat)=>V.int ((a+i:Nat):Int))) (t':=tk) kp (Ze _) ⟨?_,acc.toList,c,?_,by simpa using ho'⟩,rfl,q _ I.fresh⟩
 ·rw[Zb,Xf,XJ];lia
 ·refine qG0 (by simp[kI.1]) λi x v hx hv=>?_;rw[Zd] at hx;obtain⟨j,hj,rfl⟩:=Zw.mp hx;have e:j=i:=by
   obtain⟨_,e⟩:=gS_ hj;simpa using e.symm
  subst e;obtain⟨t',rfl⟩:=kI.2 j v (by simpa using hv);exact⟨t',by simp⟩
theorem xc9 {k:Nat}(hr:Room k X.A):OpR X (compareOp .In) (λx y H Q=>∃(p:Addr) (xs:List V) (ds:List PyData) (d:PyData),y=.ref p/\H p=some (.lst xs)/\DatasAt H xs ds/\DataAt H x d/\d.canLay0=true/\PyData.canLayAll0 ds=true/\d.depth<=50 /\
  Q (.bl (ds.any λe=>PyData.eqv e d)) H):=by
 intro j8 s σ H x y v u Q I rx ry h;obtain⟨p,xs,ds,d,rfl,hp,vA,hd,c1,c2,dd,q⟩:=h;cases ry;obtain⟨as,ra⟩:=hd.reads I.hok rx;obtain⟨its,rv,pl,hz⟩:=I.list (SqL.of hp);have un:=hr.units;obtain⟨k1,k2⟩:=xb0 (X:=X) I un ra c1 dd vA rv c2;refine SeqAt.in_listAt (qR9 s.heap d) pl.isList (λw hw=>k1 w (by simpa using hw)) ⟨.bl _,H,I,rfl,?_⟩;rw[show its.toArray.any (qR9 s.heap d)=its.any (qR9 s.heap d) by simp,k2];exact q
end
end L2
namespace L2
open PySem PySem.Spec PyProof.Rows PySem.W
section
variable {X:Cx}{st:Stmt}{rest:List Stmt}{t u:TS}
def xy4 (t u:TS):TS:=λD σ H=>∃I:St->Hp->Prop,t { D with nx:=I } σ H/\∀σ' H',I σ' H'->u D σ' H'
theorem qO0 (h1:PS X st t) (h2:PSs X rest u):PSs X (st::rest) (xy4 t u):=by
 intro j8 s σ H D I ⟨J,h,hJ⟩;refine wpAny_execs_cons (thn (h1 j8 s σ H { D with nx:=J } I h) λf s1 q=>?_);cases f with
 |next=>
  obtain⟨σ',H',I',q⟩:=q;exact h2 j8 s1 σ' H' D I' (hJ σ' H' q)
 |ret v=>exact q
 |brk=>exact q
 |cont=>exact q
end
section
variable {X:Cx}{e:Expr}{te:TE}
end
def qm1:Expr->Bool
 |.Starred _ _=>true
 |_=>false
theorem xl3 {e:Expr}(h:qm1 e=false) (es:List Expr) (env:Env):starEach (e::es) env=(false,eval e env)::starEach es env:=by
 cases e<;>first|rfl|(exfalso;cases h)
theorem pa_c {X:Cx}{e:Expr}{es:List Expr}{te:TE}{t:TA}(ha:PE X e te) (hr:PA X es t) (h:qm1 e=false:=by rfl):PA X (e::es) (qz0 te t):=qa0 ha hr (xl3 h es X.env)
inductive PAs (X:Cx):List Expr->List TE->Prop where
 |nil:PAs X [] []
 |cons {e:Expr}{es:List Expr}{te:TE}{ts:List TE}(h:PE X e te) (r:PAs X es ts) (n:qm1 e=false:=by rfl):PAs X (e::es) (te::ts)
def tAll:List TE->TA
 |[]=>tNil
 |t::ts=>qz0 t (tAll ts)
theorem PAs.pa {X:Cx}{es:List Expr}{ts:List TE}(h:PAs X es ts):PA X es (tAll ts):=by
 induction h with
 |nil=>exact qa1
 |cons h r n ih=>exact pa_c h ih n
end L2
namespace Pr
open PySem L2 Qf
theorem xK4 {X:Cx}{st:Stmt}{rest:List Stmt}{R:TS->Prop}(h:∃t,PSb X st t/\∃u,PSs X rest u/\R (xy4 t u)):∃t,PSs X (st::rest) t/\R t:=by
 obtain⟨t,h1,u,h2,h3⟩:=h;exact⟨_,qO0 h1.go h2,h3⟩
inductive StI (X:Cx):List Stmt->TS->Prop
 |one {st:Stmt}{t:TS}(h:PSb X st t):StI X [st] t
 |cons {st:Stmt}{rest:List Stmt}{t u:TS}(h:PSb X st t) (r:StI X rest u):StI X (st::rest) (tSeq t u)
 |consI {st:Stmt}{rest:List Stmt}{t u:TS}(h:PSb X st t) (r:StI X rest u):StI X (st::rest) (xy4 t u)
theorem StI.go {X:Cx}:∀{l:List Stmt}{t:TS},StI X l t->PSs X l t
 |_,_,.one h=>qa8 h.go
 |_,_,.cons h r=>qc1 h.go r.go
 |_,_,.consI h r=>qO0 h.go r.go
end Pr
namespace Qf
inductive Tr
 |z|o|nd (a b c d:Tr) deriving DecidableEq
namespace Tr
def kids:Tr->List Tr
 |nd a b c d=>[a,b,c,d]
 |_=>[]
def dep:Tr->Nat
 |nd a b c d=>1+mx [dep a,dep b,dep c,dep d]
 |_=>0
def Red:Tr->Prop
 |nd a b c d=>¬(a=z/\b=z/\c=z/\d=z)/\¬(a=o/\b=o/\c=o/\d=o)/\Red a/\Red b/\Red c/\Red d
 |_=>True
def post:Tr->List Tr->List Tr
 |nd a b c d,e=>if nd a b c d∈e then e else post d (post c (post b (post a e)))++[nd a b c d]
 |_,e=>e
def In (L:List Tr) (t:Tr):Prop:=t=z\/t=o\/t∈L
theorem In.app {L s:List Tr}{t:Tr}(h:In L t):In (L++s) t:=h.imp id λh=>h.imp id λh=>Xe _ h
structure Ord (L:List Tr):Prop where
 nd:L.Nodup
 ch:∀(i:Nat) t,L[i]?=some t->(∃a b c d,t=.nd a b c d)/\∀s∈kids t,s=z\/s=o\/∃j:Nat,j<i/\L[j]?=some s
theorem ord_nil:Ord []:=⟨Vm,λi t h=>by simp at h⟩
theorem qs6:∀(t:Tr) (e:List Tr),∃s,post t e=e++s
 |z,e=>⟨[],by simp[post]⟩
 |o,e=>⟨[],by simp[post]⟩
 |nd a b c d,e=>by
  unfold post;split
  ·exact⟨[],by simp⟩
  ·obtain⟨s1,h1⟩:=qs6 a e;obtain⟨s2,h2⟩:=qs6 b (post a e);obtain⟨s3,h3⟩:=qs6 c (post b (post a e));obtain⟨s4,h4⟩:=qs6 d (post c (post b (post a e)));exact⟨s1++s2++s3++s4++[nd a b c d],by rw[h4,h3,h2,h1];simp⟩
theorem In.post {L:List Tr}{t:Tr}(s:Tr) (h:In L t):In (post s L) t:=by
 obtain⟨u,e⟩:=qs6 s L;rw[e];exact h.app
theorem qk6:∀(t:Tr) (e:List Tr) (s:Tr),s∈post t e->s∈e\/sizeOf s<=sizeOf t
 |z,e,s,h=>.inl h
 |o,e,s,h=>.inl h
 |nd a b c d,e,s,h=>by
  unfold post at h;split at h
  ·exact .inl h
  ·have sz:sizeOf (nd a b c d)=1+sizeOf a+sizeOf b+sizeOf c+sizeOf d:=by simp
   rcases Z2.mp h with h|h
   ·rcases qk6 d _ s h with h|h
    ·rcases qk6 c _ s h with h|h
     ·rcases qk6 b _ s h with h|h
      ·rcases qk6 a _ s h with h|h
       ·exact .inl h
       ·exact .inr (by lia)
      ·exact .inr (by lia)
     ·exact .inr (by lia)
    ·exact .inr (by lia)
   ·have:s=nd a b c d:=by simpa using h
    rw[this];exact .inr (Ze _)
theorem xd0 {a b c d:Tr}{e:List Tr}(h:nd a b c d∉e):nd a b c d∉post d (post c (post b (post a e))):=λh2=>by
 have sz:sizeOf (nd a b c d)=1+sizeOf a+sizeOf b+sizeOf c+sizeOf d:=by simp
 rcases qk6 d _ _ h2 with h2|h2
 ·rcases qk6 c _ _ h2 with h2|h2
  ·rcases qk6 b _ _ h2 with h2|h2
   ·rcases qk6 a _ _ h2 with h2|h2
    ·exact h h2
    ·lia
   ·lia
  ·lia
 ·lia
theorem qs7:∀(t:Tr) (e:List Tr),Ord e->Ord (post t e)/\In (post t e) t
 |z,e,h=>⟨h,.inl rfl⟩
 |o,e,h=>⟨h,.inr (.inl rfl)⟩
 |nd a b c d,e,h=>by
  unfold post;split
  ·rename_i hm;exact⟨h,.inr (.inr hm)⟩
  ·rename_i hm;obtain⟨o1,i1⟩:=qs7 a e h;obtain⟨o2,i2⟩:=qs7 b _ o1;obtain⟨o3,i3⟩:=qs7 c _ o2;obtain⟨o4,i4⟩:=qs7 d _ o3;have i1:=((i1.post b).post c).post d;have i2:=(i2.post c).post d;have i3:=i3.post d;have nb:=xd0 hm;generalize post d (post c (post b (post a e)))=L at o4 i1 i2 i3 i4 nb;refine⟨⟨?_,?_⟩,.inr (.inr (by simp))⟩
   ·rw[XG];exact⟨o4.nd,by simp,λx hx y hy e=>nb (by
     have:y=nd a b c d:=by simpa using hy
     rw[<- this,<- e];exact hx)⟩
   ·intro i t ht;by_cases hi:i<L.length
    ·rw[Zg hi] at ht;obtain⟨h1,h2⟩:=o4.ch i t ht;refine⟨h1,λs hs=>(h2 s hs).imp id λh=>h.imp id λ⟨j,hj,e⟩=>⟨j,hj,?_⟩⟩;rw[Zg (by lia)];exact e
    ·have j9:=(gS_ ht).1;rw[Zj] at j9;have v0:i=L.length:=by simp at j9;lia
     subst v0;have et:t=nd a b c d:=by simpa using ht.symm
     subst et;refine⟨⟨a,b,c,d,rfl⟩,λs hs=>?_⟩;have jO:In L s:=by
      have:s=a\/s=b\/s=c\/s=d:=by simpa [kids] using hs
      rcases this with rfl|rfl|rfl|rfl<;>assumption
     refine jO.imp id λh=>h.imp id λhm=>?_;obtain⟨j,hj,e⟩:=ZV.mp hm;exact⟨j,hj,by rw[Zg hj,Zf hj,e]⟩
def name (L:List Tr):Tr->Nat
 |z=>0
 |o=>1
 |t=>L.idxOf t+2
def rowsOf (L:List Tr):List Row:=L.map λt=>(kids t).map (name L)
theorem qA9 (L:List Tr) (a b c d:Tr):name L (.nd a b c d)=L.idxOf (.nd a b c d)+2:=rfl
theorem name_at {L:List Tr}(h:Ord L){i:Nat}{t:Tr}(e:L[i]?=some t):name L t=i+2:=by
 obtain⟨⟨a,b,c,d,rfl⟩,_⟩:=h.ch i t e;rw[qA9];congr 1;have hl:=(gS_ e).1;have he:=(gS_ e).2;rw[<- he];exact h.nd.idxOf_getElem i hl
theorem name_in {L:List Tr}(h:Ord L){t:Tr}(hi:In L t):(t=z/\name L t=0)\/(t=o/\name L t=1)\/∃i:Nat,L[i]?=some t/\name L t=i+2:=by
 rcases hi with rfl|rfl|hm
 ·exact .inl ⟨rfl,rfl⟩
 ·exact .inr (.inl ⟨rfl,rfl⟩)
 ·obtain⟨j,hj,e⟩:=ZV.mp hm;have e':L[j]?=some t:=by rw[Zf hj,e]
  exact .inr (.inr ⟨j,e',name_at h e'⟩)
theorem xl4 {L:List Tr}(h:Ord L){s t:Tr}(hs:In L s) (ht:In L t) (e:name L s=name L t):s=t:=by
 rcases name_in h hs with ⟨rfl,e1⟩|⟨rfl,e1⟩|⟨i,e0,e1⟩
 ·rcases name_in h ht with ⟨rfl,e2⟩|⟨rfl,e2⟩|⟨j,e3,e2⟩
  ·rfl
  ·lia
  ·lia
 ·rcases name_in h ht with ⟨rfl,e2⟩|⟨rfl,e2⟩|⟨j,e3,e2⟩
  ·lia
  ·rfl
  ·lia
 ·rcases name_in h ht with ⟨rfl,e2⟩|⟨rfl,e2⟩|⟨j,e3,e2⟩
  ·lia
  ·lia
  ·have:i=j:=by lia
   subst this;rw[e0] at e3;exact ZD e3
theorem name_app {L s:List Tr}{t:Tr}(h:In L t) (hz:Ord L):name (L++s) t=name L t:=by
 rcases name_in hz h with ⟨rfl,_⟩|⟨rfl,_⟩|⟨i,e,_⟩
 ·rfl
 ·rfl
 ·obtain⟨⟨a,b,c,d,rfl⟩,_⟩:=hz.ch i t e;rw[qA9,qA9,W9,Zr (Zx e)]
theorem qB0 {L:List Tr}(h:Ord L){i:Nat}{t s:Tr}(e:L[i]?=some t) (hs:s∈kids t):In L s/\name L s<i+2:=by
 rcases (h.ch i t e).2 s hs with rfl|rfl|⟨j,hj,e2⟩
 ·exact⟨.inl rfl,by show 0<_;lia⟩
 ·exact⟨.inr (.inl rfl),by show 1<_;lia⟩
 ·exact⟨.inr (.inr (Zx e2)),by rw[name_at h e2];lia⟩
theorem rowsOf_len (L:List Tr):(rowsOf L).length=L.length:=by simp[rowsOf]
theorem rowsOf_at {L:List Tr}{i:Nat}{t:Tr}(e:L[i]?=some t):(rowsOf L)[i]?=some ((kids t).map (name L)):=by
 unfold rowsOf;rw[Zd,e];rfl
theorem qv0 {L:List Tr}{i:Nat}{r:Row}(e:(rowsOf L)[i]?=some r):∃t,L[i]?=some t/\r=(kids t).map (name L):=by
 unfold rowsOf at e;rw[Zd] at e;obtain⟨t,h1,h2⟩:=Zw.mp e;exact⟨t,h1,h2.symm⟩
theorem rowsOf_ok {L:List Tr}(h:Ord L):qc0 (rowsOf L):=λp r hp=>by
 obtain⟨t,ht,rfl⟩:=qv0 hp;obtain⟨⟨a,b,c,d,rfl⟩,_⟩:=h.ch p t ht;refine⟨rfl,λx hx=>?_⟩;obtain⟨s,hs,rfl⟩:=ZO.mp hx;exact (qB0 h ht hs).2
theorem qo4 {L:List Tr}(h:Ord L):∀{k l:List Tr},(∀s∈k,In L s)->(∀s∈l,In L s)->k.map (name L)=l.map (name L)->k=l
 |[],[],_,_,_=>rfl
 |[],_::_,_,_,e=>by simp at e
 |_::_,[],_,_,e=>by simp at e
 |a::k,b::l,h1,h2,e=>by
  simp only[ZH,Xz] at e;rw[xl4 h (h1 a ZC) (h2 b ZC) e.1,qo4 h (λs hs=>h1 s (Zs _ hs)) (λs hs=>h2 s (Zs _ hs)) e.2]
theorem qY0 {s t:Tr}(hs:∃a b c d,s=.nd a b c d) (ht:∃a b c d,t=.nd a b c d) (e:kids s=kids t):s=t:=by
 obtain⟨a,b,c,d,rfl⟩:=hs;obtain⟨a',b',c',d',rfl⟩:=ht;simpa [kids] using e
theorem rowsOf_nodup {L:List Tr}(h:Ord L):(rowsOf L).Nodup:=by
 rw[nd_iff];intro i j kD hj e;rw[rowsOf_len] at hj;have ei:L[i]?=some L[i]:=Zf (by lia);have ej:L[j]?=some L[j]:=Zf hj;rw[rowsOf_at ei,rowsOf_at ej] at e;have:=qY0 (h.ch i _ ei).1 (h.ch j _ ej).1 (qo4 h (λs hs=>(qB0 h ei hs).1) (λs hs=>(qB0 h ej hs).1) (ZD e));have h2:=nd_iff.mp h.nd i j kD hj;rw[ei,ej] at h2;exact h2 (by rw[this])
end Tr
open Tr
def tr (rows:List Row):Nat->Nat->Tr
 |0,x=>if x=1 then .o else .z
 |d+1,x=>if x=0 then .z else if x=1 then .o else .nd (tr rows d ((rows.getD (x-2) []).getD 0 0)) (tr rows d ((rows.getD (x-2) []).getD 1 0)) (tr rows d ((rows.getD (x-2) []).getD 2 0)) (tr rows d ((rows.getD (x-2) []).getD 3 0))
theorem qB1 (rows:List Row) (d:Nat):tr rows d 0=.z:=by cases d<;>rfl
theorem qO1 (rows:List Row) (d:Nat):tr rows d 1=.o:=by cases d<;>rfl
theorem qB2 {r:Row}(h:r.length=4):∃a b c d,r=[a,b,c,d]:=by
 match r,h with
 |[a,b,c,d],_=>exact⟨a,b,c,d,rfl⟩
theorem xd1 {rows:List Row}{d p a b c e:Nat}(hp:rows[p]?=some [a,b,c,e]):tr rows (d+1) (p+2)=.nd (tr rows d a) (tr rows d b) (tr rows d c) (tr rows d e):=by
 have:rows.getD p []=[a,b,c,e]:=by rw[ZG,hp];rfl
 show (if p+2=0 then _ else if p+2=1 then _ else _)=_;rw[Zo (by lia),Zo (by lia),show p+2-2=p by lia,this]
 rfl
theorem qw4 {rows:List Row}(ok:qc0 rows){x:Nat}(hx:x<rows.length+2) (h:¬x<2):∃p a b c d,x=p+2/\rows[p]?=some [a,b,c,d]:=by
 have hp:x-2<rows.length:=by lia
 have hg:rows[x-2]?=some rows[x-2]:=Zf hp;obtain⟨a,b,c,d,e⟩:=qB2 (ok _ _ hg).1;exact⟨x-2,a,b,c,d,by lia,by rw[hg,e]⟩
theorem qs8 {rows:List Row}(ok:qc0 rows):∀(d d' x:Nat),dp rows x<=d->dp rows x<=d'->x<rows.length+2->tr rows d x=tr rows d' x:=by
 intro d
 induction d with
 |zero=>
  intro d' x h1 h2 hx;have x2:=qE1 ok hx h1
  match x,x2 with
  |0,_=>rw[qB1,qB1]
  |1,_=>rw[qO1,qO1]
 |succ d ih=>
  intro d' x h1 h2 hx;by_cases x2:x<2
  ·match x,x2 with
   |0,_=>rw[qB1,qB1]
   |1,_=>rw[qO1,qO1]
  ·obtain⟨p,a,b,c,e,rfl,hp⟩:=qw4 ok hx x2
   match d',h2 with
   |0,h2=>exact absurd (qE1 ok hx h2) x2
   |d'+1,h2=>
    have q:=λy (hy:y∈[a,b,c,e])=>qj5 ok hp h1 hy;have q':=λy (hy:y∈[a,b,c,e])=>qj5 ok hp h2 hy;rw[xd1 hp,xd1 hp,ih d' a (q a (by simp)).2 (q' a (by simp)).2 (q a (by simp)).1,ih d' b (q b (by simp)).2 (q' b (by simp)).2 (q b (by simp)).1,ih d' c (q c (by simp)).2 (q' c (by simp)).2 (q c (by simp)).1,ih d' e (q e (by simp)).2 (q' e (by simp)).2 (q e (by simp)).1]
def T (rows:List Row) (x:Nat):Tr:=tr rows (dp rows x) x
theorem qk7 (rows:List Row):T rows 0=.z:=qB1 _ _
theorem qs9 (rows:List Row):T rows 1=.o:=qO1 _ _
theorem qv1 {rows:List Row}(ok:qc0 rows){p a b c e:Nat}(hp:rows[p]?=some [a,b,c,e]):T rows (p+2)=.nd (T rows a) (T rows b) (T rows c) (T rows e):=by
 have jQ:=(gS_ hp).1;obtain⟨d,hd⟩:∃d,dp rows (p+2)=d+1:=⟨_,by rw[qC5 ok hp];exact Nat.add_comm _ _⟩;have q:=λy (hy:y∈[a,b,c,e])=>qj5 ok hp (XV hd) hy;unfold T;rw[hd,xd1 hp,qs8 ok d _ a (q a (by simp)).2 (Ze _) (q a (by simp)).1,qs8 ok d _ b (q b (by simp)).2 (Ze _) (q b (by simp)).1,qs8 ok d _ c (q c (by simp)).2 (Ze _) (q c (by simp)).1,qs8 ok d _ e (q e (by simp)).2 (Ze _) (q e (by simp)).1]
theorem xK5 {rows:List Row}(ok:qc0 rows) (nd:rows.Nodup):∀(d x y:Nat),dp rows x<=d->x<rows.length+2->y<rows.length+2->T rows x=T rows y->x=y:=by
 intro d;have low:∀x y,x<2->y<rows.length+2->T rows x=T rows y->x=y:=λx y x2 hy e=>by
  by_cases y2:y<2
  ·match x,y,x2,y2 with
   |0,0,_,_=>rfl
   |1,1,_,_=>rfl
   |0,1,_,_=>rw[qk7,qs9] at e;cases e
   |1,0,_,_=>rw[qk7,qs9] at e;cases e
  ·obtain⟨p,a,b,c,f,rfl,hp⟩:=qw4 ok hy y2;rw[qv1 ok hp] at e
   match x,x2 with
   |0,_=>rw[qk7] at e;cases e
   |1,_=>rw[qs9] at e;cases e
 induction d with
 |zero=>exact λx y h hx hy e=>low x y (qE1 ok hx h) hy e
 |succ d ih=>
  intro x y h hx hy e;by_cases x2:x<2
  ·exact low x y x2 hy e
  ·by_cases y2:y<2
   ·exact (low y x y2 hx e.symm).symm
   ·obtain⟨p,a,b,c,f,rfl,hp⟩:=qw4 ok hx x2;obtain⟨p',a',b',c',f',rfl,hp'⟩:=qw4 ok hy y2;rw[qv1 ok hp,qv1 ok hp'] at e;have q:=λy (hy:y∈[a,b,c,f])=>qj5 ok hp h hy;have q':∀y∈[a',b',c',f'],y<rows.length+2:=λy hy=>by
     have:=(ok _ _ hp').2 y hy;have:=(gS_ hp').1;lia
    injection e with e1 e2 e3 e4
    have h1:=ih a a' (q a (by simp)).2 (q a (by simp)).1 (q' a' (by simp)) e1;have h2:=ih b b' (q b (by simp)).2 (q b (by simp)).1 (q' b' (by simp)) e2;have h3:=ih c c' (q c (by simp)).2 (q c (by simp)).1 (q' c' (by simp)) e3;have h4:=ih f f' (q f (by simp)).2 (q f (by simp)).1 (q' f' (by simp)) e4;subst h1 h2 h3 h4;have:p=p':=by
     rcases Nat.lt_trichotomy p p' with z|z|z
     ·exact absurd (hp.trans hp'.symm) (nd_iff.mp nd p p' z (gS_ hp').1)
     ·exact z
     ·exact absurd (hp'.trans hp.symm) (nd_iff.mp nd p' p z (gS_ hp).1)
    rw[this]
def tau (rows:List Row) (p:Nat):Tr:=T rows (p+2)
theorem xy5 {rows:List Row}(ok:qc0 rows) (nd:rows.Nodup){e:List Nat}(pe:Post rows e){p:Nat}(hp:p<rows.length):tau rows p∈e.map (tau rows)<->p∈e:=by
 constructor
 ·intro h;obtain⟨q,hq,e2⟩:=ZO.mp h;have:=xK5 ok nd _ (q+2) (p+2) (Ze _) (by have:=pe.lt q hq;lia) (by lia) e2;have:q=p:=by lia
  rw[<- this];exact hq
 ·exact λh=>ZO.mpr ⟨p,h,rfl⟩
theorem xl5 {rows:List Row}(ok:qc0 rows) (nd:rows.Nodup):∀(d:Nat) (e:List Nat) (x:Nat),Post rows e->x<rows.length+2->dp rows x<=d->(dfs rows d e x).map (tau rows)=post (T rows x) (e.map (tau rows)):=by
 intro d
 induction d with
 |zero=>
  intro e x pe hx hd;have x2:=qE1 ok hx hd
  match x,x2 with
  |0,_=>rw[qk7];rfl
  |1,_=>rw[qs9];rfl
 |succ d ih=>
  intro e x pe hx hd;by_cases x2:x<2
  ·have:dfs rows (d+1) e x=e:=by
    show (if x<2\/x-2∈e then e else _)=e;rw[Zr (.inl x2)]
   rw[this]
   match x,x2 with
   |0,_=>rw[qk7];rfl
   |1,_=>rw[qs9];rfl
  ·obtain⟨p,a,b,c,f,rfl,hp⟩:=qw4 ok hx x2;have jQ:=(gS_ hp).1;have hm:=xy5 ok nd pe jQ;have hg:rows.getD p []=[a,b,c,f]:=by rw[ZG,hp];rfl
   have et:tau rows p=.nd (T rows a) (T rows b) (T rows c) (T rows f):=qv1 ok hp;rw[qv1 ok hp];show (if p+2<2\/p+2-2∈e then e else (rows.getD (p+2-2) []).foldl (dfs rows d) e++[p+2-2]).map (tau rows)=(if _∈e.map (tau rows) then _ else _);rw[show p+2-2=p by lia,<- et,hg];by_cases jY:p∈e
   ·rw[Zr (.inr jY),Zr (hm.mpr jY)]
   ·rw[Zo (by rintro (z|z);lia;exact jY z),Zo (λz=>jY (hm.mp z))];have q:=λy (hy:y∈[a,b,c,f])=>qj5 ok hp hd hy;obtain⟨qa,qa'⟩:=q a (by simp);obtain⟨qb,qb'⟩:=q b (by simp);obtain⟨qc,qc'⟩:=q c (by simp);obtain⟨qf,qf'⟩:=q f (by simp);have p1:=(qi0 ok d e a pe qa qa').1;have p2:=(qi0 ok d _ b p1 qb qb').1;have p3:=(qi0 ok d _ c p2 qc qc').1;show (dfs rows d (dfs rows d (dfs rows d (dfs rows d e a) b) c) f++[p]).map (tau rows)=_;rw[Z0,ih _ f p3 qf qf',ih _ c p2 qc qc',ih _ b p1 qb qb',ih _ a pe qa qa',et];show _++[tau rows p]=_;rw[et]
theorem q35 {n top:Nat}{rows:List Row}(c:Canon n top rows):rows=rowsOf (post (T rows top) [])/\top=name (post (T rows top) []) (T rows top):=by
 have h:=xl5 c.rok c.unlike n [] top (qo9 rows) c.inn c.deep;rw[c.ends] at h;have hord:Ord (post (T rows top) [])/\In (post (T rows top) []) (T rows top):=qs7 _ _ ord_nil;have hpost:post (T rows top) []=(List.range rows.length).map (tau rows):=h.symm;obtain⟨ho,hi⟩:=hord;generalize post (T rows top) []=L at ho hi hpost;have lat:∀p,p<rows.length->L[p]?=some (tau rows p):=λp hp=>by
  rw[hpost,Zd,Z5 hp];rfl
 have hL:L.length=rows.length:=by rw[hpost];simp
 have nmq:∀q,q<rows.length+2->name L (T rows q)=q:=λq hq=>by
  by_cases q2:q<2
  ·match q,q2 with
   |0,_=>rw[qk7];rfl
   |1,_=>rw[qs9];rfl
  ·have:=name_at ho (lat (q-2) (by lia));unfold tau at this;rw[show q-2+2=q by lia] at this;exact this
 refine⟨?_,(nmq top c.inn).symm⟩;refine YZ λp=>?_;by_cases hp:p<rows.length
 ·have hg:rows[p]?=some rows[p]:=Zf hp;obtain⟨a,b,e,f,er⟩:=qB2 (c.rok p _ hg).1;rw[er] at hg;rw[hg,rowsOf_at (lat p hp)];have et:tau rows p=.nd (T rows a) (T rows b) (T rows e) (T rows f):=qv1 c.rok hg;have lt:∀y∈[a,b,e,f],y<rows.length+2:=λy hy=>by
   have:=(c.rok _ _ hg).2 y hy;lia
  rw[et];show some [a,b,e,f]=some [name L (T rows a),name L (T rows b),name L (T rows e),name L (T rows f)];rw[nmq a (lt a (by simp)),nmq b (lt b (by simp)),nmq e (lt e (by simp)),nmq f (lt f (by simp))]
 ·rw[ZZ (by lia),ZZ (by rw[rowsOf_len];lia)]
theorem qB3 {L:List Tr}(h:Ord L):∀t:Tr,In L t->dp (rowsOf L) (name L t)=dep t
 |.z,_=>qL6 (by decide:(0:Nat)<2)
 |.o,_=>qL6 (by decide:(1:Nat)<2)
 |.nd a b c d,hi=>by
  rcases name_in h hi with ⟨e,_⟩|⟨e,_⟩|⟨i,e,e2⟩
  ·cases e
  ·cases e
  ·have hk:=λs (hs:s∈kids (.nd a b c d))=>(qB0 h e hs).1;rw[e2,qC5 (rowsOf_ok h) (rowsOf_at e)];show 1+mx [_,_,_,_]=1+mx [dep a,dep b,dep c,dep d];rw[qB3 h a (hk a (by simp[kids])),qB3 h b (hk b (by simp[kids])),qB3 h c (hk c (by simp[kids])),qB3 h d (hk d (by simp[kids]))]
theorem qO2 {L:List Tr}(h:Ord L):∀t:Tr,In L t->T (rowsOf L) (name L t)=t
 |.z,_=>qk7 _
 |.o,_=>qs9 _
 |.nd a b c d,hi=>by
  rcases name_in h hi with ⟨e,_⟩|⟨e,_⟩|⟨i,e,e2⟩
  ·cases e
  ·cases e
  ·have hk:=λs (hs:s∈kids (.nd a b c d))=>(qB0 h e hs).1;rw[e2,qv1 (rowsOf_ok h) (rowsOf_at e),qO2 h a (hk a (by simp[kids])),qO2 h b (hk b (by simp[kids])),qO2 h c (hk c (by simp[kids])),qO2 h d (hk d (by simp[kids]))]
def qE4 (L:List Tr):Prop:=∀t∈L,Red t
theorem qi5 {L:List Tr}{t:Tr}(h:name L t=0):t=.z:=by
 cases t with
 |z=>rfl
 |o=>cases h
 |nd a b c d=>rw[qA9] at h;lia
theorem qk8 {L:List Tr}{t:Tr}(h:name L t=1):t=.o:=by
 cases t with
 |z=>cases h
 |o=>rfl
 |nd a b c d=>rw[qA9] at h;lia
theorem qC6 {L:List Tr}(h:Ord L) (hr:qE4 L):∀r∈rowsOf L,¬qh0 r:=λr hm=>by
 obtain⟨i,hi,e⟩:=ZV.mp hm;obtain⟨t,ht,rfl⟩:=qv0 (i:=i) (r:=r) (by rw[Zf hi,e]);obtain⟨⟨a,b,c,d,rfl⟩,_⟩:=h.ch i t ht;have rd:=hr _ (Zx ht);rintro (z|z)
 ·have z':[name L a,name L b,name L c,name L d]=[0,0,0,0]:=z;simp only[Xz,Vs] at z';exact rd.1 ⟨qi5 z'.1,qi5 z'.2.1,qi5 z'.2.2.1,qi5 z'.2.2.2⟩
 ·have z':[name L a,name L b,name L c,name L d]=[1,1,1,1]:=z;simp only[Xz,Vs] at z';exact rd.2.1 ⟨qk8 z'.1,qk8 z'.2.1,qk8 z'.2.2.1,qk8 z'.2.2.2⟩
end Qf
namespace L2
open PySem
end L2
namespace Pr
open PySem L2 Qf
structure Blt2 (mg:Str->Option Value):Prop where
 abs:mg "abs" = none
 repr:mg "repr" = none
 str:mg "str" = none
section
variable {P:Program}{w:World}{K:PySem.W.Frag}{mg:Str->Option Value}{base:Heap}
theorem scDigit:FnScope ["_law_pot_here", "_law_many", "_law_digit_here"] ["_law_pot_here", "_law_many"] (qa4 qw2):=qe9
def qv2:Sp:=λvs H Q _=>∃(p:Addr) (n:Nat),vs=[.ref p,.int (n:Nat)]/\PurseAt H p/\0<n/\n<1000000/\∀(d:Nat) (H':Hp),d<n->But p H H'->PurseAt H' p->Q (.int (d:Nat)) H'
theorem qt0 {f:Addr}{fd:FuncData}(F:Fun K "_law_digit" "_law_digit" qw2 f fd):FnOk P w K mg base CX0 1 f fd ["_law_pot_here", "_law_many"] qv2:=by
 refine F.ok scDigit (λvs H Q E h=>?_) (λcdv A outer s H vs Q E hr h=>?_)
 ·obtain⟨p,n,rfl,_⟩:=h
  rfl
 ·obtain⟨p,n,rfl,⟨a,b,hp,ha,hb,kM⟩,hn,hn2,q⟩:=h;refine⟨_,qc1 (qf3 (qc4 xJ4 (pxN qe4 (pv 0) qa3) qa3 (qc6 _))
    (qc1 (psN 2 scDigit.nd (qb8 qU0 (pxN qe4 (pv 0) qa3) (pv 1)))
    (qc1 (qp7 (qb8 q57 (pxN qe4 (pv 0) qa3) (pv 1)) (xq0 (pv 0) qa3 qU4))
    (qa8 (qb0 (pv 2))))) qb5)
   (qc1 (qp7 (qb8 qU0 (qb8 qf9 (qb8 xq2 (pxN qe4 (pv 0) qa3) qa3) qa3) qa3) (xq0 (pv 0) qa3 qU4))
   (qa8 (qb0 (qb8 qU0 (qb8 q57 (pxN qe4 (pv 0) qa3) qa3) (pv 1))))),?_⟩
  have sq:∀{H':Hp}{xs:List V},H' p=some (.lst xs)->SqL K H' p xs:=λh=>SqL.of h;have fin:∀(d x y:Int),0<=d->d<(n:Int)->0<=x->0<=y->y<2^40->Q (.int d) (upd H p (.lst [.int x,.int y])):=λd x y d0 d1 x0 y0 y1=>by
   have:=q d.toNat (upd H p (.lst [.int x,.int y])) (by lia) But.upd ⟨x,y,qa2,x0,y0,y1⟩
   rwa [show ((d.toNat:Nat):Int)=d by lia] at this
  have hn0:(0:Int)<n:=by lia
  refine⟨_,rfl,p,_,0,_,rfl,rfl,sq hp,rfl,_,_,rfl,rfl,_,rfl,?_⟩;refine ite2 (λhc=>?_) (λhc=>?_)
  ·refine⟨_,rfl,p,_,0,_,rfl,rfl,sq hp,rfl,_,rfl,_,_,rfl,rfl,hn0,?_⟩;refine⟨_,rfl,p,_,0,_,rfl,rfl,sq hp,rfl,_,rfl,_,_,rfl,rfl,⟨hn0,by lia⟩,_,rfl,p,_,0,0,rfl,rfl,hp,rfl,?_⟩;refine⟨_,rfl,?_⟩;exact fin _ _ _ (WR _ (by lia)) (Wk _ hn0) (Int.ediv_nonneg ha (by lia)) hb kM
  ·refine⟨_,rfl,p,_,1,_,rfl,rfl,sq hp,rfl,_,_,rfl,rfl,.inl ⟨by lia,by lia⟩,_,_,rfl,rfl,_,_,rfl,rfl,(by show (0:Int)<2147483629;decide),_,rfl,p,_,1,1,rfl,rfl,hp,rfl,?_⟩;have m1:0<=(b*48271+8191)%2147483629/\(b*48271+8191)%2147483629<2147483629:=⟨WR _ (by decide),Wk _ (by decide)⟩;refine⟨_,rfl,p,_,1,_,rfl,rfl,sq qa2,rfl,_,_,rfl,rfl,⟨by decide,by decide⟩,_,rfl,_,_,rfl,rfl,hn0,?_⟩;exact fin _ _ _ (WR _ (by lia)) (Wk _ hn0) ha m1.1 (by lia)
theorem scPot:FnScope ["_law_script", "_law_k", "_law_cell"] ["_law_script", "_law_k"] (qa4 lPot):=qe9
def xF3 (K:PySem.W.Frag):Sp:=λvs H Q _=>∃(a:Addr) (k:Int) (ns:List Int),vs=[.ref a,.int k]/\SqL K H a (ns.map V.int)/\ns.length<=63/\0<=k/\k<=1000/\∀(H':Hp) (p:Addr),Same H H'->H p=none->PurseAt H' p->Q (.ref p) H'
theorem xF4 {f:Addr}{fd:FuncData}(F:Fun K "_law_pot" "_law_pot" lPot f fd) (B:Blt mg) (C:Blt2 mg):FnOk P w K mg base CX0 1 f fd ["_law_script", "_law_k"] (xF3 K):=by
 refine F.ok scPot (λvs H Q E h=>?_) (λcdv A outer s H vs Q E hr h=>?_)
 ·obtain⟨a,k,ns,rfl,_⟩:=h
  rfl
 ·obtain⟨a,k,ns,rfl,hS,hl,h0,h1,q⟩:=h;refine seqE ⟨_,⟨psN 2 scPot.nd qa3⟩,?_⟩;refine seqE ⟨_,⟨qf3 (qc4 qC1 (pv 1) (qa7 qa9 (by rfl) B.len ZJ (qa0 (pv 0) qa1)) (qc6 _)) (qa8 (psN 2 scPot.nd (pxN qe4 (pv 0) (pv 1)))) qb5⟩,?_⟩;refine qi4 ⟨_,⟨qb0 (qd1 (Ars2.go (.cons ⟨qa7 (qJ6 rfl) (by rfl) B.max XD (qa0 qa3 (qa0 (qb8 qv8 (qa7 qU3 (by rfl) C.abs PyProof.Rows.boot_abs (qa0 (pv 2) qa1)) (qb8 xq3 qa3 qa3)) qa1))⟩
    (.cons ⟨qb8 qf9 (qb8 qf9 (qb8 qU0 (qa7 qU3 (by rfl) C.abs PyProof.Rows.boot_abs (qa0 (pv 2) qa1)) qa3) (qb8 xq2 qa3 (pv 1))) qa3⟩ .nil rfl) rfl)))⟩,?_⟩
  have fin:∀(z:Int) (p:Addr),H p=none->Q (.ref p) (upd H p (.lst [.int (if (if z<0 then -z else z)-10^18>0 then (if z<0 then -z else z)-10^18 else 0),.int ((if z<0 then -z else z)%2147483629+97*k+1)])):=λz p hp=>by
   have m1:0<=(if z<0 then -z else z)%2147483629/\(if z<0 then -z else z)%2147483629<2147483629:=⟨WR _ (by decide),Wk _ (by decide)⟩;refine q _ p (qb2 hp) hp ⟨_,_,qa2,?_,?_,?_⟩
   ·split<;>lia
   ·lia
   ·lia
  refine⟨_,rfl,_,rfl,a,_,rfl,.inl hS,_,_,rfl,rfl,_,rfl,?_⟩;refine ite2 (λhc=>?_) (λhc=>?_)
  ·have hk:k<(ns.length:Int):=by
    have:=ZU hc;simpa using this
   have hkn:k.toNat<ns.length:=by lia
   refine⟨_,rfl,_,rfl,a,_,k,.int (ns[k.toNat]),rfl,rfl,hS,?_,?_⟩
   ·have:=qe3 (xs:=ns.map V.int) (j:=k.toNat) (v:=.int (ns[k.toNat])) (by simp[hkn]);rw[show ((k.toNat:Nat):Int)=k by lia] at this;exact this
   ·refine⟨_,rfl,_,rfl,_,_,rfl,rfl,⟨by decide,by decide,by decide⟩,_,_,rfl,rfl,_,_,rfl,?_⟩;exact⟨_,rfl,_,rfl,_,_,rfl,rfl,(by show (0:Int)<2147483629;decide),_,rfl,_,_,rfl,rfl,.inl ⟨by decide,by decide⟩,_,_,rfl,rfl,_,_,rfl,rfl,(by show 2<=sizeLine;decide),λp hp=>fin _ p hp⟩
  ·refine⟨_,rfl,_,rfl,_,_,rfl,rfl,⟨by decide,by decide,by decide⟩,_,_,rfl,rfl,_,_,rfl,?_⟩;exact⟨_,rfl,_,rfl,_,_,rfl,rfl,(by show (0:Int)<2147483629;decide),_,rfl,_,_,rfl,rfl,.inl ⟨by decide,by decide⟩,_,_,rfl,rfl,_,_,rfl,rfl,(by show 2<=sizeLine;decide),λp hp=>fin _ p hp⟩
end
end Pr
namespace L2
open PySem
def iSeq (K:PySem.W.Frag) (tl:TE):TI:=λσ H R=>tl σ H λx H1=>∃a,x=.ref a/\(((∃xs,SqL K H1 a xs)/\R (Itl K a) H1)\/((∃xs,SqT K H1 a xs)/\R (Itt K a) H1))
theorem xF5 {X:Cx}{tg l:Expr}{tl:TE}(hl:PE X l tl):PI X tg l (iSeq X.K tl):=by
 intro j8 s σ H R I h;refine thn (hl j8 s σ H _ I h) λv s1 ⟨x,H1,I1,r1,a,ex,alt⟩=>?_;subst ex;cases r1;have fresh:∀b∈[s1.heap.objs.size],FpOk X j8 H1 b:=λb hb=>by
  have e:b=s1.heap.objs.size:=by simpa using hb
  subst e;exact I1.fpOk (Ze _) (I1.hok.fresh (Ze _))
 rcases alt with ⟨⟨xs,hq⟩,q⟩|⟨⟨xs,hq⟩,q⟩
 ·obtain⟨its,rv,p,hz⟩:=I1.list hq;exact XE p.isList ⟨s1.heap.objs.size,[s1.heap.objs.size],_,_,H1,rfl,I1.kept (t':=s1.toks) λb o e=>Zc _ e,qJ5 a _,⟨_,Zn _ rfl,rfl,rfl⟩,fresh,q⟩
 ·obtain⟨its,rv,p,hz⟩:=I1.tuple hq;exact Wi (show s1.heap.IsTuple a its.toArray from p) ⟨s1.heap.objs.size,[s1.heap.objs.size],_,_,H1,rfl,I1.kept (t':=s1.toks) λb o e=>Zc _ e,qD0 a _,⟨_,Zn _ rfl,rfl,rfl⟩,fresh,q⟩
theorem xl6 {K:PySem.W.Frag}{a:Addr}{xs:List V}{g:TG}{tb:TS}{D:Ends}{σ:St}{H:Hp}(Pv:Nat->St->Hp->Prop) (hk:(∀i σ H2,Pv i σ H2->SqL K H2 a xs)\/(∀i σ H2,Pv i σ H2->SqT K H2 a xs)) (h0:Pv 0 σ H)
  (hs:∀i x σ H,xs[i]?=some x->Pv i σ H->g x σ H λσ2 H2=>tb { D with nx:=Pv (i+1),ct:=Pv (i+1),bk:=D.nx } σ2 H2) (hd:∀σ H,Pv xs.length σ H->D.nx σ H) :
  ((∃xs,SqL K H a xs)/\∃W:Nat->Nat->St->Hp->Prop,(∃m,W 0 m σ H)/\∀i m σ H,W i m σ H ->
   ((Itl K a).stop i H/\D.nx σ H)\/((Itl K a).go i H/\∃N:St->Hp->Prop,(∀σ' H',N σ' H'->∃m',m'<m/\W (i+1) m' σ' H')/\∀x H',(Itl K a).yld i H x H'->g x σ H' λσ2 H2=>tb { D with nx:=N,ct:=N,bk:=D.nx } σ2 H2)) \/
  ((∃xs,SqT K H a xs)/\∃W:Nat->Nat->St->Hp->Prop,(∃m,W 0 m σ H)/\∀i m σ H,W i m σ H ->
   ((Itt K a).stop i H/\D.nx σ H)\/((Itt K a).go i H/\∃N:St->Hp->Prop,(∀σ' H',N σ' H'->∃m',m'<m/\W (i+1) m' σ' H')/\∀x H',(Itt K a).yld i H x H'->g x σ H' λσ2 H2=>tb { D with nx:=N,ct:=N,bk:=D.nx } σ2 H2)):=by
 rcases hk with h|h
 ·exact .inl ⟨⟨xs,h 0 σ H h0⟩,qT9 Pv h0 (λi σ H2 hi hp=>h i σ H2 hp) hs hd⟩
 ·exact .inr ⟨⟨xs,h 0 σ H h0⟩,qq0 Pv h0 (λi σ H2 hi hp=>h i σ H2 hp) hs hd⟩
end L2
namespace Qf
open PySem
inductive Stp where
 |gone (k:Nat)|plain (k:Nat)|same (k j:Nat) deriving DecidableEq
def sPat:Nat->Bool:=λi=>decide (i=0)
def cod (x:Str):List Int:=x.cps.toList.map Int.ofNat
def Stp.key:Stp->List (List Int)
 |.gone k=>[cod "gone",[(k:Int)]]
 |.plain k=>[cod "plain",[(k:Int)]]
 |.same k j=>[cod "same",[(k:Int)],[(j:Int)]]
theorem xd2 {s t:Stp}(h:s.key=t.key):s=t:=by
 have e1:cod "gone" ≠ cod "plain":=by decide
 have e2:cod "gone" ≠ cod "same":=by decide
 have e3:cod "plain" ≠ cod "same":=by decide
 cases s<;>cases t<;>simp only[Stp.key,Xz,Vs] at h
 ·rw[Y6 h.2]
 ·exact absurd h.1 e1
 ·exact absurd h.1 e2
 ·exact absurd h.1.symm e1
 ·rw[Y6 h.2]
 ·exact absurd h.1 e3
 ·exact absurd h.1.symm e2
 ·exact absurd h.1.symm e3
 ·rw[Y6 h.2.1,Y6 h.2.2]
def sLe (a b:Stp):Bool:=!decide (b.key<a.key)
theorem xd3 (a b c:Stp) (h1:sLe a b=true) (h2:sLe b c=true):sLe a c=true:=by
 unfold sLe at *;simp only[YY,Wq] at *;exact XS.mpr (List.le_trans (XS.mp h1) (XS.mp h2))
theorem xd4 (a b:Stp):(sLe a b||sLe b a)=true:=by
 unfold sLe;by_cases h:b.key<a.key
 ·have:¬a.key<b.key:=λz=>Vp _ (List.lt_trans h z);simp[this]
 ·simp[h]
theorem xl7 {a b:Stp}(h1:sLe a b=true) (h2:sLe b a=true):a=b:=by
 unfold sLe at *;simp only[YY,Wq] at *;exact xd2 (List.le_antisymm (XS.mp h1) (XS.mp h2))
def srt (l:List Stp):List Stp:=l.mergeSort sLe
theorem qj4 (l:List Stp):(srt l).Perm l:=List.mergeSort_perm l sLe
theorem qv3 (l:List Stp):(srt l).Pairwise λa b=>sLe a b=true:=List.pairwise_mergeSort xd3 xd4 l
theorem qq5:∀{l m:List Stp},l.Perm m->(l.Pairwise λa b=>sLe a b=true)->(m.Pairwise λa b=>sLe a b=true)->l=m
 |[],m,p,_,_=>(List.nil_perm.mp p).symm
 |a::l,[],p,_,_=>by have:=p.length_eq;simp at this
 |a::l,b::m,p,h1,h2=>by
  obtain⟨a1,a2⟩:=Y8.mp h1;obtain⟨b1,b2⟩:=Y8.mp h2;have e:a=b:=by
   rcases Zy.mp (p.mem_iff.mp (ZC (a:=a) (l:=l))) with e|ha
   ·exact e
   ·rcases Zy.mp (p.mem_iff.mpr (ZC (a:=b) (l:=m))) with e|hb
    ·exact e.symm
    ·exact xl7 (a1 b hb) (b1 a ha)
  subst e;rw[qq5 (List.perm_cons a |>.mp p) a2 b2]
theorem xF6 {l m:List Stp}(p:l.Perm m):srt l=srt m:=qq5 ((qj4 l).trans (p.trans (qj4 m).symm)) (qv3 l) (qv3 m)
end Qf
namespace Pr
open PySem L2 Qf
def qf4:Stp->List V
 |.gone k=>[.str "gone",.int (k:Nat)]
 |.plain k=>[.str "plain",.int (k:Nat)]
 |.same k j=>[.str "same",.int (k:Nat),.int (j:Nat)]
theorem qo5 (s:Stp):AtsV sPat 0 (qf4 s) s.key:=by
 cases s with
 |gone k=>exact .cons (.str _) (.cons (.int _) .nil)
 |plain k=>exact .cons (.str _) (.cons (.int _) .nil)
 |same k j=>exact .cons (.str _) (.cons (.int _) (.cons (.int _) .nil))
theorem xl8 {k:Bool}{v:V}{l m:List Int}(h:AtV k v l) (g:AtV k v m):l=m:=by cases h<;>cases g<;>rfl
theorem qO3 {pat:Nat->Bool}:∀{i:Nat}{vs:List V}{l m:List (List Int)},AtsV pat i vs l->AtsV pat i vs m->l=m
 |_,_,_,_,.nil,.nil=>rfl
 |_,_,_,_,.cons h r,.cons h' r'=>by rw[xl8 h h',qO3 r r']
theorem qO4 {s t:Stp}(h:qf4 s=qf4 t):s=t:=xd2 (qO3 (qo5 s) (h▸qo5 t))
def StepsL (H:Hp) (p:Addr) (ss:List Stp):Prop:=∃bs:List Addr,H p=some (.lst (bs.map V.ref))/\bs.length=ss.length/\∀(i:Nat) b s,bs[i]?=some b->ss[i]?=some s->H b=some (.tup (qf4 s))
theorem StepsL.same {H H':Hp}{p:Addr}{ss:List Stp}(h:StepsL H p ss) (s:Same H H'):StepsL H' p ss:=by
 obtain⟨bs,a,b,c⟩:=h;exact⟨bs,s _ _ a,b,λi b t h1 h2=>s _ _ (c i b t h1 h2)⟩
open Classical in
noncomputable def stAt (H:Hp) (b:Addr):Stp:=if h:∃s,H b=some (.tup (qf4 s)) then h.choose else .gone 0
theorem qI3 {H:Hp}{b:Addr}{s:Stp}(h:H b=some (.tup (qf4 s))):stAt H b=s:=by
 have e:∃s,H b=some (.tup (qf4 s)):=⟨s,h⟩;unfold stAt;rw[dif_pos e];have:=h.symm.trans e.choose_spec;exact (qO4 (HO.tup.inj (ZD this))).symm
theorem xd5 {bs:List Addr}{us:List V}(h:us.Perm (bs.map V.ref)):∃cs:List Addr,us=cs.map V.ref/\cs.Perm bs:=by
 refine⟨us.map λv=>match v with|.ref a=>a|_=>0,?_,?_⟩
 ·rw[Yp];refine (Vq us).symm.trans (Ym λv hv=>?_);obtain⟨b,_,rfl⟩:=ZO.mp (h.mem_iff.mp hv)
  rfl
 ·have:=h.map (λv:V=>match v with|.ref a=>a|_=>(0:Addr));rw[Yp] at this;exact this.trans (List.Perm.of_eq (Vq bs))
section
variable {X:Cx}
theorem qw5:qi3 X (.builtin "sorted") (λxs H Q=>∃(p:Addr) (ss:List Stp),xs=[.ref p]/\StepsL H p ss/\∀q H',Same H H'->H q=none->StepsL H' q (srt ss)->Q (.ref q) H'):=by
 intro j8 s σ H xs us Q I r h;obtain⟨p,ss,rfl,hS,q⟩:=h;obtain⟨bs,hp,hl,hb⟩:=id hS;have at':∀b∈bs,∃t,H b=some (.tup (qf4 t)):=λb hb'=>by
  obtain⟨i,hi,e⟩:=Yx hb';exact⟨ss[i]'(by lia),hb i b _ (by rw[<- e];simp[hi]) (by simp)⟩
 have sse:ss=bs.map (stAt H):=by
  refine YZ λi=>?_;rw[Zd];by_cases hi:i<bs.length
  ·rw[Zf (by lia),Zf hi];show some _=some _;rw[qI3 (hb i bs[i] (ss[i]'(by lia)) (by simp[hi]) (by simp))]
  ·rw[ZZ (by lia),ZZ (by lia)];rfl
 refine qN7 j8 s σ H [.ref p] us Q I r ⟨p,_,sPat,rfl,hp,λv hv=>?_,λa vs ha pm as=>?_⟩
 ·obtain⟨b,hb',rfl⟩:=ZO.mp hv;obtain⟨t,ht⟩:=at' b hb';exact⟨t.key,⟨b,_,rfl,ht,qo5 t⟩,by cases t<;>simp[Stp.key]⟩
 ·obtain⟨cs,rfl,pc⟩:=xd5 pm;refine q a _ (qb2 ha) ha ?_;have e:cs.map (stAt H)=srt ss:=by
   refine qq5 ?_ ?_ (qv3 ss)
   ·refine (pc.map (stAt H)).trans ?_;rw[<- sse];exact (qj4 ss).symm
   ·rw[List.pairwise_map];have as':=List.pairwise_map.mp as;refine List.Pairwise.imp_of_mem (λ{x y} hx hy z=>?_) as';obtain⟨t,ht⟩:=at' x (pc.mem_iff.mp hx);obtain⟨u,hu⟩:=at' y (pc.mem_iff.mp hy);rw[qI3 ht,qI3 hu];have:=z t.key u.key ⟨x,_,rfl,ht,qo5 t⟩ ⟨y,_,rfl,hu,qo5 u⟩;unfold sLe;simp[this]
  rw[<- e];refine⟨cs,qa2,by simp,λi b t h1 h2=>?_⟩;have hm:=Zx h1;obtain⟨u,hu⟩:=at' b (pc.mem_iff.mp hm);rw[Zd,h1] at h2;have:stAt H b=t:=ZD h2;rw[qI3 hu] at this;subst this;exact qc5 hu ha
end
end Pr
namespace Qf
def ixs (l:List Row) (r:Row):List Nat:=(List.range l.length).filter λj=>decide (l[j]?=some r)
theorem xl9 (l:List Row) (x r:Row):ixs (l++[x]) r=ixs l r++if x=r then [l.length] else []:=by
 unfold ixs;rw[Zj,XB,Y2,Xv];congr 1
 ·refine List.filter_congr λj hj=>?_;have:=Z4.mp hj;rw[Zg this]
 ·by_cases h:x=r
  ·rw[Zr h,Xq,Zr (by simp[h])];rfl
  ·rw[Zo h,Xq,Zo (by simp[h])];rfl
theorem xm0 {l:List Row}{r:Row}(h:r∉l):ixs l r=[]:=by
 unfold ixs;refine List.filter_eq_nil_iff.mpr λj _ e=>h ?_;exact Zx (ZU e)
theorem qq6 (l:List Row) (r:Row):(ixs l r).length<=l.length:=by
 unfold ixs;exact ZK (YN _ _) (by simp)
def sameAt (rows:List Row) (k:Nat):List Stp:=(ixs (rows.take k) (rows.getD k [])).map (Stp.same k)
def qk2 (rows:List Row):List Stp:=(List.range rows.length).flatMap (sameAt rows)
theorem qm2 (rows:List Row) (k:Nat):(sameAt rows k).length<=rows.length:=by
 unfold sameAt;rw[Zb];exact ZK (qq6 _ _) (by simp;lia)
theorem qt1 {α:Type}(f:Nat->List α) (i:Nat):(List.range (i+1)).flatMap f=(List.range i).flatMap f++f i:=by
 rw[Y2,List.flatMap_append];simp
theorem qt2 {α:Type}{f:Nat->List α}{c:Nat}(h:∀k,(f k).length<=c):∀i,((List.range i).flatMap f).length<=i*c
 |0=>by simp
 |i+1=>by
  rw[qt1,Zj,Nat.succ_mul];have:=qt2 h i;have:=h i;lia
end Qf
namespace Pr
open PySem L2 Qf
structure Plc (H0 H:Hp) (Pd S:Addr) (seen l:List Row) (kvs:List (List Key×V)) (f:Row->Addr):Prop where
 d:H Pd=some (.dT kvs)
 no:∀r,r∉seen->valV kvs (keyN r)=none
 yes:∀r∈seen,valV kvs (keyN r)=some (.ref (f r))
 lst:∀r∈seen,H (f r)=some (.lst (vN (ixs l r)))
 frs:∀r∈seen,H0 (f r)=none/\f r≠Pd/\f r≠S
 inj:∀r r',r∈seen->r'∈seen->f r=f r'->r=r'
theorem Plc.same {H0 H H':Hp}{Pd S:Addr}{seen l:List Row}{kvs:List (List Key×V)}{f:Row->Addr}(p:Plc H0 H Pd S seen l kvs f) (s:Same H H'):Plc H0 H' Pd S seen l kvs f:=
 ⟨s _ _ p.d,p.no,p.yes,λr hr=>s _ _ (p.lst r hr),p.frs,p.inj⟩
theorem StepsL.ne {H:Hp}{p a:Addr}{ss:List Stp}{xs:List V}(h:StepsL H p ss) (ha:H a=some (.lst xs)) (hn:p≠a){ys:List V}:StepsL (upd H a (.lst ys)) p ss:=by
 obtain⟨bs,h1,h2,h3⟩:=h;refine⟨bs,by rw[qa6 hn];exact h1,h2,λi b s e1 e2=>?_⟩;have:=h3 i b s e1 e2;rw[qa6 (qp9 this ha (λz=>nomatch z))];exact this
theorem StepsL.app {H:Hp}{p:Addr}{ss ts:List Stp}{xs ys:List V}(h:StepsL H p ss) (hp:H p=some (.lst xs)) (hl:ys.length=ts.length) (hy:∀(i:Nat) y t,ys[i]?=some y->ts[i]?=some t->∃b,y=.ref b/\H b=some (.tup (qf4 t))):StepsL (upd H p (.lst (xs++ys))) p (ss++ts):=by
 obtain⟨bs,h1,h2,h3⟩:=h;rw[hp] at h1;have e:=HO.lst.inj (ZD h1);have ey:∃cs:List Addr,ys=cs.map V.ref:=by
  refine⟨ys.map λv=>match v with|.ref a=>a|_=>0,?_⟩;rw[Yp];refine (Vq ys).symm.trans (Ym λv hv=>?_);obtain⟨i,hi,e⟩:=Yx hv;obtain⟨b,rfl,_⟩:=hy i v (ts[i]'(by lia)) (by rw[<- e];simp[hi]) (by simp)
  rfl
 obtain⟨cs,rfl⟩:=ey;have hl':cs.length=ts.length:=by simpa using hl
 refine⟨bs++cs,by rw[qa2,e,Z0],by simp[h2,hl'],λi b t e1 e2=>?_⟩;have tup:H b=some (.tup (qf4 t)):=by
  by_cases hi:i<bs.length
  ·rw[Zg hi] at e1;rw[Zg (by lia)] at e2;exact h3 i b t e1 e2
  ·rw[Zh (by lia)] at e1;rw[Zh (by lia),<- h2] at e2;obtain⟨b',e3,e4⟩:=hy (i-bs.length) (.ref b) t (by rw[Zd,e1];rfl) e2;cases e3;exact e4
 rw[qa6 (qp9 tup hp (λz=>nomatch z))];exact tup
theorem Plc.iff {H0 H:Hp}{Pd S:Addr}{seen seen' l:List Row}{kvs:List (List Key×V)}{f:Row->Addr}(p:Plc H0 H Pd S seen l kvs f) (e:∀r,r∈seen'<->r∈seen):Plc H0 H Pd S seen' l kvs f:=
 ⟨p.d,λr hr=>p.no r λz=>hr ((e r).mpr z),λr hr=>p.yes r ((e r).mp hr),λr hr=>p.lst r ((e r).mp hr),λr hr=>p.frs r ((e r).mp hr),λr r' h h'=>p.inj r r' ((e r).mp h) ((e r').mp h')⟩
theorem Plc.new {H0 H:Hp}{Pd S D:Addr}{l:List Row}{kvs:List (List Key×V)}{f:Row->Addr}{r:Row}(p:Plc H0 H Pd S l l kvs f) (hr:r∉l) (hD:H D=some (.lst [])) (h0:H0 D=none) (n1:D≠S) (nf:∀x∈l,f x≠D) :
  Plc H0 (upd H Pd (.dT (putK kvs (keyN r) (.ref D)))) Pd S (r::l) l (putK kvs (keyN r) (.ref D)) (λx=>if x=r then D else f x) where
 d:=qa2
 no:=λx hx=>by
  rw[qF2,Zo λz=>hx (by rw[qx6 z];simp)];exact p.no x λz=>hx (by simp[z])
 yes:=λx hx=>by
  rw[qF2];by_cases e:x=r
  ·rw[Zr (by rw[e]),Zr e]
  ·rw[Zo λz=>e (qx6 z),Zo e];exact p.yes x (by simpa [e] using hx)
 lst:=λx hx=>by
  by_cases e:x=r
  ·rw[Zr e,qa6 (qp9 hD p.d (λz=>nomatch z)),e,xm0 hr];exact hD
  ·have hx':x∈l:=by simpa [e] using hx
   rw[Zo e,qa6 (p.frs x hx').2.1];exact p.lst x hx'
 frs:=λx hx=>by
  by_cases e:x=r
  ·rw[Zr e];exact⟨h0,qp9 hD p.d (λz=>nomatch z),n1⟩
  ·rw[Zo e];exact p.frs x (by simpa [e] using hx)
 inj:=λx y hx hy e=>by
  by_cases e1:x=r
  ·by_cases e2:y=r
   ·rw[e1,e2]
   ·rw[Zr e1,Zo e2] at e;exact absurd e.symm (nf y (by simpa [e2] using hy))
  ·by_cases e2:y=r
   ·rw[Zo e1,Zr e2] at e;exact absurd e (nf x (by simpa [e1] using hx))
   ·rw[Zo e1,Zo e2] at e;exact p.inj x y (by simpa [e1] using hx) (by simpa [e2] using hy) e
theorem Plc.put {H0 H:Hp}{Pd S:Addr}{l:List Row}{kvs:List (List Key×V)}{f:Row->Addr}{r:Row}{i:Nat}(p:Plc H0 H Pd S (r::l) l kvs f) (hi:l.length=i) :
  Plc H0 (upd H (f r) (.lst (vN (ixs l r)++[.int (i:Nat)]))) Pd S (l++[r]) (l++[r]) kvs f where
 d:=by rw[qa6 (p.frs r (by simp)).2.1.symm];exact p.d
 no:=λx hx=>p.no x λz=>hx (by simpa [Vt] using z)
 yes:=λx hx=>p.yes x (by simpa [Vt] using hx)
 lst:=λx hx=>by
  have hx':x∈r::l:=by simpa [Vt] using hx
  rw[xl9];by_cases e:x=r
  ·subst e;rw[qa2,Zr rfl,hi];unfold vN;rw[Z0];rfl
  ·rw[qa6 λz=>e (p.inj x r hx' (by simp) z),Zo λz=>e z.symm,YK];exact p.lst x hx'
 frs:=λx hx=>p.frs x (by simpa [Vt] using hx)
 inj:=λx y hx hy=>p.inj x y (by simpa [Vt] using hx) (by simpa [Vt] using hy)
section
variable {P:Program}{w:World}{K:PySem.W.Frag}{mg:Str->Option Value}{base:Heap}
theorem qY1:FnScope ["telling"] ["telling"] (qa4 ql0):=qe9
def qh7 (n tp:Nat) (rows:List Row):Prop:=n<=12/\qc0 rows/\rows.length<=900/\tp<rows.length+2/\dp rows tp<=n
def qy1:Sp:=λvs H Q _=>∃(t:Addr) (n tp:Nat) (rows:List Row),vs=[.ref t]/\TellAt H t n tp rows/\qh7 n tp rows/\∀H',Same H H'->Q .non H'
theorem xd6 {f fS:Addr}{fd fdS:FuncData}(F:Fun K "want_telling" "want_telling" ql0 f fd)
  (hS:mg "is_telling" = some (.ref fS)) (FS:Fun K "is_telling" "is_telling" qm9 fS fdS) (bS:Binds K fdS ["thing"] []) (GS:FnOk P w K mg base CX0 5 fS fdS ["thing"] qM4):FnOk P w K mg base CX0 6 f fd ["telling"] qy1:=by
 refine F.ok qY1 (λvs H Q E h=>?_) (λcdv A outer s H vs Q E hr h=>?_)
 ·obtain⟨t,n,tp,rows,rfl,_⟩:=h
  rfl
 ·obtain⟨t,n,tp,rows,rfl,hT,⟨c1,c2,c3,c4,c5⟩,q⟩:=h;refine⟨_,qa8 (qf3 (qe7 (qe1 (pcN GS hr hS FS.kp bS (qa0 (pv 0) qa1)))) qf8 qb5),?_⟩;exact⟨_,rfl,t,n,tp,rows,rfl,hT,c1,c2,c3,c4,c5,λH1 s1=>⟨_,rfl,iteF (q H1 s1)⟩⟩
abbrev xF7:List Str:=["rows", "places", "steps", "k", "row", "alike"]
theorem scSame:FnScope xF7 ["rows"] (qa4 xa0):=qe9
def xs3:Sp:=λvs H Q _=>∃(p:Addr) (rows:List Row),vs=[.ref p]/\RowsAt H p rows/\rows.length<=900/\∀H' q,Same H H'->H q=none->StepsL H' q (qk2 rows)->Q (.ref q) H'
theorem xy6 {f:Addr}{fd:FuncData}(F:Fun K "same_steps" "same_steps" xa0 f fd) (B:Blt mg):FnOk P w K mg base CX0 1 f fd ["rows"] xs3:=by
 refine F.ok scSame (λvs H Q E h=>?_) (λcdv A outer s H vs Q E hr h=>?_)
 ·obtain⟨p,rows,rfl,_⟩:=h
  rfl
 ·obtain⟨p,rows,rfl,hR,hn,q⟩:=h;have hu:A.units+3+1<cLine:=by
   have h2:A.units+3+16*0+200<cLine:=hr.un;lia
  refine seqE ⟨_,⟨psN 1 scSame.nd qU7⟩,?_⟩;refine seqE ⟨_,⟨psN 2 scSame.nd (qd1 qa1)⟩,?_⟩;refine seqE ⟨_,⟨ql5 Yb rfl (qr7 (by rfl) B.enum (qa0 (pv 0) qa1)) (qn7 rfl (qb6 (pgN 3 scSame.nd) (qb6 (pgN 4 scSame.nd) qj8)))
   (StB.go (.cons ⟨psN 5 scSame.nd (PEb.go (qA2 PySem.F.plainAttrs_dict WP PySem.F.type_dict_setdefault (qH5 hu) ⟨pv 1⟩ (.cons ⟨pv 4⟩ (.cons ⟨qd1 qa1⟩ .nil rfl) rfl)))⟩
    (.cons ⟨qd3 (PEb.go (qA2 ZI We Wf qK1 ⟨pv 2⟩ (.cons ⟨qf5 xF7 (qa4 xa0) rfl rfl rfl scSame.nd (qQ0 (pv 5)) (λcl C fp s₀ H₀=>qf0 (qa0 qb7 (qa0 (pv 4) (qa0 (pv 0) qa1))))⟩ .nil rfl)))⟩
    (.one ⟨qd3 (qC4 ZI ZS ZT qe5 (pv 5) (qa0 (pv 3) qa1))⟩))))⟩,?_⟩
  refine qi4 ⟨_,⟨qb0 (pv 2)⟩,?_⟩;obtain⟨bs,hp,j9,jA⟩:=id hR;have jJ:(bs.map V.ref).length=rows.length:=by rw[Zb];exact j9
  refine λPd hPd=>⟨(by show 0<=sizeLine;decide),λS hS=>?_⟩;have hSn:H S=none:=by
   cases e:H S with
   |none=>rfl
   |some o=>rw[qb2 hPd _ _ e] at hS;cases hS
  have nPS:Pd≠S:=qa5 qa2 hS;refine⟨_,rfl,p,rfl,⟨_,SqT.of (qc5 (qc5 hp hPd) hS)⟩,qN8 (K:=K) (xs:=bs.map V.ref) (λi σ H2=>∃kvs f,Plc H H2 Pd S (rows.take i) (rows.take i) kvs f/\kvs.length<=i/\Same H H2/\StepsL H2 S ((List.range i).flatMap (sameAt rows))/\∃v3 v4 v5,σ=[some (.ref p),some (.ref Pd),some (.ref S),v3,v4,v5])
   (λi σ H2 ⟨_,_,_,_,s2,_⟩=>s2 _ _ hp) ⟨[],λ_=>0,⟨by rw[qa6 nPS];exact qa2,λ_ _=>rfl,λr hr=>by simp at hr,λr hr=>by simp at hr,λr hr=>by simp at hr,λr r' hr=>by simp at hr⟩,Ze _,(qb2 hPd).trans (qb2 hS),⟨[],qa2,rfl,λi b s e=>by simp at e⟩,none,none,none,rfl⟩ ?_ ?_⟩
  ·rintro i y σ H2 a hy ⟨kvs,f,pl,hkl,s2,jT,v3,v4,v5,rfl⟩ ha;have hi:i<rows.length:=by rw[<- jJ];exact (gS_ hy).1
   rw[Zd] at hy;obtain⟨b,hb,rfl⟩:=Zw.mp hy;have jE:rows[i]?=some rows[i]:=by simp[hi]
   have jV:=s2 _ _ (jA i b rows[i] hb jE);have tl:(rows.take i).length=i:=by rw[ZW];lia
   have etk:rows.take (i+1)=rows.take i++[rows[i]]:=Yo hi;generalize rows[i]=r at jE jV etk;refine⟨a,_,rfl,SqT.of qa2,rfl,_,[.ref b],rfl,.ref b,[],rfl,rfl,?_⟩;have s3:Same H2 (upd H2 a (.tup [.int (i:Nat),.ref b])):=qb2 ha;have pl3:=pl.same s3;have st3:=jT.same s3;have hb3:=s3 _ _ jV;have S3:=s2.trans s3;generalize upd H2 a (.tup [.int (i:Nat),.ref b])=H3 at pl3 st3 hb3 S3;refine⟨_,rfl,.inr (.inr (.inl ⟨rfl,.inr ⟨_,pl3.d⟩⟩)),_,rfl,(by show 0<=sizeLine;decide),λD0 kR=>?_⟩;have s4:Same H3 (upd H3 D0 (.lst [])):=qb2 kR;have pl4:=pl3.same s4;have st4:=st3.same s4;have hb4:=s4 _ _ hb3;have S4:=S3.trans s4;have hD4:upd H3 D0 (.lst []) D0=some (.lst []):=qa2;have hDn:H D0=none:=by
    cases e:H D0 with
    |none=>rfl
    |some o=>rw[S3 _ _ e] at kR;cases kR
   have nDS:D0≠S:=by
    obtain⟨bs0,h1,_⟩:=st3;exact (qa5 h1 kR).symm
   have nfD:∀x∈rows.take i,f x≠D0:=λx hx=>qa5 (pl3.lst x hx) kR;generalize upd H3 D0 (.lst [])=H4 at pl4 st4 hb4 S4 hD4;refine⟨Pd,b,kvs,keyN r,.ref D0,rfl,rfl,pl4.d,by rw[qM5];exact hb4,qd2 (by lia),?_,?_⟩
   ·intro v hv;have hm:r∈rows.take i:=by
     by_cases z:r∈rows.take i
     ·exact z
     ·rw[pl4.no r z] at hv;cases hv
    rw[pl4.yes r hm] at hv;cases hv;have pl5:Plc H H4 Pd S (r::rows.take i) (rows.take i) kvs f:=pl4.iff λx=>⟨λz=>(Zy.mp z).elim (λe=>e▸hm) id,λz=>Zs _ z⟩;have st5:=st4;have s5:=S4;have hk5:kvs.length<=i+1:=by lia
    obtain⟨kvs5,ek⟩:∃k,k=kvs:=⟨_,rfl⟩;obtain⟨f5,ef⟩:∃g,g=f:=⟨_,rfl⟩;simp only[<- ek,<- ef] at pl5 hk5 ⊢;obtain⟨bs5,vT,vU,hb5⟩:=id st5;have hA:=pl5.lst r (by simp);have nAS:=(pl5.frs r (by simp)).2.2;refine⟨_,rfl,.inl ⟨rfl,_,SqL.of vT⟩,_,rfl,f5 r,rfl,⟨_,SqL.of hA⟩,λD2 kQ=>qe6 kQ (λj z H=>∃m b,(ixs (rows.take i) r)[j]?=some m/\z=.ref b/\H b=some (.tup (qf4 (.same i m)))) (qG3 (K:=K) hA) (by rw[qc2];exact qd2 (by have:=qq6 (rows.take i) r;lia)) (λj z H1 H2 _ t ⟨m,b,h1,h2,h3⟩=>⟨m,b,h1,h2,t _ _ h3⟩) ?_ ?_⟩
    ·intro j x H6 hj hx s6 Q' hq;obtain⟨m,hm,rfl⟩:=ql8 hx;exact⟨_,rfl,_,rfl,(by show 3<=sizeLine;decide),λb hb=>hq _ _ (qb2 hb) ⟨m,b,hm,rfl,qa2⟩⟩
    ·intro ys H6 s6 hd6 jH jK;have st6:=st5.same s6;have pl6:=pl5.same s6;have wH:=s6 _ _ vT;rw[qc2] at jH;have e6:sameAt rows i=(ixs (rows.take i) r).map (Stp.same i):=by
      unfold sameAt;rw[ZG,jE];rfl
     refine⟨S,D2,_,ys,rfl,rfl,wH,hd6,?_,?_⟩
     ·rw[Zb,vU,jH];have a1:=qt2 (qm2 rows) i;have a2:=qq6 (rows.take i) r;have a3:i*rows.length<=900*900:=W4 (by lia) hn;exact ZX (qd2 (by lia))
     ·have st7:=st6.app (ts:=sameAt rows i) (ys:=ys) wH (by rw[e6,Zb,jH]) (λj y t h1 h2=>by
       obtain⟨m,b,g1,g2,g3⟩:=jK j y h1;rw[e6,Zd,g1] at h2;cases h2;exact⟨b,g2,g3⟩)
      have pl7:Plc H (upd H6 S (.lst (bs5.map V.ref++ys))) Pd S (r::rows.take i) (rows.take i) kvs5 f5:=
       ⟨by rw[qa6 (qp9 pl6.d wH (λz=>nomatch z))];exact pl6.d,pl6.no,pl6.yes,λx hx=>by rw[qa6 (pl6.frs x hx).2.2];exact pl6.lst x hx,pl6.frs,pl6.inj⟩
      have s7:Same H (upd H6 S (.lst (bs5.map V.ref++ys))):=λb o e=>by rw[qa6 (qa5 e hSn)];exact s6 _ _ (s5 _ _ e)
      have wK:=pl7.lst r (by simp);refine⟨_,rfl,.inl ⟨rfl,_,SqL.of wK⟩,_,rfl,f5 r,_,_,rfl,rfl,wK,by rw[qc2];exact qd2 (by have:=qq6 (rows.take i) r;lia),?_⟩;have pl8:=pl7.put (i:=i) tl;have st8:=st7.ne wK (Yn nAS) (ys:=vN (ixs (rows.take i) r)++[.int (i:Nat)]);rw[<- qt1] at st8;rw[<- etk] at pl8;exact⟨kvs5,f5,pl8,hk5,λb o e=>by rw[qa6 (qa5 e (pl7.frs r (by simp)).1)];exact s7 _ _ e,st8,_,_,_,rfl⟩
   ·intro hv;have hm:r∉rows.take i:=λz=>by
     rw[pl4.yes r z] at hv;cases hv
    have pl5:=pl4.new hm hD4 hDn nDS nfD;have nPs:Pd≠S:=nPS;have st5:StepsL (upd H4 Pd (.dT (putK kvs (keyN r) (.ref D0)))) S ((List.range i).flatMap (sameAt rows)):=by
     obtain⟨bs0,h1,h2,h3⟩:=st4;exact⟨bs0,by rw[qa6 nPs.symm];exact h1,h2,λj c t e1 e2=>by
      have:=h3 j c t e1 e2;rw[qa6 (qp9 this pl4.d (λz=>nomatch z))];exact this⟩
    have s5:Same H (upd H4 Pd (.dT (putK kvs (keyN r) (.ref D0)))):=λc o e=>by rw[qa6 (qa5 e hPd)];exact S4 _ _ e
    have hk5:(putK kvs (keyN r) (.ref D0)).length<=i+1:=by rw[xi5 _ hv];simp;lia
    have eD:(λx=>if x=r then D0 else f x) r=D0:=by simp
    obtain⟨f5,ef⟩:∃g:Row->Addr,g=λx=>if x=r then D0 else f x:=⟨_,rfl⟩
    rw[<- ef] at pl5 eD;generalize upd H4 Pd (.dT (putK kvs (keyN r) (.ref D0)))=H5 at pl5 st5 s5 ⊢;obtain⟨kvs5,ek⟩:∃k,k=putK kvs (keyN r) (.ref D0):=⟨_,rfl⟩;rw[<- ek] at pl5 hk5;rw[<- eD];obtain⟨bs5,vT,vU,hb5⟩:=id st5;have hA:=pl5.lst r (by simp);have nAS:=(pl5.frs r (by simp)).2.2;refine⟨_,rfl,.inl ⟨rfl,_,SqL.of vT⟩,_,rfl,f5 r,rfl,⟨_,SqL.of hA⟩,λD2 kQ=>qe6 kQ (λj z H=>∃m b,(ixs (rows.take i) r)[j]?=some m/\z=.ref b/\H b=some (.tup (qf4 (.same i m)))) (qG3 (K:=K) hA) (by rw[qc2];exact qd2 (by have:=qq6 (rows.take i) r;lia)) (λj z H1 H2 _ t ⟨m,b,h1,h2,h3⟩=>⟨m,b,h1,h2,t _ _ h3⟩) ?_ ?_⟩
    ·intro j x H6 hj hx s6 Q' hq;obtain⟨m,hm,rfl⟩:=ql8 hx;exact⟨_,rfl,_,rfl,(by show 3<=sizeLine;decide),λb hb=>hq _ _ (qb2 hb) ⟨m,b,hm,rfl,qa2⟩⟩
    ·intro ys H6 s6 hd6 jH jK;have st6:=st5.same s6;have pl6:=pl5.same s6;have wH:=s6 _ _ vT;rw[qc2] at jH;have e6:sameAt rows i=(ixs (rows.take i) r).map (Stp.same i):=by
      unfold sameAt;rw[ZG,jE];rfl
     refine⟨S,D2,_,ys,rfl,rfl,wH,hd6,?_,?_⟩
     ·rw[Zb,vU,jH];have a1:=qt2 (qm2 rows) i;have a2:=qq6 (rows.take i) r;have a3:i*rows.length<=900*900:=W4 (by lia) hn;exact ZX (qd2 (by lia))
     ·have st7:=st6.app (ts:=sameAt rows i) (ys:=ys) wH (by rw[e6,Zb,jH]) (λj y t h1 h2=>by
       obtain⟨m,b,g1,g2,g3⟩:=jK j y h1;rw[e6,Zd,g1] at h2;cases h2;exact⟨b,g2,g3⟩)
      have pl7:Plc H (upd H6 S (.lst (bs5.map V.ref++ys))) Pd S (r::rows.take i) (rows.take i) kvs5 f5:=
       ⟨by rw[qa6 (qp9 pl6.d wH (λz=>nomatch z))];exact pl6.d,pl6.no,pl6.yes,λx hx=>by rw[qa6 (pl6.frs x hx).2.2];exact pl6.lst x hx,pl6.frs,pl6.inj⟩
      have s7:Same H (upd H6 S (.lst (bs5.map V.ref++ys))):=λb o e=>by rw[qa6 (qa5 e hSn)];exact s6 _ _ (s5 _ _ e)
      have wK:=pl7.lst r (by simp);refine⟨_,rfl,.inl ⟨rfl,_,SqL.of wK⟩,_,rfl,f5 r,_,_,rfl,rfl,wK,by rw[qc2];exact qd2 (by have:=qq6 (rows.take i) r;lia),?_⟩;have pl8:=pl7.put (i:=i) tl;have st8:=st7.ne wK (Yn nAS) (ys:=vN (ixs (rows.take i) r)++[.int (i:Nat)]);rw[<- qt1] at st8;rw[<- etk] at pl8;exact⟨kvs5,f5,pl8,hk5,λb o e=>by rw[qa6 (qa5 e (pl7.frs r (by simp)).1)];exact s7 _ _ e,st8,_,_,_,rfl⟩
  ·rintro σ H2 ⟨kvs,f,pl,hkl,s2,jT,v3,v4,v5,rfl⟩;rw[jJ] at jT;exact⟨_,rfl,q H2 S s2 hSn jT⟩
end
end Pr
namespace L2
open PySem PySem.Spec PyProof.Rows PySem.W
section
variable {X:Cx}
end
end L2
namespace L2
open PySem
theorem qq7 {J:It}{H:Hp}{n k:Nat}{item:Nat->V->Hp->Prop}{g:TG}{tt:TT}{te:TE}{σ:St}{Fin:Hp->Prop}{D:Addr}(hD:H D=none) (yes:Nat->Bool) (Rel:Nat->V->Hp->Prop) (G:Goes J H n item) (hsz:n<sizeLine)
  (mono:∀i y H1 H2,Tups H1 H2->Rel i y H1->Rel i y H2)
  (step:∀i x H2,i<n->item i x H2->Same H H2->∀os:St,os.length=k->∀(Q1:Hp->Prop) (Q2:VK),(yes i=false->∀H3,Same H2 H3->Q1 H3)->(yes i=true->∀v H3,Same H2 H3->Rel i v H3->Q2 v H3) ->
   g x (os++σ) H2 λσ4 H4=>tt σ4 H4 λb H5=>if b=true then te σ4 H5 Q2 else Q1 H5)
  (fin:∀ys H2,Same H H2->H2 D=some (.lst ys)->ys.length=((List.range n).filter yes).length->(∀(m:Nat) y j,ys[m]?=some y->((List.range n).filter yes)[m]?=some j->Rel j y H2)->Fin H2) :
  ∃W:Nat->Nat->List V->Hp->Prop,(∃m,W 0 m [] (upd H D (.lst []))) /\
   ∀i m xs H2,W i m xs H2->H2 D=some (.lst xs)/\xs.length<sizeLine/\((J.stop i H2/\Fin H2)\/(J.go i H2/\∀y H3,J.yld i H2 y H3->∀os:St,os.length=k ->
    g y (os++σ) H3 λσ4 H4=>tt σ4 H4 λb H5=>if b=true then te σ4 H5 λv H6=>H6 D=some (.lst xs)/\∃m',m'<m/\W (i+1) m' (xs++[v]) (upd H6 D (.lst (xs++[v]))) else ∃m',m'<m/\W (i+1) m' xs H5)):=by
 refine⟨λi m ys H2=>i<=n/\m=n-i/\ys.length=((List.range i).filter yes).length/\H2 D=some (.lst ys)/\Same H H2/\∀(m:Nat) y j,ys[m]?=some y->((List.range i).filter yes)[m]?=some j->Rel j y H2,⟨n,ZN _,rfl,rfl,qa2,qb2 hD,λm y j h=>by simp at h⟩,?_⟩;rintro i m ys H2 ⟨hi,rfl,hl,hd,s2,rel⟩;have j9:ys.length<=i:=by
  rw[hl];exact ZK (YN _ _) (by simp)
 refine⟨hd,by lia,?_⟩;by_cases he:i=n
 ·subst he;exact .inl ⟨G.st H2 s2,fin ys H2 s2 hd hl rel⟩
 ·refine .inr ⟨G.go i H2 (by lia) s2,λy H3 hy os ho=>?_⟩;obtain⟨s3,it⟩:=G.yl i H2 y H3 (by lia) s2 hy;refine step i y H3 (by lia) it (s2.trans s3) os ho _ _ (λwB H4 s4=>?_) (λhyes v H4 s4 r4=>?_)
  ·have ef:(List.range (i+1)).filter yes=(List.range i).filter yes:=by
    rw[Y2,Xv];simp[wB]
   refine⟨n-(i+1),by lia,by lia,rfl,by rw[ef];exact hl,s4 _ _ (s3 _ _ hd),(s2.trans s3).trans s4,λm y j h1 h2=>?_⟩;rw[ef] at h2;exact mono j y H2 H4 (s3.trans s4).tups (rel m y j h1 h2)
  ·have kB:=s4 _ _ (s3 _ _ hd);have ef:(List.range (i+1)).filter yes=(List.range i).filter yes++[i]:=by
    rw[Y2,Xv];simp[hyes]
   have tk:Tups H4 (upd H4 D (.lst (ys++[v]))):=λb u e=>by
    have:b≠D:=λz=>by subst z;rw[kB] at e;cases e
    rw[qa6 this];exact e
   refine⟨kB,n-(i+1),by lia,by lia,rfl,by rw[ef,Zj,Zj,hl];rfl,qa2,λb o e=>?_,λm z j h1 h2=>?_⟩
   ·rw[qa6 (qa5 e hD)];exact s4 _ _ (s3 _ _ (s2 _ _ e))
   ·rw[ef] at h2;by_cases hm:m<ys.length
    ·rw[Zg hm] at h1;rw[Zg (by lia)] at h2;exact mono j z H4 _ tk (mono j z H2 H4 (s3.trans s4).tups (rel m z j h1 h2))
    ·have hm2:m=ys.length:=by
      have:=(gS_ h1).1;simp at this;lia
     rw[Zh (by lia),hm2] at h1;rw[Zh (by lia),hm2,hl] at h2;have e1:z=v:=by simpa using h1.symm
     have e2:j=i:=by simpa using h2.symm
     rw[e1,e2];exact mono i v H4 _ tk r4
end L2
namespace Qf
def qf2 (rows:List Row):List Stp:=((List.range rows.length).filter λk=>decide (qh0 (rows.getD k []))).map Stp.plain
def used (tp:Nat) (rows:List Row):List Nat:=tp::rows.flatten
def qg6 (tp:Nat) (rows:List Row):List Stp:=((List.range rows.length).filter λk=>decide (k+2∉used tp rows)).map Stp.gone
def qd8 (tp:Nat) (rows:List Row):List Stp:=qk2 rows++qf2 rows++qg6 tp rows
theorem qY2 (rows:List Row):(qk2 rows).length<=rows.length*rows.length:=qt2 (qm2 rows) rows.length
theorem qO5 (rows:List Row):(qf2 rows).length<=rows.length:=by
 unfold qf2;rw[Zb];exact ZK (YN _ _) (by simp)
theorem qY3 (tp:Nat) (rows:List Row):(qg6 tp rows).length<=rows.length:=by
 unfold qg6;rw[Zb];exact ZK (YN _ _) (by simp)
end Qf
namespace Pr
open PySem L2 Qf
theorem xF8 {ys:List V}(h:∀(i:Nat) y,ys[i]?=some y->∃b,y=.ref b):∃cs:List Addr,ys=cs.map V.ref:=by
 refine⟨ys.map λv=>match v with|.ref a=>a|_=>0,?_⟩;rw[Yp];refine (Vq ys).symm.trans (Ym λv hv=>?_);obtain⟨i,hi,e⟩:=Yx hv;obtain⟨b,rfl⟩:=h i v (by rw[<- e];simp[hi])
 rfl
theorem StepsL.of {H:Hp}{D:Addr}{ys:List V}{ts:List Stp}(hD:H D=some (.lst ys)) (hl:ys.length=ts.length) (h:∀(i:Nat) y t,ys[i]?=some y->ts[i]?=some t->∃b,y=.ref b/\H b=some (.tup (qf4 t))):StepsL H D ts:=by
 obtain⟨cs,rfl⟩:=xF8 (ys:=ys) λi y hy=>by
  have hi:=(gS_ hy).1;obtain⟨b,e,_⟩:=h i y (ts[i]'(by lia)) hy (by simp);exact⟨b,e⟩
 refine⟨cs,hD,by simpa using hl,λi b t e1 e2=>?_⟩;obtain⟨b',e3,e4⟩:=h i (.ref b) t (by rw[Zd,e1];rfl) e2;cases e3;exact e4
theorem StepsL.cat {H:Hp}{a b q:Addr}{ss ts:List Stp}{xs ys:List V}(h1:StepsL H a ss) (h2:StepsL H b ts) (ha:H a=some (.lst xs)) (hb:H b=some (.lst ys)) (hq:H q=none):StepsL (upd H q (.lst (xs++ys))) q (ss++ts):=by
 obtain⟨bs,e1,l1,t1⟩:=h1;obtain⟨cs,e2,l2,t2⟩:=h2;rw[ha] at e1;rw[hb] at e2;have e1':=HO.lst.inj (ZD e1);have e2':=HO.lst.inj (ZD e2);refine⟨bs++cs,by rw[qa2,e1',e2',Z0],by simp[l1,l2],λi c t g1 g2=>?_⟩;refine qc5 ?_ hq;by_cases hi:i<bs.length
 ·rw[Zg hi] at g1;rw[Zg (by lia)] at g2;exact t1 i c t g1 g2
 ·rw[Zh (by lia)] at g1;rw[Zh (by lia),<- l1] at g2;exact t2 _ c t g1 g2
def Has (kvs:List (Key×V)) (l:List Nat):Prop:=∀x:Nat,(valV kvs (Sum.inl (x:Int))).isSome=decide (x∈l)
theorem Has.put {kvs:List (Key×V)}{l:List Nat}(h:Has kvs l) (m:Nat) (v:V):Has (putK kvs (Sum.inl (m:Int)) v) (l++[m]):=λx=>by
 rw[qF2];by_cases e:x=m
 ·subst e;rw[Zr rfl];simp
 ·have n:¬(Sum.inl (x:Int):Key)=Sum.inl (m:Int):=λz=>e (Y6 (Wl z));rw[Zo n,h x];simp[e]
theorem xm1 {κ:Type}[DecidableEq κ] (kvs:List (κ×V)) (k:κ) (v:V):(putK kvs k v).length<=kvs.length+1:=by
 unfold putK;split
 ·rw[Zb];lia
 ·simp
section
variable {P:Program}{w:World}{K:PySem.W.Frag}{mg:Str->Option Value}{base:Heap}
theorem scPlainS:FnScope ["rows"] ["rows"] (qa4 qz9):=qe9
def qY4:Sp:=λvs H Q _=>∃(p:Addr) (rows:List Row),vs=[.ref p]/\RowsAt H p rows/\qc0 rows/\rows.length<=900/\∀H' q,Same H H'->H q=none->StepsL H' q (qf2 rows)->Q (.ref q) H'
theorem xd7 {f fP:Addr}{fd fdP:FuncData}(F:Fun K "plain_steps" "plain_steps" qz9 f fd) (B:Blt mg) (T:Cst mg) (hP:mg "is_plain" = some (.ref fP)) (FP:Fun K "is_plain" "is_plain" qD8 fP fdP) (bP:Binds K fdP ["row"] []):FnOk P w K mg base CX0 3 f fd ["rows"] qY4:=by
 have GP:FnOk P w K mg base CX0 2 fP fdP ["row"] qR4:=qW0 FP T;refine F.ok scPlainS (λvs H Q E h=>?_) (λcdv A outer s H vs Q E hr h=>?_)
 ·obtain⟨p,rows,rfl,_⟩:=h
  rfl
 ·obtain⟨p,rows,rfl,hR,ok,hn,q⟩:=h;obtain⟨bs,hp,j9,jA⟩:=id hR;have jJ:(bs.map V.ref).length=rows.length:=by rw[Zb];exact j9
  refine⟨_,qa8 (qb0 (q17 ["rows"] (qa4 qz9) rfl rfl rfl scPlainS.nd (qr7 (by rfl) B.enum (qa0 (pv 0) qa1)) (λcl C fp s₀ H₀=>qe1 (pcN GP hr hP FP.kp bP (qa0 (pv 1) qa1))) (λcl C fp s₀ H₀=>qf0 (qa0 qb7 (qa0 (pv 0) qa1))))),?_⟩;refine⟨_,rfl,p,rfl,⟨_,SqT.of hp⟩,λD hD=>qq7 hD (λk=>decide (qh0 (rows.getD k []))) (λj z H3=>∃b,z=.ref b/\H3 b=some (.tup (qf4 (.plain j)))) (qz8 (K:=K) hp) (by rw[jJ];exact qd2 (by lia)) (λi y H1 H2 t ⟨b,h1,h2⟩=>⟨b,h1,t _ _ h2⟩) ?_ ?_⟩
  ·rintro i x H2 hi ⟨t,y,rfl,hy,ht⟩ s2 os ho Q1 Q2 q1 q2
   match os,ho with
   |[o1,o2],_=>
    have v0:i<rows.length:=by rw[<- jJ];exact hi
    rw[Zd] at hy;obtain⟨b,hb,rfl⟩:=Zw.mp hy;have jE:rows[i]?=some rows[i]:=by simp[v0]
    have eg:rows.getD i []=rows[i]:=by rw[ZG,jE];rfl
    rw[eg] at q1 q2;refine⟨t,_,rfl,SqT.of ht,rfl,_,_,rfl,_,_,rfl,rfl,?_⟩;refine⟨_,rfl,b,rows[i],rfl,s2 _ _ (jA i b _ hb jE),(ok i _ jE).1,λH3 s3=>⟨_,rfl,?_⟩⟩;by_cases hc:qh0 rows[i]
    ·rw[Zi hc] at q2 ⊢;refine iteT ?_;exact⟨_,rfl,(by show 2<=sizeLine;decide),λc hc'=>q2 rfl _ _ (s3.trans (qb2 hc')) ⟨c,rfl,qa2⟩⟩
    ·rw[Zk hc] at q1 ⊢;exact iteF (q1 rfl H3 s3)
  ·intro ys H2 s2 jG jH jK;rw[jJ] at jH jK;refine q H2 D s2 hD (StepsL.of jG (by unfold qf2;rw[Zb];exact jH) λi y t h1 h2=>?_);unfold qf2 at h2;rw[Zd] at h2;obtain⟨j,hj,rfl⟩:=Zw.mp h2;exact jK i y j h1 hj
theorem scGone:FnScope ["top", "rows", "used", "row", "number"] ["top", "rows"] (qa4 xa1):=qe9
def xs4:Sp:=λvs H Q _=>∃(p:Addr) (tp:Nat) (rows:List Row),vs=[.int (tp:Nat),.ref p]/\RowsAt H p rows/\qc0 rows/\rows.length<=900/\∀H' q,Same H H'->H q=none->StepsL H' q (qg6 tp rows)->Q (.ref q) H'
theorem xy7 {f:Addr}{fd:FuncData}(F:Fun K "gone_steps" "gone_steps" xa1 f fd) (B:Blt mg) (T:Cst mg):FnOk P w K mg base CX0 1 f fd ["top", "rows"] xs4:=by
 obtain⟨tf,hf⟩:=T.first;refine F.ok scGone (λvs H Q E h=>?_) (λcdv A outer s H vs Q E hr h=>?_)
 ·obtain⟨p,tp,rows,rfl,_⟩:=h
  rfl
 ·obtain⟨p,tp,rows,rfl,hR,ok,hn,q⟩:=h;obtain⟨bs,hp,j9,jA⟩:=id hR;have jJ:(bs.map V.ref).length=rows.length:=by rw[Zb];exact j9
  have hu:A.units+3+1<cLine:=by
   have h2:A.units+3+16*0+200<cLine:=hr.un;lia
  refine seqE ⟨_,qi7 (i:=2) scGone.nd rfl (by first|left;rfl|right;rfl) (qW4 (.cons ⟨pv 0⟩ ⟨qj1⟩ .nil) rfl rfl (λz=>nomatch z) (by decide)) rfl rfl,?_⟩;refine seqE ⟨_,⟨ql5 Yb rfl (qj9 (pv 1)) (pgN 3 scGone.nd) (qa8 (ql5 Yb rfl (qj9 (pv 3)) (pgN 4 scGone.nd) (qa8 (qF4 hu (pv 2) (pv 4) qj1 (by rfl)))))⟩,?_⟩;refine qi4 ⟨_,⟨qb0 (qL0 ["top", "rows", "used", "row", "number"] (qa4 xa1) rfl rfl rfl scGone.nd (qk0 (by rfl) B.range (qa0 (qa7 qa9 (by rfl) B.len ZJ (qa0 (pv 1) qa1)) qa1)) (λcl C fp s₀ H₀=>qT8 (qK5 hu (qb8 qf9 (pv 0) (qc3 (v:=.int 2) (by rfl) hf ⟨_,rfl⟩)) (pv 3))) (λcl C fp s₀ H₀=>qf0 (qa0 qb7 (qa0 (pv 0) qa1))))⟩,?_⟩;refine λU hU=>⟨_,rfl,qa2,[(Sum.inl (tp:Int),.bl true)],rfl,(by show 1<=15;decide),?_⟩;have eg:qz5 [] [((Sum.inl (tp:Int):Key),V.bl true)]=[(Sum.inl (tp:Int),.bl true)]:=rfl;rw[eg,xu2];have h0:Has [((Sum.inl (tp:Int):Key),V.bl true)] [tp]:=λx=>by
   by_cases e:x=tp
   ·subst e;rw[qg3 rfl];simp
   ·rw[qe8 (λz=>e (Y6 (Wl z)).symm),xi4];simp[e]
  have stop:∀{H2:Hp}{kvs:List (Key×V)},H2 U=some (.dK kvs)->Tups H2 H2:=λ_ _ _ h=>h;have keep:∀{H2:Hp}{o:HO},Same H H2->Same H (upd H2 U o):=λs b o e=>by rw[qa6 (qa5 e hU)];exact s _ _ e
  refine⟨_,rfl,p,rfl,⟨_,SqT.of (qc5 hp hU)⟩,qq0 (K:=K) (xs:=bs.map V.ref) (λi σ H2=>∃kvs,Same H H2/\H2 U=some (.dK kvs)/\Has kvs (tp::(rows.take i).flatten)/\kvs.length<=1+4*i/\∃v3 v4,σ=[some (.int (tp:Nat)),some (.ref p),some (.ref U),v3,v4])
   ⟨_,qb2 hU,qa2,by simpa using h0,by simp,none,none,rfl⟩ (λi σ H2 _ ⟨_,s2,_⟩=>SqT.of (s2 _ _ hp)) ?_ ?_⟩
  ·rintro i y σ H2 hy ⟨kvs,s2,kU,has,hkl,v3,v4,rfl⟩;have hi:i<rows.length:=by rw[<- jJ];exact (gS_ hy).1
   rw[Zd] at hy;obtain⟨b,hb,rfl⟩:=Zw.mp hy;have jE:rows[i]?=some rows[i]:=by simp[hi]
   have jV:=jA i b rows[i] hb jE;have r4:=(ok i _ jE).1;have etk:(rows.take (i+1)).flatten=(rows.take i).flatten++rows[i]:=by rw[Yo hi,List.flatten_append];simp
   generalize rows[i]=r at jE jV etk r4;refine⟨_,rfl,b,rfl,⟨_,SqT.of (s2 _ _ jV)⟩,qq0 (K:=K) (xs:=vN r) (λj σ H3=>∃kvs,Same H H3/\H3 U=some (.dK kvs)/\Has kvs (tp::(rows.take i).flatten++r.take j)/\kvs.length<=1+4*i+j/\∃v4,σ=[some (.int (tp:Nat)),some (.ref p),some (.ref U),some (.ref b),v4])
    ⟨kvs,s2,kU,by simpa using has,by lia,_,rfl⟩ (λj σ H3 _ ⟨_,s3,_⟩=>SqT.of (s3 _ _ jV)) ?_ ?_⟩
   ·rintro j x σ H3 hx ⟨kvs3,s3,w5,has3,hk3,v5,rfl⟩;obtain⟨m,hm,rfl⟩:=ql8 hx;have vP:=(gS_ hm).1;have hjm:=(gS_ hm).2;refine⟨_,rfl,_,rfl,U,_,rfl,DPut.k (k:=Sum.inl (m:Int)) w5 (qd2 (by lia)),?_⟩;refine⟨_,keep s3,qa2,?_,by have:=xm1 kvs3 (Sum.inl (m:Int):Key) (.bl true);lia,_,rfl⟩;have:=has3.put m (.bl true);rw[Z3,<- hjm,YT vP] at this;rw[hjm] at this;exact this
   ·rintro σ H3 ⟨kvs3,s3,w5,has3,hk3,v5,rfl⟩;rw[qc2,YE] at has3;rw[qc2,r4] at hk3;exact⟨kvs3,s3,w5,by rw[etk];exact has3,by lia,_,_,rfl⟩
  ·rintro σ H2 ⟨kvs,s2,kU,has,hkl,v3,v4,rfl⟩;rw[jJ,YE] at has;have jI:=s2 _ _ hp;refine⟨_,rfl,p,_,rfl,.inr (SqT.of jI),_,rfl,?_⟩;rw[jJ];refine⟨by lia,by lia,λD hD=>qq7 hD (λk=>decide (k+2∉used tp rows)) (λj z H3=>∃b,z=.ref b/\H3 b=some (.tup (qf4 (.gone j)))) qV7 (qd2 (by lia)) (λi y H1 H2 t ⟨b,h1,h2⟩=>⟨b,h1,t _ _ h2⟩) ?_ ?_⟩
   ·rintro i x H3 hi rfl s3 os ho Q1 Q2 q1 q2
    match os,ho with
    |[o1],_=>
     have dg:DGet H3 U (.int ((i:Int)+2)) (valV kvs (Sum.inl ((i+2:Nat):Int))):=DGet.k (k:=Sum.inl ((i+2:Nat):Int)) (s3 _ _ kU);refine⟨_,rfl,_,_,rfl,rfl,_,rfl,U,_,rfl,dg,_,rfl,?_⟩;rw[has (i+2)];by_cases hc:i+2∈used tp rows
     ·have hc':i+2∈tp::rows.flatten:=hc;rw[Zi hc'];rw[Zk (not_not_intro hc)] at q1;exact iteF (q1 rfl H3 (Same.refl _))
     ·have hc':¬i+2∈tp::rows.flatten:=hc;rw[Zk hc'];rw[Zi hc] at q2;refine iteT ?_;exact⟨_,rfl,(by show 2<=sizeLine;decide),λc hc'=>q2 rfl _ _ (qb2 hc') ⟨c,rfl,qa2⟩⟩
   ·intro ys H3 s3 k9 jH jK;have hDn:H D=none:=by
     cases e:H D with
     |none=>rfl
     |some o=>rw[s2 _ _ e] at hD;cases hD
    refine q H3 D (s2.trans s3) hDn (StepsL.of k9 (by unfold qg6;rw[Zb];exact jH) λi y t h1 h2=>?_);unfold qg6 at h2;rw[Zd] at h2;obtain⟨j,hj,rfl⟩:=Zw.mp h2;exact jK i y j h1 hj
theorem scStepsOf:FnScope ["telling", "top", "rows"] ["telling"] (qa4 qn0):=qe9
def qB4:Sp:=λvs H Q _=>∃(t:Addr) (n tp:Nat) (rows:List Row),vs=[.ref t]/\TellAt H t n tp rows/\qh7 n tp rows/\∀H' q,Same H H'->H q=none->StepsL H' q (srt (qd8 tp rows))->Q (.ref q) H'
theorem q36 {f fW fS fP fG:Addr}{fd fdW fdS fdP fdG:FuncData}(F:Fun K "steps_of" "steps_of" qn0 f fd) (hso:mg "sorted" = none)
  (hW:mg "want_telling" = some (.ref fW)) (FW:Fun K "want_telling" "want_telling" ql0 fW fdW) (bW:Binds K fdW ["telling"] []) (GW:FnOk P w K mg base CX0 6 fW fdW ["telling"] qy1)
  (hS:mg "same_steps" = some (.ref fS)) (FS:Fun K "same_steps" "same_steps" xa0 fS fdS) (bS:Binds K fdS ["rows"] []) (GS:FnOk P w K mg base CX0 1 fS fdS ["rows"] xs3)
  (hP:mg "plain_steps" = some (.ref fP)) (FP:Fun K "plain_steps" "plain_steps" qz9 fP fdP) (bP:Binds K fdP ["rows"] []) (GP:FnOk P w K mg base CX0 3 fP fdP ["rows"] qY4)
  (hG:mg "gone_steps" = some (.ref fG)) (FG:Fun K "gone_steps" "gone_steps" xa1 fG fdG) (bG:Binds K fdG ["top", "rows"] []) (GG:FnOk P w K mg base CX0 1 fG fdG ["top", "rows"] xs4):FnOk P w K mg base CX0 7 f fd ["telling"] qB4:=by
 refine F.ok scStepsOf (λvs H Q E h=>?_) (λcdv A outer s H vs Q E hr h=>?_)
 ·obtain⟨t,n,tp,rows,rfl,_⟩:=h
  rfl
 ·obtain⟨t,n,tp,rows,rfl,hT,tok,q⟩:=h;obtain⟨p,ht,hR⟩:=id hT;have jE:Room 1 _:=hr.mono (by decide);have hr3:Room 3 _:=hr.mono (by decide);refine seqE ⟨_,⟨qd3 (pcN GW hr hW FW.kp bW (qa0 (pv 0) qa1))⟩,?_⟩;refine seqE ⟨_,⟨qp7 (qk4 q70 (pv 0) (qn9 qa3) qn8) (qn7 rfl (qb6 (pgN 1 scStepsOf.nd) (qb6 (pgN 2 scStepsOf.nd) qj8)))⟩,?_⟩;refine qi4 ⟨_,⟨qb0 (qa7 qw5 (by rfl) hso PyProof.Rows.boot_sorted (qa0 (qb8 ql6 (qb8 ql6 (pcN GS jE hS FS.kp bS (qa0 (pv 2) qa1)) (pcN GP hr3 hP FP.kp bP (qa0 (pv 2) qa1))) (pcN GG jE hG FG.kp bG (qa0 (pv 1) (qa0 (pv 2) qa1)))) qa1))⟩,?_⟩;refine⟨_,rfl,t,n,tp,rows,rfl,hT,tok,λH1 s1=>?_⟩;have ht1:=s1 _ _ ht;refine⟨_,rfl,_,rfl,t,_,rfl,SqT.of ht1,(λz=>absurd (show HT.sIx 3 0 (some 1)=0 from z.1) (by decide)),λu hu=>?_⟩;refine⟨u,_,rfl,SqT.of qa2,rfl,_,_,rfl,_,_,rfl,rfl,?_⟩;have sA:Same H (upd H1 u (.tup [.int (tp:Nat),.ref p])):=s1.trans (qb2 hu);obtain⟨_,ok,hl,_⟩:=tok;refine (λ(go:∀H2,Same H H2->_)=>go _ sA) ?_;intro H2 sA;have few:=qY2 rows;have fp:=qO5 rows;have fg:=qY3 tp rows;have sq:rows.length*rows.length<=900*900:=W4 hl hl;refine⟨_,rfl,p,rows,rfl,hR.same sA,hl,λH3 a s3 ha st3=>?_⟩;refine⟨_,rfl,p,rows,rfl,hR.same (sA.trans s3),ok,hl,λH4 b s4 hb st4=>?_⟩;have st3':=st3.same s4;obtain⟨bs3,h3,l3,_⟩:=id st3';obtain⟨bs4,h4,l4,_⟩:=id st4;refine⟨a,b,_,_,rfl,rfl,h3,h4,by rw[Zb,Zb,l3,l4];exact ZX (qd2 (by lia)),λc hc=>?_⟩;have st5:=StepsL.cat st3' st4 h3 h4 hc;have s5:=((sA.trans s3).trans s4).trans (qb2 (o:=.lst (bs3.map V.ref++bs4.map V.ref)) hc);generalize upd H4 c (.lst (bs3.map V.ref++bs4.map V.ref))=H5 at st5 s5;refine⟨_,rfl,_,rfl,p,tp,rows,rfl,hR.same s5,ok,hl,λH6 d s6 hd st6=>?_⟩;have st5':=st5.same s6;obtain⟨bs5,h5,l5,_⟩:=id st5';obtain⟨bs6,h6,l6,_⟩:=id st6;refine⟨c,d,_,_,rfl,rfl,h5,h6,by rw[Zb,Zb,l5,l6,Zj];exact ZX (qd2 (by lia)),λe he=>?_⟩;have st7:=StepsL.cat st5' st6 h5 h6 he;have s7:=(s5.trans s6).trans (qb2 (o:=.lst (bs5.map V.ref++bs6.map V.ref)) he);refine⟨e,_,rfl,st7,λg H8 s8 hg st8=>q H8 g (s7.trans s8) ?_ st8⟩;cases z:H g with
  |none=>rfl
  |some o=>rw[s7 _ _ z] at hg;cases hg
end
end Pr
namespace Qf
def ren (k nb x:Nat):Nat:=if x<k+2 then x else if x=k+2 then nb else x-1
def qn6 (k:Nat) (rows:List Row):List Row:=rows.take k++rows.drop (k+1)
def qI4 (k nb:Nat) (rows:List Row):List Row:=(qn6 k rows).map (·.map (ren k nb))
theorem xm2 {k:Nat}{rows:List Row}(h:k<rows.length):(qn6 k rows).length=rows.length-1:=by
 unfold qn6;simp;lia
theorem xy8 {k i:Nat}{rows:List Row}(hk:k<rows.length) (h:i<k):(qn6 k rows)[i]?=rows[i]?:=by
 unfold qn6;rw[Zg (by simp;lia),Yj h]
theorem xy9 {k i:Nat}{rows:List Row}(hk:k<rows.length) (h:k<=i):(qn6 k rows)[i]?=rows[i+1]?:=by
 unfold qn6;rw[Zh (by simp;lia),W3];congr 1;simp;lia
theorem xm3 {k nb i:Nat}{rows:List Row}:(qI4 k nb rows)[i]?=((qn6 k rows)[i]?).map (·.map (ren k nb)):=Zd ..
theorem xF9 {k nb x:Nat}(h:x<k+2):ren k nb x=x:=Zr h
theorem xG0 {k nb:Nat}:ren k nb (k+2)=nb:=by unfold ren;rw[Zo (by lia),Zr rfl]
theorem xG1 {k nb x:Nat}(h:k+2<x):ren k nb x=x-1:=by unfold ren;rw[Zo (by lia),Zo (by lia)]
def Stp.at:Stp->Nat
 |.gone k=>k
 |.plain k=>k
 |.same k _=>k
def nbP (rows:List Row):Stp->Nat
 |.gone k=>(rows.getD k []).getD 0 0
 |.plain k=>(rows.getD k []).getD 0 0
 |.same _ j=>j+2
theorem xz0 {l:List Row}{r:Row}{j:Nat}(h:j∈ixs l r):j<l.length/\l[j]?=some r:=by
 unfold ixs at h;obtain⟨h1,h2⟩:=Xc.mp h;exact⟨Z4.mp h1,ZU h2⟩
theorem xm4 {rows:List Row}{k j:Nat}(h:Stp.same k j∈qk2 rows):k<rows.length/\j<k/\rows[j]?=rows[k]?:=by
 unfold qk2 at h;obtain⟨i,hi,h2⟩:=List.mem_flatMap.mp h;unfold sameAt at h2;obtain⟨m,hm,e⟩:=ZO.mp h2;cases e;have hi':=Z4.mp hi;obtain⟨m1,m2⟩:=xz0 hm;have hmi:j<k:=by simp at m1;lia
 refine⟨hi',hmi,?_⟩;rw[Yj hmi] at m2;rw[m2,qg5 hi']
theorem xd8 {rows:List Row}{k:Nat}(h:Stp.plain k∈qf2 rows):k<rows.length/\qh0 (rows.getD k []):=by
 unfold qf2 at h;obtain⟨m,hm,e⟩:=ZO.mp h;cases e;obtain⟨h1,h2⟩:=Xc.mp hm;exact⟨Z4.mp h1,ZU h2⟩
theorem xm5 {tp:Nat}{rows:List Row}{k:Nat}(h:Stp.gone k∈qg6 tp rows):k<rows.length/\k+2∉used tp rows:=by
 unfold qg6 at h;obtain⟨m,hm,e⟩:=ZO.mp h;cases e;obtain⟨h1,h2⟩:=Xc.mp hm;exact⟨Z4.mp h1,ZU h2⟩
theorem xd9 {tp:Nat}{rows:List Row}{s:Stp}(h:s∈qd8 tp rows):match s with
  |.gone k=>k<rows.length/\k+2∉used tp rows
  |.plain k=>k<rows.length/\qh0 (rows.getD k [])
  |.same k j=>k<rows.length/\j<k/\rows[j]?=rows[k]?:=by
 unfold qd8 at h;have n1:∀{s},s∈qk2 rows->∃k j,s=Stp.same k j:=λ{s} h=>by
  unfold qk2 at h;obtain⟨i,_,h2⟩:=List.mem_flatMap.mp h;unfold sameAt at h2;obtain⟨m,_,e⟩:=ZO.mp h2;exact⟨i,m,e.symm⟩
 have n2:∀{s},s∈qf2 rows->∃k,s=Stp.plain k:=λ{s} h=>by
  unfold qf2 at h;obtain⟨m,_,e⟩:=ZO.mp h;exact⟨m,e.symm⟩
 have n3:∀{s},s∈qg6 tp rows->∃k,s=Stp.gone k:=λ{s} h=>by
  unfold qg6 at h;obtain⟨m,_,e⟩:=ZO.mp h;exact⟨m,e.symm⟩
 rcases Z2.mp h with h|h
 ·rcases Z2.mp h with h|h
  ·obtain⟨k,j,rfl⟩:=n1 h;exact xm4 h
  ·obtain⟨k,rfl⟩:=n2 h;exact xd8 h
 ·obtain⟨k,rfl⟩:=n3 h;exact xm5 h
theorem xK6 {tp:Nat}{rows:List Row}{s:Stp}(h:s∈qd8 tp rows):s.at<rows.length:=by
 have:=xd9 h;cases s<;>exact this.1
theorem xz1 {k nb m:Nat}(hk:k<m):List.range (k+2)++[nb]++(List.range (m+1-(k+2))).map (k+2+·)=(List.range (m+2)).map (ren k nb):=by
 refine YZ λi=>?_;rw[Zd];by_cases c1:i<k+2
 ·rw[Z3,Zg (by simpa using c1),Z5 c1,Z5 (by lia)];show some i=some (ren k nb i);rw[xF9 c1]
 ·by_cases c2:i=k+2
  ·subst c2;rw[Z3,Zh (by simp),Zg (by simp),Z5 (by lia)];simp[xG0]
  ·rw[Zh (by simp;lia),Zd];by_cases c3:i<m+2
   ·rw[Z5 (by simp;lia),Z5 c3];show some _=some (ren k nb i);rw[xG1 (by lia)];simp;lia
   ·rw[ZZ (by simp;lia),ZZ (by simp;lia)];rfl
theorem q37 {tp:Nat}{rows:List Row}:((List.range rows.length).flatMap λk=>(if k+2∉used tp rows then [Stp.gone k] else [])++((if qh0 (rows.getD k []) then [Stp.plain k] else [])++sameAt rows k)).Perm (qd8 tp rows):=by
 have gen:∀(l:List Nat),(l.flatMap λk=>(if k+2∉used tp rows then [Stp.gone k] else [])++((if qh0 (rows.getD k []) then [Stp.plain k] else [])++sameAt rows k)).Perm
   (l.flatMap (sameAt rows)++(l.filter λk=>decide (qh0 (rows.getD k []))).map Stp.plain++(l.filter λk=>decide (k+2∉used tp rows)).map Stp.gone):=λl=>by
  induction l with
  |nil=>exact .refl _
  |cons k l ih=>
   rw[List.flatMap_cons,List.flatMap_cons];have e1:((k::l).filter λk=>decide (qh0 (rows.getD k []))).map Stp.plain=(if qh0 (rows.getD k []) then [Stp.plain k] else [])++(l.filter λk=>decide (qh0 (rows.getD k []))).map Stp.plain:=by
    by_cases c:qh0 (rows.getD k [])
    ·rw[Xq,Zr (by simpa using c),Zr c];rfl
    ·rw[Xq,Zo (by simpa using c),Zo c];rfl
   have e2:((k::l).filter λk=>decide (k+2∉used tp rows)).map Stp.gone=(if k+2∉used tp rows then [Stp.gone k] else [])++(l.filter λk=>decide (k+2∉used tp rows)).map Stp.gone:=by
    by_cases c:k+2∉used tp rows
    ·rw[Xq,Zr (by simpa using c),Zr c];rfl
    ·rw[Xq,Zo (by simpa using c),Zo c];rfl
   rw[e1,e2];generalize (if k+2∉used tp rows then [Stp.gone k] else [])=g at *;generalize (if qh0 (rows.getD k []) then [Stp.plain k] else [])=p at *;generalize (l.filter λk=>decide (qh0 (rows.getD k []))).map Stp.plain=ps at *;generalize (l.filter λk=>decide (k+2∉used tp rows)).map Stp.gone=gs at *;generalize l.flatMap (sameAt rows)=ss at *;generalize sameAt rows k=sa at *;refine (WD _ ih).trans ?_;rw[List.perm_iff_count];intro a;simp only[List.count_append];lia
 exact gen _
end Qf
namespace Qf
open Tr
theorem xG2 {rows:List Row}(ok:qc0 rows){E:List Nat}(pe:Post rows E):∀q,InE E q->T (told rows E) (nm E q)=T rows q:=by
 intro q
 induction q using Nat.strongRecOn with
 |ind q ih=>
  intro hq;by_cases z:q<2
  ·rw[qk5 z]
   match q,z with
   |0,_=>rw[qk7,qk7]
   |1,_=>rw[qs9,qs9]
  ·have hm:=hq.resolve_left z;have hp:=pe.lt _ hm;have ea:=qD7 hm;obtain⟨a,b,c,d,e⟩:=qB2 (ok _ _ (qg5 hp)).1;have hg:=qg5 hp;have hta:=qq2 (rows:=rows) ea;have rin:=λx (hx:x∈rows.getD (q-2) [])=>(qL7 pe ea hx).1;have jC:=(ok _ _ hg).2;rw[e] at hg hta rin jC;rw[qh9 z,qv1 (qQ9 ok pe) hta];have e2:T rows q=.nd (T rows a) (T rows b) (T rows c) (T rows d):=by
    have:=qv1 ok hg
    rwa [show q-2+2=q by lia] at this
   rw[e2,ih a (by have:=jC a (by simp);lia) (rin a (by simp)),ih b (by have:=jC b (by simp);lia) (rin b (by simp)),ih c (by have:=jC c (by simp);lia) (rin c (by simp)),ih d (by have:=jC d (by simp);lia) (rin d (by simp))]
theorem q38 {n x:Nat}{rows:List Row}(hn:n<=12) (ok:qc0 rows) (hx:x<rows.length+2) (hd:dp rows x<=n) (np:∀r∈rows,¬qh0 r) (nd:rows.Nodup) :
  Canon n (nm (dfs rows n [] x) x) (told rows (dfs rows n [] x))/\T (told rows (dfs rows n [] x)) (nm (dfs rows n [] x) x)=T rows x:=by
 obtain⟨pe,hi⟩:=qi0 ok n [] x (qo9 rows) hx hd;exact⟨q25 hn ok hx hd np nd,xG2 ok pe x hi⟩
theorem q39 {L:List Tr}(h:Ord L){t:Tr}(hk:∀s∈kids t,In L s):rowsOf (L++[t])=rowsOf L++[(kids t).map (name L)]:=by
 unfold rowsOf;rw[Z0];congr 1
 ·refine Ym λu hu=>?_;obtain⟨i,hi,e⟩:=ZV.mp hu;exact Ym λs hs=>name_app (qB0 h (i:=i) (t:=u) (by rw[Zf hi,e]) hs).1 h
 ·show[(kids t).map (name (L++[t]))]=_;congr 1;exact Ym λs hs=>name_app (hk s hs) h
theorem xz2 {L:List Tr}(h:Ord L){a b c d:Tr}(hk:∀s∈kids (.nd a b c d),In L s):(kids (.nd a b c d)).map (name L)∈rowsOf L<->Tr.nd a b c d∈L:=by
 constructor
 ·intro hm;obtain⟨i,hi,e⟩:=ZV.mp hm;obtain⟨t,ht,er⟩:=qv0 (i:=i) (r:=(kids (.nd a b c d)).map (name L)) (by rw[Zf hi,e]);have:=qY0 ⟨a,b,c,d,rfl⟩ (h.ch i t ht).1 (qo4 h hk (λs hs=>(qB0 h ht hs).1) er);rw[this];exact Zx ht
 ·intro hm;obtain⟨i,hi,e⟩:=ZV.mp hm;exact Zx (rowsOf_at (i:=i) (t:=.nd a b c d) (by rw[Zf hi,e]))
theorem xz3 {L:List Tr}(h:Ord L){i:Nat}{t:Tr}(e:L[i]?=some t):(rowsOf L).idxOf ((kids t).map (name L))=i:=by
 have hl:=(gS_ e).1;have e2:=rowsOf_at e;have k8:i<(rowsOf L).length:=by rw[rowsOf_len];exact hl
 have e3:=(gS_ e2).2;rw[<- e3];exact (rowsOf_nodup h).idxOf_getElem i k8
end Qf
namespace Pr
open PySem L2 Qf
theorem xs7 {H:Hp}{e u:Addr}{L:List Tr}(hO:Tr.Ord L){a b c d:Tr}(hm:Tr.nd a b c d∈L) (he:H e=some (.dT (tK (Tr.rowsOf L)))) (hu:H u=some (.tup (vN [Tr.name L a,Tr.name L b,Tr.name L c,Tr.name L d]))) :
  DGet H e (.ref u) (some (.int (Tr.name L (.nd a b c d):Nat))):=by
 obtain⟨i,hi,ei⟩:=ZV.mp hm;have ei':L[i]?=some (.nd a b c d):=by rw[Zf hi,ei]
 have hix:=xz3 hO ei';have hmr:(Tr.kids (.nd a b c d)).map (Tr.name L)∈Tr.rowsOf L:=Zx (Tr.rowsOf_at ei');have:=DGet.t (k:=keyN ((Tr.kids (.nd a b c d)).map (Tr.name L))) he (by rw[qM5];exact hu);rw[xr8,Zr hmr,hix] at this;rw[Tr.name_at hO ei'];exact this
theorem xG3 {ds:List Nat}{p:Nat}(h:p∉ds):putK (qn1++fK ds) (fKey p) (.int (2+ds.length:Nat))=qn1++fK (ds++[p]):=by
 unfold putK fK;rw[qj2,qA3,qW7,qs1 qW6,Zo h,Zo (by decide),qM8,Z3]
theorem xG4 {E:List Nat}{i q:Nat}(h:InE (E.take i) q):nm (E.take i) q=nm E q:=by
 by_cases z:q<2
 ·rw[qk5 z,qk5 z]
 ·rw[qh9 z,qh9 z];have hm:=h.resolve_left z
  conv=>rhs;rw[<- Yz i E]
  rw[W9,Zr hm]
section
variable {P:Program}{w:World}{K:PySem.W.Frag}{mg:Str->Option Value}{base:Heap}
theorem scRenum:FnScope ["row", "numbers"] ["row", "numbers"] (qa4 qn3):=qe9
def xe0:Sp:=λvs H Q _=>∃(b g:Addr) (r:Row) (kvs:List (Key×V)) (f:Nat->Nat),vs=[.ref b,.ref g]/\H b=some (.tup (vN r))/\r.length=4/\H g=some (.dK kvs)/\(∀q∈r,valV kvs (Sum.inl (q:Int))=some (.int (f q:Nat))) /\
 ∀(H':Hp) (t:Addr),Same H H'->H' t=some (.tup (vN (r.map f)))->Q (.ref t) H'
theorem xm6 {f:Addr}{fd:FuncData}(F:Fun K "renumbered" "renumbered" qn3 f fd) (B:Blt mg):FnOk P w K mg base CX0 1 f fd ["row", "numbers"] xe0:=by
 refine F.ok scRenum (λvs H Q E h=>?_) (λcdv A outer s H vs Q E hr h=>?_)
 ·obtain⟨b,g,r,kvs,f,rfl,_⟩:=h
  rfl
 ·obtain⟨b,g,r,kvs,ff,rfl,hb,h4,hg,hv,q⟩:=h;have hu:A.units+3+1<cLine:=by
   have h2:A.units+3+16*0+200<cLine:=hr.un;lia
  refine qi4 ⟨_,⟨qb0 (qd5 (tupO K rfl) (by rfl) B.tuple ZE (qa0 (qf5 ["row", "numbers"] (qa4 qn3) rfl rfl rfl scRenum.nd (qj9 (pv 0)) (λcl C fp s₀ H₀=>qQ5 hu (pv 2) (pv 0) (λ_ _=>rfl))) qa1))⟩,?_⟩;refine⟨_,rfl,b,rfl,⟨_,SqT.of hb⟩,λD hD=>qe6 hD (λi z _=>∃m:Nat,r[i]?=some m/\z=.int (ff m:Nat)) (qi1 (K:=K) hb) (by rw[qc2,h4];decide) (λ_ _ _ _ _ _ h=>h) ?_ ?_⟩
  ·intro i x H2 hi hx s2 Q' hq;obtain⟨m,hm,rfl⟩:=ql8 hx;have dg:DGet H2 g (.int (m:Int)) (some (.int (ff m:Nat))):=by
    have:=DGet.k (k:=Sum.inl (m:Int)) (s2 _ _ hg);rw[hv m (Zx hm)] at this;exact this
   exact⟨_,rfl,_,rfl,g,_,rfl,dg,hq _ _ (Same.refl _) ⟨m,hm,rfl⟩⟩
  ·intro ys H2 s2 jG jH jK;have ey:ys=vN (r.map ff):=by
    refine qi2 (by rw[jH,qc2,qc2,Zb]) λi x hx=>?_;obtain⟨m,hm,rfl⟩:=jK i x hx;exact q26 (by rw[Zd,hm];rfl)
   subst ey;exact⟨D,_,rfl,.inl ⟨SqL.of jG,λl hl=>q _ l (s2.trans (qb2 hl)) qa2⟩⟩
abbrev nSO:List Str:=["n", "top", "rows", "numbers", "told", "place"]
theorem scSO:FnScope nSO ["n", "top", "rows"] (qa4 qx3):=qe9
def spSO:Sp:=λvs H Q _=>∃(rp:Addr) (n tp:Nat) (rows:List Row),vs=[.int (n:Nat),.int (tp:Nat),.ref rp]/\RowsS H rp rows/\qc0 rows/\rows.length<=1190900/\tp<rows.length+2/\n<=12/\dp rows tp<=n /\
 ∀(H':Hp) (t:Addr),Same H H'->TellAt H' t n (nm (dfs rows n [] tp) tp) (told rows (dfs rows n [] tp))->Q (.ref t) H'
theorem xK7 {f fP fE fR:Addr}{fd fdP fdE fdR:FuncData}(F:Fun K "shape_of" "shape_of" qx3 f fd) (B:Blt mg) (T:Cst mg) (hem0:∃t,mg "EMPTY" = some (.int 0 t))
  (hP:mg "places_as_ended" = some (.ref fP)) (FP:Fun K "places_as_ended" "places_as_ended" qG4 fP fdP) (bP:Binds K fdP ["rows", "top"] [])
  (hE:mg "end_rows" = some (.ref fE)) (FE:Fun K "end_rows" "end_rows" sEnd fE fdE) (bE:Binds K fdE ["rows", "number", "ended"] [])
  (hR:mg "renumbered" = some (.ref fR)) (FR:Fun K "renumbered" "renumbered" qn3 fR fdR) (bR:Binds K fdR ["row", "numbers"] []):FnOk P w K mg base CX0 15 f fd ["n", "top", "rows"] spSO:=by
 have GP:∀d,FnOk P w K mg base CX0 (d+2) fP fdP ["rows", "top"] (qH4 d):=λd=>qM3 FP B T hE FE bE d;have GR:FnOk P w K mg base CX0 1 fR fdR ["row", "numbers"] xe0:=xm6 FR B;obtain⟨te,hem⟩:=hem0;obtain⟨tu,hfu⟩:=T.full;obtain⟨tf,hfi⟩:=T.first;refine F.ok scSO (λvs H Q E h=>?_) (λcdv A outer s H vs Q E hr h=>?_)
 ·obtain⟨rp,n,tp,rows,rfl,_⟩:=h
  rfl
 ·obtain⟨rp,n,tp,rows,rfl,wI,ok,hl,jW,hn,hd,q⟩:=h;have hu:A.units+3+1<cLine:=by
   have h2:A.units+3+16*14+200<cLine:=hr.un;lia
  have hrP:Room (n+2) _:=hr.mono (by lia);have jE:Room 1 _:=hr.mono (by decide);refine seqE ⟨_,qi7 (i:=3) scSO.nd rfl (by first|left;rfl|right;rfl) (qW4 (.cons ⟨qc3 (v:=.int 0) (by rfl) hem ⟨_,rfl⟩⟩ ⟨qc3 (v:=.int 0) (by rfl) hem ⟨_,rfl⟩⟩ (.cons ⟨qc3 (v:=.int 1) (by rfl) hfu ⟨_,rfl⟩⟩ ⟨qc3 (v:=.int 1) (by rfl) hfu ⟨_,rfl⟩⟩ .nil)) rfl rfl (λz=>nomatch z) (by decide)) rfl rfl,?_⟩;refine seqE ⟨_,⟨psN 4 scSO.nd (qd1 qa1)⟩,?_⟩;refine seqE ⟨_,⟨ql5 Yb rfl (qQ0 (pcN (GP n) hrP hP FP.kp bP (qa0 (pv 2) (qa0 (pv 1) qa1)))) (pgN 5 scSO.nd)
   (StB.go (.cons ⟨qd3 (PEb.go (qA2 ZI ZS ZT qe5 ⟨pv 4⟩ (.cons ⟨pcN GR jE hR FR.kp bR (qa0 (pxN (ixS K rfl) (pv 2) (pv 5)) (qa0 (pv 3) qa1))⟩ .nil rfl)))⟩
    (.one ⟨qF4 hu (pv 3) (qb8 qf9 (pv 5) (qc3 (v:=.int 2) (by rfl) hfi ⟨_,rfl⟩)) (qb8 qf9 (qb8 qv8 (qa7 qa9 (by rfl) B.len ZJ (qa0 (pv 4) qa1)) qa3) (qc3 (v:=.int 2) (by rfl) hfi ⟨_,rfl⟩)) (by rfl)⟩)))⟩,?_⟩
  refine qi4 ⟨_,⟨qb0 (qf0 (Ars2.go (.cons ⟨pv 0⟩ (.cons ⟨qQ5 hu (pv 3) (pv 1) (λ_ _=>rfl)⟩ (.cons ⟨qd5 (tupO K rfl) (by rfl) B.tuple ZE (qa0 (pv 4) qa1)⟩ .nil rfl) rfl) rfl)))⟩,?_⟩;refine λg hg=>⟨qa2,qn1,rfl,(by show 2<=15;decide),?_⟩;have eg:qz5 [] qn1=qn1:=by rfl
  rw[eg];have S1:Same H (upd (upd H g (.dK [])) g (.dK qn1)):=λb u z=>by rw[qa6 (qa5 z hg)];exact qc5 z hg
  have hg1:upd (upd H g (.dK [])) g (.dK qn1) g=some (.dK qn1):=qa2;generalize upd (upd H g (.dK [])) g (.dK qn1)=H1 at S1 hg1 ⊢;refine⟨(by show 0<=sizeLine;decide),λD hD=>?_⟩;have hDH:H D=none:=by
   cases z:H D with
   |none=>rfl
   |some o=>rw[S1 _ _ z] at hD;cases hD
  have ngD:g≠D:=qa5 hg1 hD;have S2:Same H (upd H1 D (.lst [])):=S1.trans (qb2 hD);refine⟨_,rfl,_,rfl,rp,tp,rows,rfl,wI.same S2,ok,hl,jW,hd,λH3 LE s3 wJ=>?_⟩;have hg3:=s3 _ _ (qc5 (u:=.lst []) hg1 hD);have vI:=s3 _ _ (qa2 (H:=H1) (a:=D) (o:=.lst []));have S3:=S2.trans s3;have nLg:LE≠g:=λz=>by rw[z,hg3] at wJ;cases wJ
  obtain⟨pe,hxE⟩:=qi0 ok n [] tp (qo9 rows) jW hd;generalize dfs rows n [] tp=es at wJ pe hxE q;have hel:=qH3 pe;obtain⟨bs,vJ,hbl,jA⟩:=id wI;refine⟨LE,rfl,⟨_,SqL.of wJ⟩,qT9 (K:=K) (a:=LE) (xs:=vN es) (λi σ H2=>Same H H2/\H2 LE=some (.lst (vN es))/\H2 g=some (.dK (qn1++fK (es.take i)))/\RowsL H2 D ((told rows es).take i) /\
    ∃v5,σ=[some (.int (n:Nat)),some (.int (tp:Nat)),some (.ref rp),some (.ref g),some (.ref D),v5])
   ⟨S3,wJ,hg3,⟨[],vI,rfl,λi b r e=>by simp at e⟩,none,rfl⟩ (λi σ H2 _ h=>SqL.of h.2.1) ?_ ?_⟩
  ·rintro i y σ H2 hy ⟨s2,hL2,kA,⟨cs,kQ,hcl,hcr⟩,v5,rfl⟩;obtain⟨m,hm,rfl⟩:=ql8 hy;have hie:=(gS_ hm).1;have nLD:LE≠D:=λz=>by
    rw[z,vI] at wJ;have:vN es=[]:=by
     injection wJ with h1
     injection h1 with h2
     exact h2.symm
    have h3:(vN es).length=0:=by rw[this];rfl
    rw[qc2] at h3;lia
   have hml:=pe.lt m (Zx hm);have hgm:=qg5 hml;have hti:=qq2 (rows:=rows) hm;have h4:=(ok m _ hgm).1;have jO:∀x∈rows.getD m [],InE (es.take i) x:=λx hx=>by
    rcases pe.ch i m hm x hx with z|⟨j,hj,ej⟩
    ·exact .inl z
    ·exact .inr (Zx (i:=j) (by rw[List.getElem?_take,Zr hj];exact ej))
   have hni:m∉es.take i:=λz=>by
    obtain⟨j,hj,ej⟩:=ZV.mp z;rw[ZW] at hj;have e1:es[j]?=some m:=by
     rw[List.getElem_take] at ej;rw[Zf (by lia),ej]
    exact nd_iff.mp pe.nd j i (by lia) hie (by rw[e1,hm])
   have htl:(es.take i).length=i:=by rw[ZW];lia
   generalize rows.getD m []=r at hgm hti h4 jO;have hbm:bs[m]?=some (bs[m]'(by lia)):=Zf (by lia);have jV:=s2 _ _ (jA m _ r hbm hgm);have ixx:∀Q':VK,Q' (.ref (bs[m]'(by lia))) H2->rIxS K (.ref rp) (.int (m:Int)) H2 Q':=λQ' hQ=>by
    rcases vJ with h|h
    ·exact .inr ⟨rp,_,(m:Int),.ref (bs[m]'(by lia)),rfl,rfl,SqT.of (s2 _ _ h),qe3 (by rw[Zd,hbm];rfl),hQ⟩
    ·exact .inl ⟨rp,_,(m:Int),.ref (bs[m]'(by lia)),rfl,rfl,SqL.of (s2 _ _ h),qe3 (by rw[Zd,hbm];rfl),hQ⟩
   refine⟨_,rfl,.inl ⟨rfl,_,SqL.of kQ⟩,_,rfl,_,rfl,ixx _ ⟨_,rfl,bs[m]'(by lia),g,r,_,nm es,rfl,jV,h4,kA,λx hx=>by rw[xr7 (jO x hx),xG4 (jO x hx)],λH4 t s4 ht=>?_⟩⟩;have hD4:=s4 _ _ kQ;have ntD:t≠D:=λz=>by rw[z,hD4] at ht;cases ht
   have vR:cs.length=i:=by rw[hcl,ZW,qh5];lia
   refine⟨D,_,.ref t,rfl,rfl,hD4,by rw[Zb,vR];exact qd2 (by lia),?_⟩;have j9:((cs.map V.ref++[V.ref t]).length:Int)=(i:Int)+1:=by rw[Zj,Zb,vR];rfl
   have hg5:upd H4 D (.lst (cs.map V.ref++[.ref t])) g=some (.dK (qn1++fK (es.take i))):=by rw[qa6 ngD];exact s4 _ _ kA
   have dq:=DPut.k (k:=Sum.inl ((m:Int)+2)) (v:=.int (((cs.map V.ref++[V.ref t]).length:Int)-1+2)) hg5 (by
    have:(qn1++fK (es.take i)).length=2+i:=by rw[Zj];unfold fK;rw[qW5,htl];rfl
    rw[this];exact qd2 (by lia))
   refine⟨_,rfl,D,_,rfl,.inl (SqL.of qa2),_,_,rfl,rfl,_,_,rfl,rfl,_,rfl,_,rfl,_,_,rfl,rfl,g,_,rfl,dq,?_⟩
   ·have eput:putK (qn1++fK (es.take i)) (Sum.inl ((m:Int)+2)) (.int (((cs.map V.ref++[V.ref t]).length:Int)-1+2))=qn1++fK (es.take (i+1)):=by
     have h1:=xG3 hni;have h2:es.take (i+1)=es.take i++[m]:=by
      rw[List.take_succ,hm];rfl
     rw[h2,<- h1,htl];congr 1;rw[j9];congr 1;lia
    have eput':∀v:V,v=.int (((cs.map V.ref++[V.ref t]).length:Int)-1+2)->putK (qn1++fK (es.take i)) (Sum.inl ((m:Int)+2)) v=qn1++fK (es.take (i+1)):=λv hv=>by rw[hv];exact eput
    refine⟨?_,?_,?_,⟨cs++[t],?_,?_,?_⟩,_,rfl⟩
    ·intro b o z;rw[qa6 (qa5 z hg),qa6 (qa5 z hDH)];exact s4 _ _ (s2 _ _ z)
    ·rw[qa6 nLg,qa6 nLD];exact s4 _ _ hL2
    ·rw[qa2,eput' _ rfl]
    ·rw[qa6 (Yn ngD),qa2,qW8]
    ·rw[Zj,vR,ZW,qh5];show i+1=_;lia
    ·intro j b r0 e1 e2;have ntg:∀{c:Addr}{u:List V},H4 c=some (.tup u)->c≠g/\c≠D:=λ{c u} e=>⟨(λz=>by rw[z,s4 _ _ kA] at e;cases e),(λz=>by rw[z,hD4] at e;cases e)⟩;have htk:(told rows es).take (i+1)=(told rows es).take i++[r.map (nm es)]:=by rw[List.take_succ,hti];rfl
     rw[htk] at e2;by_cases hj:j<i
     ·rw[Zg (by lia)] at e1;rw[Zg (by rw[ZW,qh5];lia)] at e2;have hb:=s4 _ _ (hcr j b r0 e1 e2);rw[qa6 (ntg hb).1,qa6 (ntg hb).2];exact hb
     ·rw[Zh (by lia)] at e1;rw[Zh (by rw[ZW,qh5];lia)] at e2;have wC:j-cs.length=0:=by
       have:=(gS_ e1).1;simp at this;lia
      have hj1:j-((told rows es).take i).length=0:=by
       rw[ZW,qh5];lia
      rw[wC] at e1;rw[hj1] at e2;have eb:b=t:=by simpa using e1.symm
      have er:r0=r.map (nm es):=by simpa using e2.symm
      rw[eb,er,qa6 (ntg ht).1,qa6 ntD];exact ht
  ·rintro σ H2 ⟨s2,hL2,kA,vY,v5,rfl⟩;rw[qc2,YE] at kA;have htk:(told rows es).take (vN es).length=told rows es:=by rw[qc2];exact Yv (by rw[qh5];exact Ze _)
   rw[htk] at vY;obtain⟨cs,kQ,hcl,hcr⟩:=vY;have dg:DGet H2 g (.int (tp:Int)) (some (.int (nm es tp:Nat))):=by
    have:=DGet.k (k:=Sum.inl (tp:Int)) kA;rw[xr7 hxE] at this;exact this
   refine⟨_,rfl,_,rfl,_,rfl,g,_,rfl,dg,_,rfl,D,_,rfl,.inl ⟨SqL.of kQ,λl hl=>⟨(by show 3<=sizeLine;decide),λt ht=>?_⟩⟩⟩;exact q _ t ((s2.trans (qb2 hl)).trans (qb2 ht)) ⟨l,qa2,cs,qc5 qa2 ht,hcl,λi b r e1 e2=>qc5 (qc5 (hcr i b r e1 e2) hl) ht⟩
end
end Pr
namespace Qf
open Tr
def mkT (a b c d:Tr):Tr:=if a=z/\b=z/\c=z/\d=z then z else if a=o/\b=o/\c=o/\d=o then o else .nd a b c d
def ins (t:Tr) (L:List Tr):List Tr:=if t=z\/t=o\/t∈L then L else L++[t]
theorem xe1 (t:Tr) (L:List Tr):∃s,ins t L=L++s/\s.length<=1:=by
 unfold ins;split
 ·exact⟨[],by simp,by decide⟩
 ·exact⟨[t],rfl,Ze 1⟩
theorem xG5 (t:Tr) (L:List Tr):In (ins t L) t:=by
 unfold ins;split
 ·assumption
 ·exact .inr (.inr (by simp))
theorem xe2 {L:List Tr}(h:Ord L){a b c d:Tr}(ha:In L a) (hb:In L b) (hc:In L c) (hd:In L d):Ord (ins (mkT a b c d) L):=by
 unfold ins;split
 ·exact h
 ·rename_i hn;have e:mkT a b c d=.nd a b c d:=by
   unfold mkT at hn ⊢;split
   ·rename_i h1;rw[Zr h1] at hn;exact absurd (.inl rfl) hn
   ·rename_i h1;rw[Zo h1] at hn;split
    ·rename_i h2;rw[Zr h2] at hn;exact absurd (.inr (.inl rfl)) hn
    ·rfl
  rw[e] at hn ⊢;have nm:Tr.nd a b c d∉L:=λz=>hn (.inr (.inr z));refine⟨?_,?_⟩
  ·rw[XG];exact⟨h.nd,by simp,λx hx y hy e=>nm (by
    have:y=.nd a b c d:=by simpa using hy
    rw[<- this,<- e];exact hx)⟩
  ·intro i t ht;by_cases hi:i<L.length
   ·rw[Zg hi] at ht;obtain⟨h1,h2⟩:=h.ch i t ht;refine⟨h1,λs hs=>(h2 s hs).imp id λh=>h.imp id λ⟨j,hj,e⟩=>⟨j,hj,?_⟩⟩;rw[Zg (by lia)];exact e
   ·have j9:=(gS_ ht).1;rw[Zj] at j9;have v0:i=L.length:=by simp at j9;lia
    subst v0;have et:t=.nd a b c d:=by simpa using ht.symm
    subst et;refine⟨⟨a,b,c,d,rfl⟩,λs hs=>?_⟩;have jO:In L s:=by
     have:s=a\/s=b\/s=c\/s=d:=by simpa [kids] using hs
     rcases this with rfl|rfl|rfl|rfl<;>assumption
    refine jO.imp id λh=>h.imp id λhm=>?_;obtain⟨j,hj,e⟩:=ZV.mp hm;exact⟨j,hj,by rw[Zg hj,Zf hj,e]⟩
theorem xs8 {a b c d:Tr}(h1:¬(a=z/\b=z/\c=z/\d=z)) (h2:¬(a=o/\b=o/\c=o/\d=o)):mkT a b c d=.nd a b c d:=by
 unfold mkT;rw[Zo h1,Zo h2]
theorem plain_names {L:List Tr}{a b c d:Tr}:qh0 [name L a,name L b,name L c,name L d]<->(a=z/\b=z/\c=z/\d=z)\/(a=o/\b=o/\c=o/\d=o):=by
 constructor
 ·rintro (e|e)
  ·simp only[Xz,Vs] at e;exact .inl ⟨qi5 e.1,qi5 e.2.1,qi5 e.2.2.1,qi5 e.2.2.2⟩
  ·simp only[Xz,Vs] at e;exact .inr ⟨qk8 e.1,qk8 e.2.1,qk8 e.2.2.1,qk8 e.2.2.2⟩
 ·rintro (⟨rfl,rfl,rfl,rfl⟩|⟨rfl,rfl,rfl,rfl⟩)
  ·exact .inl rfl
  ·exact .inr rfl
end Qf
namespace Pr
open PySem L2 Qf
theorem kn:¬(("kept" : Str) = "numbers"):=by decide +kernel
def qI5 (k d:Addr):List (Str×V):=putF "numbers" (.ref d) (putF "kept" (.ref k) [])
theorem qv4 (k d:Addr):(qI5 k d).lookup ("kept" : Str)=some (.ref k):=by
 unfold qI5;rw[qg9,Zo kn,qg9,Zr rfl]
theorem qt3 (k d:Addr):(qI5 k d).lookup ("numbers" : Str)=some (.ref d):=by
 unfold qI5;rw[qg9,Zr rfl]
theorem qY5 (k d:Addr){m:Str}(h1:¬m = "numbers") (h2:¬m = "kept"):(qI5 k d).lookup m=none:=by
 unfold qI5;rw[qg9,Zo h1,qg9,Zo h2]
 all_goals rfl
structure BookAt (C:Addr) (H:Hp) (p k d:Addr) (L:List Tr):Prop where
 ob:∃dx,H p=some (.ins C dx (qI5 k d))
 kp:RowsL H k (Tr.rowsOf L)
 dc:H d=some (.dT (tK (Tr.rowsOf L)))
 od:Tr.Ord L
structure BookIn (K:PySem.W.Frag) (mg:Str->Option Value) (C:Addr):Prop where
 cl:Cls K C
 nK:NoAttr K C "kept"
 nN:NoAttr K C "numbers"
 mgC:mg "Book" = some (.ref C)
def But2 (k d:Addr) (H H':Hp):Prop:=∀b o,H b=some o->b≠k->b≠d->H' b=some o
theorem But2.trans {k d:Addr}{H H1 H2:Hp}(a:But2 k d H H1) (b:But2 k d H1 H2):But2 k d H H2:=λc o h n1 n2=>b c o (a c o h n1 n2) n1 n2
theorem But2.of {k d:Addr}{H H':Hp}(s:Same H H'):But2 k d H H':=λb o h _ _=>s b o h
section
variable {P:Program}{w:World}{K:PySem.W.Frag}{mg:Str->Option Value}{base:Heap}
theorem xK8:FnScope ["self"] ["self"] (qa4 qG5):=qe9
def xG6 (C:Addr):Sp:=λvs H Q _=>∃(p dx:Addr),vs=[.ref p]/\H p=some (.ins C dx [])/\∀(k d:Addr) (H':Hp),H k=none->H d=none->BookAt C H' p k d []->But p H H'->Q .non H'
theorem xG7 {f C:Addr}{fd:FuncData}(F:Fun K "__init__" "Book.__init__" qG5 f fd) (T:BookIn K mg C):FnOk P w K mg base CX0 1 f fd ["self"] (xG6 C):=by
 refine F.ok xK8 (λvs H Q E h=>?_) (λcdv A outer s H vs Q E hr h=>?_)
 ·obtain⟨p,dx,rfl,_⟩:=h
  rfl
 ·obtain⟨p,dx,rfl,hp,q⟩:=h;refine seqE ⟨_,⟨xq5 (pv 0) (qd1 qa1) rfl⟩,?_⟩;refine qi4 ⟨_,⟨xq5 (pv 0) qU7 rfl⟩,?_⟩;refine⟨(by show 0<=sizeLine;decide),λk hk=>?_⟩;have npk:p≠k:=qa5 hp hk;refine⟨_,rfl,p,C,dx,[],rfl,(by rw[qa6 npk];exact hp),T.cl,T.nK,(by show 0<1000;decide),λd hd=>?_⟩;have hkd:upd (upd H k (.lst [])) p (.ins C dx (putF "kept" (.ref k) [])) k=some (.lst []):=by rw[qa6 (Yn npk),qa2]
  have nkd:k≠d:=qa5 hkd hd;have npd:p≠d:=qa5 qa2 hd;have hdH:H d=none:=by
   rw[qa6 (Yn npd),qa6 (Yn nkd)] at hd;exact hd
  refine⟨_,rfl,p,C,dx,_,rfl,(by rw[qa6 npd];exact qa2),T.cl,T.nN,(by show 1<1000;decide),?_⟩;refine q k d _ hk hdH ⟨⟨dx,qa2⟩,⟨[],?_,rfl,λi b r e=>by simp at e⟩,?_,Tr.ord_nil⟩ λb o e nb=>?_
  ·rw[qa6 (Yn npk),qa6 nkd];exact hkd
  ·rw[qa6 (Yn npd),qa2];rfl
  ·rw[qa6 nb,qa6 (qa5 e hdH),qa6 nb,qa6 (qa5 e hk)];exact e
theorem xK9:FnScope ["self", "row"] ["self", "row"] (qa4 qV8):=qe9
def xG8 (C:Addr):Sp:=λvs H Q _=>∃(p k d b:Addr) (L:List Tr) (t0 t1 t2 t3:Tr),vs=[.ref p,.ref b]/\BookAt C H p k d L/\H b=some (.tup (vN [Tr.name L t0,Tr.name L t1,Tr.name L t2,Tr.name L t3]))/\Tr.In L t0/\Tr.In L t1/\Tr.In L t2/\Tr.In L t3/\L.length<=1190990 /\
 ∀H',But2 k d H H'->BookAt C H' p k d (ins (mkT t0 t1 t2 t3) L)->Q (.int (Tr.name (ins (mkT t0 t1 t2 t3) L) (mkT t0 t1 t2 t3):Nat)) H'
theorem xG9 {f fP C:Addr}{fd fdP:FuncData}(F:Fun K "number_for" "Book.number_for" qV8 f fd) (B:Blt mg) (Tc:Cst mg) (T:BookIn K mg C)
  (hP:mg "is_plain" = some (.ref fP)) (FP:Fun K "is_plain" "is_plain" qD8 fP fdP) (bP:Binds K fdP ["row"] []):FnOk P w K mg base CX0 3 f fd ["self", "row"] (xG8 C):=by
 have GP:FnOk P w K mg base CX0 2 fP fdP ["row"] qR4:=qW0 FP Tc;obtain⟨tf,hfi⟩:=Tc.first;refine F.ok xK9 (λvs H Q E h=>?_) (λcdv A outer s H vs Q E hr h=>?_)
 ·obtain⟨p,k,d,b,L,t0,t1,t2,t3,rfl,_⟩:=h
  rfl
 ·obtain⟨p,k,d,b,L,t0,t1,t2,t3,rfl,hB,hb,i0,i1,i2,i3,hL,q⟩:=h;have hu:A.units+3+1<cLine:=by
   have h2:A.units+3+16*2+200<cLine:=hr.un;lia
  refine seqE ⟨_,⟨qf3 (qe1 (pcN GP hr hP FP.kp bP (qa0 (pv 1) qa1))) (qa8 (qb0 (pxN qh8 (pv 1) qa3))) qb5⟩,?_⟩;refine seqE ⟨_,⟨qf3 (qT8 (qK5 hu (pv 1) (qD2 (pv 0) rfl)))
   (StB.go (.cons ⟨qF4 hu (qD2 (pv 0) rfl) (pv 1) (qb8 qf9 (qa7 qa9 (by rfl) B.len ZJ (qa0 (qD2 (pv 0) rfl) qa1)) (qc3 (v:=.int 2) (by rfl) hfi ⟨_,rfl⟩)) (by rfl)⟩
    (.one ⟨qd3 (qC4 ZI ZS ZT qe5 (qD2 (pv 0) rfl) (qa0 (pv 1) qa1))⟩))) qb5⟩,?_⟩
  refine qi4 ⟨_,⟨qb0 (qQ5 hu (qD2 (pv 0) rfl) (pv 1) (λ_ _=>rfl))⟩,?_⟩;refine⟨_,rfl,b,_,rfl,hb,rfl,λH1 s1=>⟨_,rfl,?_⟩⟩;obtain⟨⟨dx,hp⟩,⟨bs,hk,hbl,jA⟩,hd,hO⟩:=id hB;have B1:BookAt C H1 p k d L:=⟨⟨dx,s1 _ _ hp⟩,⟨bs,s1 _ _ hk,hbl,λi c r e1 e2=>s1 _ _ (jA i c r e1 e2)⟩,s1 _ _ hd,hO⟩;have vG:=s1 _ _ hb;refine ite2 (λhc=>?_) (λhc=>?_)
  ·rcases plain_names.mp (ZU hc) with ⟨rfl,rfl,rfl,rfl⟩|⟨rfl,rfl,rfl,rfl⟩
   ·exact⟨_,rfl,b,_,0,.int (0:Nat),rfl,rfl,SqT.of vG,rfl,q H1 (But2.of s1) B1⟩
   ·exact⟨_,rfl,b,_,0,.int (1:Nat),rfl,rfl,SqT.of vG,rfl,q H1 (But2.of s1) B1⟩
  ·have hn:=λz=>hc (Zi (plain_names (L:=L).mpr z));have em:mkT t0 t1 t2 t3=.nd t0 t1 t2 t3:=xs8 (λz=>hn (.inl z)) (λz=>hn (.inr z));rw[em] at q;have hkin:∀s∈Tr.kids (.nd t0 t1 t2 t3),Tr.In L s:=λs hs=>by
    have:s=t0\/s=t1\/s=t2\/s=t3:=by simpa [Tr.kids] using hs
    rcases this with rfl|rfl|rfl|rfl<;>assumption
   have kO:=xz2 hO hkin;have hrow4:(Tr.kids (.nd t0 t1 t2 t3)).map (Tr.name L)=[Tr.name L t0,Tr.name L t1,Tr.name L t2,Tr.name L t3]:=rfl;rw[hrow4] at kO;have hbk:H1 b=some (.tup ((keyN [Tr.name L t0,Tr.name L t1,Tr.name L t2,Tr.name L t3]).map kV)):=by rw[qM5];exact vG
   obtain⟨⟨dx1,jM⟩,⟨bs1,vE,hbl1,hrow1⟩,wE,_⟩:=id B1;refine⟨_,rfl,_,rfl,p,C,dx1,_,_,rfl,jM,T.cl,T.nN,qt3 _ _,d,_,rfl,DGet.t wE hbk,_,rfl,?_⟩;rw[xr8];by_cases hm:[Tr.name L t0,Tr.name L t1,Tr.name L t2,Tr.name L t3]∈Tr.rowsOf L
   ·rw[Zr hm];refine iteF ?_;have hT:=kO.mp hm;have ei:ins (.nd t0 t1 t2 t3) L=L:=by unfold ins;rw[Zr (.inr (.inr hT))]
    rw[ei] at q;exact⟨_,rfl,p,C,dx1,_,_,rfl,jM,T.cl,T.nN,qt3 _ _,_,rfl,d,_,rfl,xs7 hO hT wE vG,q H1 (But2.of s1) B1⟩
   ·rw[Zo hm];refine iteT ?_;have hT:Tr.nd t0 t1 t2 t3∉L:=λz=>hm (kO.mpr z);have ei:ins (.nd t0 t1 t2 t3) L=L++[.nd t0 t1 t2 t3]:=by
     unfold ins;rw[Zo];rintro (z|z|z)
     ·cases z
     ·cases z
     ·exact hT z
    have O5:=xe2 hO i0 i1 i2 i3;rw[em,ei] at O5;rw[ei] at q;have er:=q39 hO hkin;rw[hrow4] at er;have jC:(tK (Tr.rowsOf L)).length=L.length:=by unfold tK;rw[qW5,Tr.rowsOf_len]
    have hbsl:(bs1.map V.ref).length=L.length:=by rw[Zb,hbl1,Tr.rowsOf_len]
    have npd:p≠d:=λz=>by rw[z,wE] at jM;cases jM
    have nkd:k≠d:=λz=>by rw[z,wE] at vE;cases vE
    have npk:p≠k:=λz=>by rw[z,vE] at jM;cases jM
    have nbd:b≠d:=λz=>by rw[z,wE] at vG;cases vG
    have nbk:b≠k:=λz=>by rw[z,vE] at vG;cases vG
    have dq:=DPut.t (v:=.int (((bs1.map V.ref).length:Int)+2)) wE hbk (by rw[jC];exact qd2 (by lia));refine⟨_,rfl,p,C,dx1,_,_,rfl,jM,T.cl,T.nK,qv4 _ _,k,_,rfl,.inl (SqL.of vE),_,_,rfl,rfl,_,rfl,p,C,dx1,_,_,rfl,jM,T.cl,T.nN,qt3 _ _,_,rfl,d,_,rfl,dq,?_⟩;have eput:putK (tK (Tr.rowsOf L)) (keyN [Tr.name L t0,Tr.name L t1,Tr.name L t2,Tr.name L t3]) (.int (((bs1.map V.ref).length:Int)+2))=tK (Tr.rowsOf (L++[.nd t0 t1 t2 t3])):=by
     have h1:=xj8 (key:=keyN) (k:=2) (λa b=>qx6) hm;rw[er,hbsl];unfold tK;rw[<- h1,Tr.rowsOf_len];congr 2;lia
    rw[eput];have jI:upd H1 d (.dT (tK (Tr.rowsOf (L++[.nd t0 t1 t2 t3])))) p=some (.ins C dx1 (qI5 k d)):=by rw[qa6 npd];exact jM
    have hk2:upd H1 d (.dT (tK (Tr.rowsOf (L++[.nd t0 t1 t2 t3])))) k=some (.lst (bs1.map V.ref)):=by rw[qa6 nkd];exact vE
    refine⟨_,rfl,p,C,dx1,_,_,rfl,jI,T.cl,T.nK,qv4 _ _,.inl ⟨rfl,_,SqL.of hk2⟩,_,rfl,k,_,.ref b,rfl,rfl,hk2,by rw[hbsl];exact qd2 (by lia),?_⟩;have tup3:∀{c:Addr}{u:List V},H1 c=some (.tup u)->upd (upd H1 d (.dT (tK (Tr.rowsOf (L++[.nd t0 t1 t2 t3]))))) k (.lst (bs1.map V.ref++[.ref b])) c=some (.tup u):=λ{c u} e=>by
     have n1:c≠k:=λz=>by rw[z,vE] at e;cases e
     have n2:c≠d:=λz=>by rw[z,wE] at e;cases e
     rw[qa6 n1,qa6 n2];exact e
    have B3:BookAt C (upd (upd H1 d (.dT (tK (Tr.rowsOf (L++[.nd t0 t1 t2 t3]))))) k (.lst (bs1.map V.ref++[.ref b]))) p k d (L++[.nd t0 t1 t2 t3]):=by
     refine⟨⟨dx1,by rw[qa6 npk];exact jI⟩,⟨bs1++[b],by rw[qa2,qW8],?_,?_⟩,by rw[qa6 (Yn nkd),qa2],O5⟩
     ·rw[Zj,hbl1,Tr.rowsOf_len,Tr.rowsOf_len,Zj];rfl
     ·intro j c r e1 e2;rw[er] at e2;have hbl2:bs1.length=L.length:=by rw[hbl1,Tr.rowsOf_len]
      by_cases hj:j<L.length
      ·rw[Zg (by lia)] at e1;rw[Zg (by rw[Tr.rowsOf_len];exact hj)] at e2;exact tup3 (hrow1 j c r e1 e2)
      ·rw[Zh (by lia)] at e1;rw[Zh (by rw[Tr.rowsOf_len];lia)] at e2;have wC:j-bs1.length=0:=by
        have:=(gS_ e1).1;simp at this;lia
       have hj1:j-(Tr.rowsOf L).length=0:=by rw[Tr.rowsOf_len];lia
       rw[wC] at e1;rw[hj1] at e2;have ec:c=b:=by simpa using e1.symm
       have erow:r=[Tr.name L t0,Tr.name L t1,Tr.name L t2,Tr.name L t3]:=by simpa using e2.symm
       rw[ec,erow];exact tup3 vG
    have hbt3:=tup3 vG;have X3:But2 k d H1 (upd (upd H1 d (.dT (tK (Tr.rowsOf (L++[.nd t0 t1 t2 t3]))))) k (.lst (bs1.map V.ref++[.ref b]))):=λc o e n1 n2=>by rw[qa6 n1,qa6 n2];exact e
    generalize upd (upd H1 d (.dT (tK (Tr.rowsOf (L++[.nd t0 t1 t2 t3]))))) k (.lst (bs1.map V.ref++[.ref b]))=H3 at B3 hbt3 X3 ⊢;obtain⟨⟨dx3,jR⟩,_,k9,_⟩:=id B3;have enm:∀s,Tr.In L s->Tr.name (L++[.nd t0 t1 t2 t3]) s=Tr.name L s:=λs hs=>Tr.name_app hs hO;exact⟨_,rfl,p,C,dx3,_,_,rfl,jR,T.cl,T.nN,qt3 _ _,_,rfl,d,_,rfl,xs7 (a:=t0) (b:=t1) (c:=t2) (d:=t3) O5 (by simp) k9 (by rw[hbt3,enm t0 i0,enm t1 i1,enm t2 i2,enm t3 i3]),q H3 ((But2.of s1).trans X3) B3⟩
end
end Pr
namespace Qf
open Tr
theorem qo6 {rows:List Row}(ok:qc0 rows){q:Nat}(hq:q<rows.length+2):(T rows q=z<->q=0)/\(T rows q=o<->q=1):=by
 by_cases q2:q<2
 ·match q,q2 with
  |0,_=>rw[qk7];exact⟨⟨λ_=>rfl,λ_=>rfl⟩,⟨λh=>(nomatch h),λh=>(nomatch h)⟩⟩
  |1,_=>rw[qs9];exact⟨⟨λh=>(nomatch h),λh=>(nomatch h)⟩,⟨λ_=>rfl,λ_=>rfl⟩⟩
 ·obtain⟨p',a',b',c',d',rfl,hp'⟩:=qw4 ok hq q2;rw[qv1 ok hp'];exact⟨⟨λh=>(nomatch h),λh=>by lia⟩,⟨λh=>(nomatch h),λh=>by lia⟩⟩
theorem xL0 {rows:List Row}(ok:qc0 rows){p a b c d:Nat}(hp:rows[p]?=some [a,b,c,d]):a<rows.length+2/\b<rows.length+2/\c<rows.length+2/\d<rows.length+2:=by
 have hl:=(gS_ hp).1;have h:=(ok p _ hp).2;have h1:=h a (by simp);have h2:=h b (by simp);have h3:=h c (by simp);have h4:=h d (by simp);lia
theorem xL1 {rows:List Row}(ok:qc0 rows) (np:∀r∈rows,¬qh0 r):∀x,x<rows.length+2->Red (T rows x):=by
 intro x
 induction x using Nat.strongRecOn with
 |ind x ih=>
  intro hx;by_cases z:x<2
  ·match x,z with
   |0,_=>rw[qk7];trivial
   |1,_=>rw[qs9];trivial
  ·obtain⟨p,a,b,c,d,rfl,hp⟩:=qw4 ok hx z;have jC:=(ok p _ hp).2;have jQ:=(gS_ hp).1;have la:=jC a (by simp);have lb:=jC b (by simp);have lc:=jC c (by simp);have ld:=jC d (by simp);rw[qv1 ok hp];have hnp:=np _ (Zx hp);refine⟨λh=>hnp (.inl ?_),λh=>hnp (.inr ?_),ih a (by lia) (by lia),ih b (by lia) (by lia),ih c (by lia) (by lia),ih d (by lia) (by lia)⟩
   ·rw[(qo6 ok (by lia)).1.mp h.1,(qo6 ok (by lia)).1.mp h.2.1,(qo6 ok (by lia)).1.mp h.2.2.1,(qo6 ok (by lia)).1.mp h.2.2.2]
   ·rw[(qo6 ok (by lia)).2.mp h.1,(qo6 ok (by lia)).2.mp h.2.1,(qo6 ok (by lia)).2.mp h.2.2.1,(qo6 ok (by lia)).2.mp h.2.2.2]
theorem xe3 {n top:Nat}{rows:List Row}(c:Canon n top rows):Red (T rows top):=xL1 c.rok c.unplain top c.inn
theorem xz4 {rows:List Row}(ok:qc0 rows){p a b c d s:Nat}(hp:rows[p]?=some [a,b,c,d]) (h:dp rows (p+2)<=s+1):dp rows a<=s/\dp rows b<=s/\dp rows c<=s/\dp rows d<=s:=by
 rw[qC5 ok hp] at h;have hm:∀x∈[a,b,c,d],dp rows x<=mx ([a,b,c,d].map (dp rows)):=λx hx=>q22 (List.mem_map_of_mem hx);have h1:=hm a (by simp);have h2:=hm b (by simp);have h3:=hm c (by simp);have h4:=hm d (by simp);lia
theorem xz5 {a b c d:Tr}{s:Nat}(h:dep (.nd a b c d)<=s+1):dep a<=s/\dep b<=s/\dep c<=s/\dep d<=s:=by
 have h':1+mx [dep a,dep b,dep c,dep d]<=s+1:=h;have hm:∀x∈[dep a,dep b,dep c,dep d],x<=mx [dep a,dep b,dep c,dep d]:=λx hx=>q22 hx;have h1:=hm (dep a) (by simp);have h2:=hm (dep b) (by simp);have h3:=hm (dep c) (by simp);have h4:=hm (dep d) (by simp);lia
theorem xs9 {a b c d:Tr}{s:Nat}(h1:dep a<=s) (h2:dep b<=s) (h3:dep c<=s) (h4:dep d<=s):dep (.nd a b c d)<=s+1:=by
 show 1+mx [dep a,dep b,dep c,dep d]<=s+1;have:mx [dep a,dep b,dep c,dep d]<=s:=xE0 λx hx=>by
  have:x=dep a\/x=dep b\/x=dep c\/x=dep d:=by simpa using hx
  rcases this with rfl|rfl|rfl|rfl<;>assumption
 lia
theorem dep0:∀{t:Tr},dep t<=0->t=.z\/t=.o
 |.z,_=>.inl rfl
 |.o,_=>.inr rfl
 |.nd a b c d,h=>by
  have:1+mx [dep a,dep b,dep c,dep d]<=0:=h;lia
theorem qO6 (a b c d:Tr):(a=z/\b=z/\c=z/\d=z)/\mkT a b c d=z\/(a=o/\b=o/\c=o/\d=o)/\mkT a b c d=o\/(¬(a=z/\b=z/\c=z/\d=z)/\¬(a=o/\b=o/\c=o/\d=o))/\mkT a b c d=.nd a b c d:=by
 unfold mkT;split
 ·exact .inl ⟨by assumption,rfl⟩
 ·split
  ·exact .inr (.inl ⟨by assumption,rfl⟩)
  ·exact .inr (.inr ⟨⟨by assumption,by assumption⟩,rfl⟩)
theorem xz6 {a b c d:Tr}(ha:Red a) (hb:Red b) (hc:Red c) (hd:Red d):Red (mkT a b c d):=by
 rcases qO6 a b c d with ⟨_,e⟩|⟨_,e⟩|⟨⟨h1,h2⟩,e⟩
 ·rw[e];trivial
 ·rw[e];trivial
 ·rw[e];exact⟨h1,h2,ha,hb,hc,hd⟩
theorem xz7 {a b c d:Tr}{s:Nat}(ha:dep a<=s) (hb:dep b<=s) (hc:dep c<=s) (hd:dep d<=s):dep (mkT a b c d)<=s+1:=by
 rcases qO6 a b c d with ⟨_,e⟩|⟨_,e⟩|⟨_,e⟩
 ·rw[e];exact ZN _
 ·rw[e];exact ZN _
 ·rw[e];exact xs9 ha hb hc hd
theorem xz8 {L:List Tr}{t:Tr}(h:qE4 L) (ht:Red t):qE4 (ins t L):=by
 unfold ins;split
 ·exact h
 ·intro u hu;rcases Z2.mp hu with z|z
  ·exact h u z
  ·have:u=t:=by simpa using z
   rw[this];exact ht
def rd:Tr->Tr
 |.z=>.z
 |.o=>.o
 |.nd a b c d=>mkT (rd a) (rd b) (rd c) (rd d)
def TR (rows:List Row) (x:Nat):Tr:=rd (T rows x)
theorem xe4 (rows:List Row):TR rows 0=.z:=by unfold TR;rw[qk7];rfl
theorem xt0 (rows:List Row):TR rows 1=.o:=by unfold TR;rw[qs9];rfl
theorem xt1 {rows:List Row}(ok:qc0 rows){p a b c e:Nat}(hp:rows[p]?=some [a,b,c,e]):TR rows (p+2)=mkT (TR rows a) (TR rows b) (TR rows c) (TR rows e):=by
 unfold TR;rw[qv1 ok hp];rfl
theorem qE5:∀t:Tr,Red (rd t)
 |.z=>trivial
 |.o=>trivial
 |.nd a b c d=>xz6 (qE5 a) (qE5 b) (qE5 c) (qE5 d)
theorem q40:∀{t:Tr},Red t->rd t=t
 |.z,_=>rfl
 |.o,_=>rfl
 |.nd a b c d,h=>by
  show mkT (rd a) (rd b) (rd c) (rd d)=_;rw[q40 h.2.2.1,q40 h.2.2.2.1,q40 h.2.2.2.2.1,q40 h.2.2.2.2.2];exact xs8 h.1 h.2.1
theorem qO7:∀(k:Nat) (t:Tr),dep t<=k->dep (rd t)<=k
 |k,.z,_=>ZN _
 |k,.o,_=>ZN _
 |0,.nd a b c d,h=>by
  rcases dep0 h with e|e<;>cases e
 |k+1,.nd a b c d,h=>by
  obtain⟨h1,h2,h3,h4⟩:=xz5 h;exact xz7 (qO7 k a h1) (qO7 k b h2) (qO7 k c h3) (qO7 k d h4)
theorem xL2 {rows:List Row}(ok:qc0 rows):∀(k x:Nat),x<rows.length+2->dp rows x<=k->dep (T rows x)<=k:=by
 intro k
 induction k with
 |zero=>
  intro x hx h;have:=qE1 ok hx h
  match x,this with
  |0,_=>rw[qk7];exact Ze 0
  |1,_=>rw[qs9];exact Ze 0
 |succ k ih=>
  intro x hx h;by_cases c:x<2
  ·match x,c with
   |0,_=>rw[qk7];exact ZN _
   |1,_=>rw[qs9];exact ZN _
  ·obtain⟨p,a,b,c',d,rfl,hp⟩:=qw4 ok hx c;obtain⟨l1,l2,l3,l4⟩:=xL0 ok hp;obtain⟨h1,h2,h3,h4⟩:=xz4 ok hp h;rw[qv1 ok hp];exact xs9 (ih a l1 h1) (ih b l2 h2) (ih c' l3 h3) (ih d l4 h4)
theorem xH0 {rows:List Row}(ok:qc0 rows){k x:Nat}(hx:x<rows.length+2) (h:dp rows x<=k):dep (TR rows x)<=k:=qO7 k _ (xL2 ok k x hx h)
def cTop (t:Tr):Nat:=name (post t []) t
def xz9 (t:Tr):List Row:=rowsOf (post t [])
theorem xA0 {n top:Nat}{rows:List Row}(c:Canon n top rows):top=cTop (TR rows top)/\rows=xz9 (TR rows top):=by
 have e:TR rows top=T rows top:=q40 (xe3 c);rw[e];obtain⟨h1,h2⟩:=q35 c;exact⟨h2,h1⟩
end Qf
namespace Pr
open PySem L2 Qf
section
variable {P:Program}{w:World}{K:PySem.W.Frag}{mg:Str->Option Value}{base:Heap}
def xt2:Sp:=λvs H Q _=>∃(b g:Addr) (r:Row) (ns:List Nat) (f:Nat->Nat),vs=[.ref b,.ref g]/\H b=some (.tup (vN r))/\r.length=4/\H g=some (.lst (vN ns))/\(∀q∈r,ns[q]?=some (f q)) /\
 ∀(H':Hp) (t:Addr),Same H H'->H' t=some (.tup (vN (r.map f)))->Q (.ref t) H'
theorem xA1 {f:Addr}{fd:FuncData}(F:Fun K "renumbered" "renumbered" qn3 f fd) (B:Blt mg):FnOk P w K mg base CX0 1 f fd ["row", "numbers"] xt2:=by
 refine F.ok scRenum (λvs H Q E h=>?_) (λcdv A outer s H vs Q E hr h=>?_)
 ·obtain⟨b,g,r,ns,f,rfl,_⟩:=h
  rfl
 ·obtain⟨b,g,r,ns,ff,rfl,hb,h4,hg,hv,q⟩:=h;refine qi4 ⟨_,⟨qb0 (qd5 (tupO K rfl) (by rfl) B.tuple ZE (qa0 (qf5 ["row", "numbers"] (qa4 qn3) rfl rfl rfl scRenum.nd (qj9 (pv 0)) (λcl C fp s₀ H₀=>pxN (ixL K rfl) (pv 2) (pv 0))) qa1))⟩,?_⟩;refine⟨_,rfl,b,rfl,⟨_,SqT.of hb⟩,λD hD=>qe6 hD (λi z _=>∃m:Nat,r[i]?=some m/\z=.int (ff m:Nat)) (qi1 (K:=K) hb) (by rw[qc2,h4];decide) (λ_ _ _ _ _ _ h=>h) ?_ ?_⟩
  ·intro i x H2 hi hx s2 Q' hq;obtain⟨m,hm,rfl⟩:=ql8 hx;exact⟨_,rfl,_,rfl,g,_,(m:Int),.int (ff m:Nat),rfl,rfl,SqL.of (s2 _ _ hg),qe3 (q26 (hv m (Zx hm))),hq _ _ (Same.refl _) ⟨m,hm,rfl⟩⟩
  ·intro ys H2 s2 jG jH jK;have ey:ys=vN (r.map ff):=by
    refine qi2 (by rw[jH,qc2,qc2,Zb]) λi x hx=>?_;obtain⟨m,hm,rfl⟩:=jK i x hx;exact q26 (by rw[Zd,hm];rfl)
   subst ey;exact⟨D,_,rfl,.inl ⟨SqL.of jG,λl hl=>q _ l (s2.trans (qb2 hl)) qa2⟩⟩
end
theorem BookAt.same {C:Addr}{H H':Hp}{p k d:Addr}{L:List Tr}(h:BookAt C H p k d L) (s:Same H H'):BookAt C H' p k d L:=by
 obtain⟨⟨dx,hp⟩,hk,hd,hO⟩:=h;exact⟨⟨dx,s _ _ hp⟩,hk.same s,s _ _ hd,hO⟩
theorem BookAt.tup {C:Addr}{H H':Hp}{p k d:Addr}{L:List Tr}(h:BookAt C H p k d L) (B:But2 k d H H'){x:Addr}{u:List V}(e:H x=some (.tup u)):H' x=some (.tup u):=by
 obtain⟨_,⟨bs,hk,_⟩,hd,_⟩:=h;exact B _ _ e (λz=>by rw[z,hk] at e;cases e) (λz=>by rw[z,hd] at e;cases e)
theorem BookAt.put {C:Addr}{H:Hp}{p k d D:Addr}{L:List Tr}{xs ys:List V}(h:BookAt C H p k d L) (hD:H D=some (.lst xs)) (nk:D≠k):BookAt C (upd H D (.lst ys)) p k d L:=by
 obtain⟨⟨dx,hp⟩,⟨bs,hk,hl,hr⟩,hd,hO⟩:=h;refine⟨⟨dx,?_⟩,⟨bs,?_,hl,λi c r e1 e2=>?_⟩,?_,hO⟩
 ·rw[qa6 (λz=>by rw[z,hD] at hp;cases hp)];exact hp
 ·rw[qa6 (Yn nk)];exact hk
 ·have:=hr i c r e1 e2;rw[qa6 (λz=>by rw[z,hD] at this;cases this)];exact this
 ·rw[qa6 (λz=>by rw[z,hD] at hd;cases hd)];exact hd
theorem xL3 (k d:Addr):(qI5 k d).lookup ("number_for" : Str)=none:=qY5 k d (by decide +kernel) (by decide +kernel)
section
variable {P:Program}{w:World}{K:PySem.W.Frag}{mg:Str->Option Value}{base:Heap}
theorem scBkNs:FnScope ["self", "rows", "numbers", "row"] ["self", "rows"] (qa4 qG6):=qe9
end
end Pr
namespace Qf
open Tr
def insG (rows:List Row) (L:List Tr):Nat->List Tr
 |0=>L
 |i+1=>ins (TR rows (i+2)) (insG rows L i)
theorem qI6 (rows:List Row) (L:List Tr):∀i,∃s,insG rows L i=L++s/\s.length<=i
 |0=>⟨[],by simp[insG],Ze _⟩
 |i+1=>by
  obtain⟨s,e,hl⟩:=qI6 rows L i;obtain⟨s',e',hl'⟩:=xe1 (TR rows (i+2)) (insG rows L i);exact⟨s++s',by show ins _ _=_;rw[e',e,Z3],by rw[Zj];lia⟩
theorem qO8 {rows:List Row}{L:List Tr}(i:Nat):∃s,insG rows L (i+1)=insG rows L i++s:=by
 obtain⟨s,e,_⟩:=xe1 (TR rows (i+2)) (insG rows L i);exact⟨s,e⟩
theorem qo7 {rows:List Row}{L:List Tr}:∀i x,x<i+2->In (insG rows L i) (TR rows x)
 |0,x,hx=>by
  match x,hx with
  |0,_=>exact .inl (xe4 _)
  |1,_=>exact .inr (.inl (xt0 _))
 |i+1,x,hx=>by
  by_cases e:x=i+2
  ·rw[e];exact xG5 _ _
  ·obtain⟨s,e'⟩:=qO8 (rows:=rows) (L:=L) i;rw[e'];exact (qo7 i x (by lia)).app
theorem qY6 {rows:List Row}(ok:qc0 rows){L:List Tr}(h:Ord L):∀i,i<=rows.length->Ord (insG rows L i)
 |0,_=>h
 |i+1,hi=>by
  have ih:=qY6 ok h i (by lia);obtain⟨a,b,c,d,e⟩:=qB2 (ok i _ (Zf (show i<rows.length by lia))).1;have hp:rows[i]?=some [a,b,c,d]:=by rw[Zf (by lia),e]
  have jC:=(ok i _ hp).2;show Ord (ins (TR rows (i+2)) (insG rows L i));rw[xt1 ok hp];exact xe2 ih (qo7 i a (jC a (by simp))) (qo7 i b (jC b (by simp))) (qo7 i c (jC c (by simp))) (qo7 i d (jC d (by simp)))
def nmsG (rows:List Row) (L:List Tr) (i:Nat):List Nat:=(List.range (i+2)).map λx=>name (insG rows L i) (TR rows x)
theorem xe5 {rows:List Row}(ok:qc0 rows){L:List Tr}(h:Ord L){i:Nat}(hi:i<rows.length):nmsG rows L (i+1)=nmsG rows L i++[name (insG rows L (i+1)) (TR rows (i+2))]:=by
 unfold nmsG;rw[Y2,Z0];congr 1;refine Ym λx hx=>?_;obtain⟨s,e⟩:=qO8 (rows:=rows) (L:=L) i;rw[e];exact name_app (qo7 i x (Z4.mp hx)) (qY6 ok h i (by lia))
end Qf
namespace Pr
open PySem L2 Qf
section
variable {P:Program}{w:World}{K:PySem.W.Frag}{mg:Str->Option Value}{base:Heap}
def xA2 (C:Addr):Sp:=λvs H Q _=>∃(p kk dd rp:Addr) (L:List Tr) (rows:List Row),vs=[.ref p,.ref rp]/\BookAt C H p kk dd L/\RowsAt H rp rows/\qc0 rows/\L.length+rows.length<=1190980 /\
 ∀(H':Hp) (g:Addr),H g=none->But2 kk dd H H'->BookAt C H' p kk dd (insG rows L rows.length)->H' g=some (.lst (vN (nmsG rows L rows.length)))->Q (.ref g) H'
theorem xH1 {f fN fR fP C:Addr}{fd fdN fdR fdP:FuncData}(F:Fun K "numbers_for" "Book.numbers_for" qG6 f fd) (B:Blt mg) (Tc:Cst mg) (hem0:∃t,mg "EMPTY" = some (.int 0 t)) (T:BookIn K mg C)
  (MN:Meth K C "number_for" fN) (FN:Fun K "number_for" "Book.number_for" qV8 fN fdN) (bN:Binds K fdN ["self", "row"] [])
  (hR:mg "renumbered" = some (.ref fR)) (FR:Fun K "renumbered" "renumbered" qn3 fR fdR) (bR:Binds K fdR ["row", "numbers"] [])
  (hP:mg "is_plain" = some (.ref fP)) (FP:Fun K "is_plain" "is_plain" qD8 fP fdP) (bP:Binds K fdP ["row"] []):FnOk P w K mg base CX0 4 f fd ["self", "rows"] (xA2 C):=by
 have GN:FnOk P w K mg base CX0 3 fN fdN ["self", "row"] (xG8 C):=xG9 FN B Tc T hP FP bP;have GR:FnOk P w K mg base CX0 1 fR fdR ["row", "numbers"] xt2:=xA1 FR B;obtain⟨tu,hfu⟩:=Tc.full;obtain⟨te,hem⟩:=hem0;refine F.ok scBkNs (λvs H Q E h=>?_) (λcdv A outer s H vs Q E hr h=>?_)
 ·obtain⟨p,kk,dd,rp,L,rows,rfl,_⟩:=h
  rfl
 ·obtain⟨p,kk,dd,rp,L,rows,rfl,hB,hRS,ok,hl,q⟩:=h;have jE:Room 1 _:=hr.mono (by decide);refine seqE ⟨_,⟨psN 2 scBkNs.nd (qd1 (qa0 (qc3 (v:=.int 0) (by rfl) hem ⟨_,rfl⟩) (qa0 (qc3 (v:=.int 1) (by rfl) hfu ⟨_,rfl⟩) qa1)))⟩,?_⟩;refine seqE ⟨_,⟨ql5 Yb rfl (qj9 (pv 1)) (pgN 3 scBkNs.nd)
   (qa8 (qd3 (PEb.go (qA2 ZI ZS ZT qe5 ⟨pv 2⟩ (.cons ⟨q66 (pv 0) T.cl MN GN hr bN .nil xi3 (Ars2.go (.cons ⟨pcN GR jE hR FR.kp bR (qa0 (pv 3) (qa0 (pv 2) qa1))⟩ .nil rfl))⟩ .nil rfl)))))⟩,?_⟩
  refine qi4 ⟨_,⟨qb0 (pv 2)⟩,?_⟩;refine⟨(by show 2<=sizeLine;decide),λg hg=>?_⟩;have S1:=qb2 (o:=.lst [.int 0,.int 1]) hg;have hB1:=hB.same S1;have hg1:upd H g (.lst [.int 0,.int 1]) g=some (.lst (vN (nmsG rows L 0))):=by
   have e0:nmsG rows L 0=[0,1]:=by
    show[Tr.name L (Qf.TR rows 0),Tr.name L (Qf.TR rows 1)]=_;rw[xe4,xt0];rfl
   rw[e0,qa2];rfl
  have hRS1:RowsAt (upd H g (.lst [.int 0,.int 1])) rp rows:=hRS.mono S1.tups;have ngk:g≠kk:=by
   obtain⟨_,⟨ks,hk,_⟩,_,_⟩:=id hB;exact (qa5 hk hg).symm
  generalize upd H g (.lst [.int 0,.int 1])=H1 at S1 hB1 hg1 hRS1 ⊢;obtain⟨bs,vJ,hbl,jA⟩:=id hRS;have ngd:g≠dd:=(qa5 hB.dc hg).symm;refine⟨_,rfl,rp,rfl,⟨_,SqT.of (S1 _ _ vJ)⟩,qq0 (K:=K) (a:=rp) (xs:=bs.map V.ref) (λi σ H2=>BookAt C H2 p kk dd (insG rows L i)/\H2 g=some (.lst (vN (nmsG rows L i)))/\But2 kk dd H H2/\∃v,σ=[some (.ref p),some (.ref rp),some (.ref g),v]) ?_ ?_ ?_ ?_⟩
  ·exact⟨hB1,hg1,But2.of S1,none,rfl⟩
  ·rintro i σ H2 _ ⟨_,_,B2,_⟩;exact SqT.of (hB.tup B2 vJ)
  ·rintro i x σ H2 hx ⟨hB2,kA,B2,v,rfl⟩;rw[Zd] at hx;obtain⟨b,hb,rfl⟩:=Zw.mp hx;have hi:i<rows.length:=by rw[<- hbl];exact (gS_ hb).1
   obtain⟨a0,a1,a2,a3,er⟩:=qB2 (ok i _ (Zf hi)).1;have hri:rows[i]?=some [a0,a1,a2,a3]:=by rw[Zf hi,er]
   have jV:=hB.tup B2 (jA i b _ hb hri);have jC:=(ok i _ hri).2;obtain⟨⟨dx,hob⟩,_,_,hO⟩:=id hB2;have jO:=λx (hx:x∈[a0,a1,a2,a3])=>qo7 (rows:=rows) (L:=L) i x (jC x hx);obtain⟨e2,kX,hle2⟩:=qI6 rows L i;have hL2:(insG rows L i).length<=L.length+i:=by rw[kX,Zj];lia
   have hTT:=(xt1 ok hri).symm;have hsucc:=xe5 ok hB.od hi;have hnl:(nmsG rows L i).length=i+2:=by unfold nmsG;rw[Zb,Xf]
   have hv:∀q∈[a0,a1,a2,a3],(nmsG rows L i)[q]?=some (Tr.name (insG rows L i) (Qf.TR rows q)):=λq hq=>by
    unfold nmsG;rw[Zd,Z5 (jC q hq)]
    rfl
   have hins:ins (mkT (Qf.TR rows a0) (Qf.TR rows a1) (Qf.TR rows a2) (Qf.TR rows a3)) (insG rows L i)=insG rows L (i+1):=by rw[hTT];rfl
   have hnam:Tr.name (insG rows L (i+1)) (mkT (Qf.TR rows a0) (Qf.TR rows a1) (Qf.TR rows a2) (Qf.TR rows a3))=Tr.name (insG rows L (i+1)) (Qf.TR rows (i+2)):=by rw[hTT]
   rw[hsucc];refine⟨_,rfl,.inl ⟨rfl,_,SqL.of kA⟩,_,rfl,p,dx,_,rfl,hob,xL3 _ _,_,rfl,_,rfl,b,g,[a0,a1,a2,a3],_,λx=>Tr.name (insG rows L i) (Qf.TR rows x),rfl,jV,rfl,kA,hv,λH3 t s3 ht=>?_⟩;refine⟨p,kk,dd,t,_,_,_,_,_,rfl,hB2.same s3,ht,jO a0 (by simp),jO a1 (by simp),jO a2 (by simp),jO a3 (by simp),by lia,λH4 B4 hB4=>?_⟩;rw[hins] at hB4 ⊢;rw[hnam];have hg4:=B4 _ _ (s3 _ _ kA) ngk ngd;refine⟨g,_,_,rfl,rfl,hg4,by rw[qc2,hnl];exact qd2 (by lia),?_⟩;refine⟨hB4.put hg4 ngk,?_,λc o e n1 n2=>?_,_,rfl⟩
   ·rw[qa2];unfold vN;rw[Z0]
    rfl
   ·rw[qa6 (qa5 e hg)];exact B4 _ _ (s3 _ _ (B2 _ _ e n1 n2)) n1 n2
  ·rintro σ H2 ⟨hB2,kA,B2,v,rfl⟩;rw[Zb,hbl] at hB2 kA;exact⟨_,rfl,q H2 g hg B2 hB2 kA⟩
end
def qg0:Stp->Str
 |.gone _=>"gone"
 |.plain _=>"plain"
 |.same _ _=>"same"
def qf1:Stp->List Nat
 |.gone k=>[k]
 |.plain k=>[k]
 |.same k j=>[k,j]
theorem qy2 (s:Stp):qf4 s=.str (qg0 s)::vN (qf1 s):=by cases s<;>rfl
def dS (s:Stp):PyData:=.tuple (.str (qg0 s)::(qf1 s).map λn:Nat=>PyData.int (n:Int))
theorem qY7 {H:Hp}:∀(l:List Nat),DatasAt H (vN l) (l.map λn:Nat=>PyData.int (n:Int))
 |[]=>.nil
 |n::l=>.cons (.int _) (qY7 l)
theorem qm3 {H:Hp}{b:Addr}{s:Stp}(h:H b=some (.tup (qf4 s))):DataAt H (.ref b) (dS s):=.tup h (by rw[qy2];exact .cons (.str _) (qY7 _))
theorem xm7 (s:Stp):PyData.strOk (qg0 s)=true:=by
 cases s with
 |gone k=>exact (by decide +kernel:PyData.strOk ("gone" : Str)=true)
 |plain k=>exact (by decide +kernel:PyData.strOk ("plain" : Str)=true)
 |same k j=>exact (by decide +kernel:PyData.strOk ("same" : Str)=true)
theorem layN:∀(a:List Nat),PyData.canLayAll0 (a.map λn:Nat=>PyData.int (n:Int))=true
 |[]=>by simp[PyData.canLayAll0]
 |x::a=>by
  show (PyData.canLay0 (.int x)&&PyData.canLayAll0 (a.map λn:Nat=>PyData.int (n:Int)))=true;rw[layN a];simp[PyData.canLay0]
theorem xt3 (s:Stp):(dS s).canLay0=true:=by
 show (PyData.canLay0 (.str (qg0 s))&&PyData.canLayAll0 ((qf1 s).map λn:Nat=>PyData.int (n:Int)))=true;rw[layN];show (PyData.strOk (qg0 s)&&true)=true;rw[xm7];rfl
theorem qI7 (s:Stp):(dS s).depth<=3:=by cases s<;>simp[dS,qf1,qg0,PyData.depth,PyData.depthAll]
theorem xm8 {s t:Stp}(h1:qg0 s=qg0 t) (h2:qf1 s=qf1 t):s=t:=qO4 (by rw[qy2,qy2,h1,h2])
theorem xH2 (s t:Stp):PyData.eqv (dS s) (dS t)=decide (s=t):=by
 have e:PyData.eqv (dS s) (dS t)=(PyData.eqv (.str (qg0 s)) (.str (qg0 t))&&PyData.eqvAll ((qf1 s).map λn:Nat=>PyData.int (n:Int)) ((qf1 t).map λn:Nat=>PyData.int (n:Int))):=rfl;have e1:PyData.eqv (.str (qg0 s)) (.str (qg0 t))=(qg0 s==qg0 t):=by simp[PyData.eqv]
 have e2:∀l:List Nat,(l.map λn:Nat=>PyData.int (n:Int))=(l.map λn:Nat=>(n:Int)).map PyData.int:=λl=>by rw[Yp];rfl
 rw[e,e1,e2,e2,qm7];by_cases h:s=t
 ·subst h;rw[Zi rfl,Zi rfl,Bool.and_true];exact WG _
 ·rw[Zk h];by_cases h1:qg0 s=qg0 t
  ·rw[Zk λz=>h (xm8 h1 (qA0 z)),Vl]
  ·rw[Yk.mpr h1,Vk]
theorem qt4:∀(ss:List Stp),PyData.canLayAll0 (ss.map dS)=true
 |[]=>by simp[PyData.canLayAll0]
 |s::ss=>by
  show (PyData.canLay0 (dS s)&&PyData.canLayAll0 (ss.map dS))=true;rw[qt4 ss,xt3];rfl
theorem xm9 (ss:List Stp) (s:Stp):((ss.map dS).any λe=>PyData.eqv e (dS s))=decide (s∈ss):=by
 induction ss with
 |nil=>rfl
 |cons t ss ih=>
  rw[ZH,Xj,ih,xH2];by_cases h:t=s
  ·rw[Zi h,Bool.true_or,Zi (by rw[h];exact ZC)]
  ·rw[Zk h,Bool.false_or,Yw];exact⟨λz=>Zs _ z,λz=>(Zy.mp z).elim (λe=>absurd e.symm h) id⟩
theorem StepsL.datas {H:Hp}{p:Addr}{ss:List Stp}(h:StepsL H p ss):∃xs,H p=some (.lst xs)/\DatasAt H xs (ss.map dS):=by
 obtain⟨bs,h1,h2,h3⟩:=h;refine⟨_,h1,?_⟩;clear h1
 induction bs generalizing ss with
 |nil=>
  cases ss with
  |nil=>exact .nil
  |cons _ _=>simp at h2
 |cons b bs ih=>
  cases ss with
  |nil=>simp at h2
  |cons s ss=>exact .cons (qm3 (h3 0 b s rfl rfl)) (ih (by simpa using h2) λi c t e1 e2=>h3 (i+1) c t (by simpa using e1) (by simpa using e2))
section
variable {P:Program}{w:World}{K:PySem.W.Frag}{mg:Str->Option Value}{base:Heap}
theorem scIsStep:FnScope ["telling", "thing"] ["telling", "thing"] (qa4 qo3):=qe9
def qY8:Sp:=λvs H Q _=>∃(t b:Addr) (n tp:Nat) (rows:List Row) (s:Stp),vs=[.ref t,.ref b]/\TellAt H t n tp rows/\qh7 n tp rows/\H b=some (.tup (qf4 s))/\∀H',Same H H'->Q (.bl (decide (s∈qd8 tp rows))) H'
theorem xe6 {f fW fS:Addr}{fd fdW fdS:FuncData}(F:Fun K "is_step" "is_step" qo3 f fd) (B:Blt mg) (C:Blt2 mg)
  (hW:mg "is_whole" = some (.ref fW)) (FW:Fun K "is_whole" "is_whole" qp8 fW fdW) (bW:Binds K fdW ["thing"] [])
  (hS:mg "steps_of" = some (.ref fS)) (FS:Fun K "steps_of" "steps_of" qn0 fS fdS) (bS:Binds K fdS ["telling"] []) (GS:FnOk P w K mg base CX0 7 fS fdS ["telling"] qB4):FnOk P w K mg base CX0 8 f fd ["telling", "thing"] qY8:=by
 have GW:FnOk P w K mg base CX0 1 fW fdW ["thing"] qH1:=qH2 FW B;refine F.ok scIsStep (λvs H Q E h=>?_) (λcdv A outer s0 H vs Q E hr h=>?_)
 ·obtain⟨t,b,n,tp,rows,s,rfl,_⟩:=h
  rfl
 ·obtain⟨t,b,n,tp,rows,s,rfl,hT,tok,hb,q⟩:=h;have jE:Room 1 _:=hr.mono (by decide);refine seqE ⟨_,⟨qf3 (PW.pt (qk9 (qe7 (qe1 (qa7 qd7 (by rfl) B.isi Zt (qa0 (pv 1) (qa0 (qg4 (v:=.ty "tuple") (by rfl) B.tuple ZE rfl) qa1)))))
   (qk9 (qc4 qC1 (qa7 qa9 (by rfl) B.len ZJ (qa0 (pv 1) qa1)) qa3 (qc6 _))
   (qj0 (qe7 (qe1 (qa7 qd7 (by rfl) B.isi Zt (qa0 (pxN qh8 (pv 1) qa3) (qa0 (qg4 (v:=.ty "str") (by rfl) C.str WF rfl) qa1))))))))) (qa8 (qb0 qj1)) qb5⟩,?_⟩
  refine seqE ⟨_,⟨qf3 (qe7 (qe1 (qa7 (ql7 rfl) (by rfl) B.all YO (qa0 (qf5 ["telling", "thing"] (qa4 qo3) rfl rfl rfl scIsStep.nd (qj9 (qk4 q70 (pv 1) (qn9 qa3) qn8)) (λcl Cc fp s₀ H₀=>pcN GW jE hW FW.kp bW (qa0 (pv 0) qa1))) qa1)))) (qa8 (qb0 qj1)) qb5⟩,?_⟩;refine qi4 ⟨_,⟨qb0 (qm5 (xc9 hr) (pv 1) (pcN GS hr hS FS.kp bS (qa0 (pv 0) qa1)) (by first|exact qc6 _|rfl|decide|with_unfolding_all rfl))⟩,?_⟩;have e2:decide (((qf4 s).length:Int)<2)=false:=by cases s<;>rfl
  have e0:atI (qf4 s) 0=some (.str (qg0 s)):=by cases s<;>rfl
  have ec:cutV (qf4 s) (some 1) none=vN (qf1 s):=by cases s<;>rfl
  have el:(qf1 s).length<=2:=by cases s<;>simp[qf1]
  have ew:¬(HT.sIx (qf4 s).length 0 (some 1)=0/\HT.sIx (qf4 s).length (qf4 s).length none=(qf4 s).length):=by
   intro z;have h1:=z.1;cases s with
   |gone k=>exact absurd (show HT.sIx 2 0 (some 1)=0 from h1) (by decide)
   |plain k=>exact absurd (show HT.sIx 2 0 (some 1)=0 from h1) (by decide)
   |same k j=>exact absurd (show HT.sIx 3 0 (some 1)=0 from h1) (by decide)
  refine⟨_,rfl,_,_,_,_,true,rfl,rfl,.inl (.tup hb),rfl,_,rfl,iteF ⟨_,rfl,b,_,rfl,.inr (SqT.of hb),_,_,rfl,rfl,_,rfl,?_⟩⟩;rw[e2];refine iteF ⟨_,rfl,b,_,0,.str (qg0 s),rfl,rfl,SqT.of hb,e0,_,_,_,_,true,rfl,rfl,.inl (.str _),rfl,_,rfl,iteF ?_⟩;refine⟨_,rfl,_,rfl,b,_,rfl,SqT.of hb,λz=>absurd z ew,λu hu=>?_⟩;rw[ec];have hu1:upd H u (.tup (vN (qf1 s))) u=some (.tup (vN (qf1 s))):=qa2;have s1:Same H (upd H u (.tup (vN (qf1 s)))):=qb2 hu;generalize upd H u (.tup (vN (qf1 s)))=H1 at hu1 s1;refine⟨u,rfl,⟨_,SqT.of hu1⟩,λD hD=>qe6 hD (λ_ z _=>z=.bl true) (qi1 (K:=K) hu1) (by rw[qc2];exact qd2 (by lia)) (λ_ _ _ _ _ _ h=>h) ?_ ?_⟩
  ·intro j x H2 hj hx s2 Q' hq;obtain⟨m,hm,rfl⟩:=ql8 hx;exact⟨_,rfl,(m:Int),rfl,hq _ _ (Same.refl _) rfl⟩
  ·intro ys H2 s2 jG jH jK;have ey:=xa8 jK;rw[ey] at jG;refine⟨D,_,rfl,jG,_,rfl,?_⟩;rw[qR6];refine iteF ?_;have s12:=s1.trans s2;refine⟨_,rfl,_,rfl,t,n,tp,rows,rfl,hT.mono s12.tups,tok,λH3 a s3 ha st3=>?_⟩;obtain⟨xs,hx,hd⟩:=st3.datas;refine⟨a,xs,_,dS s,rfl,hx,hd,qm3 ((s12.trans s3) _ _ hb),xt3 s,qt4 _,ZK (qI7 s) (by decide),?_⟩;rw[xm9];have em:decide (s∈srt (qd8 tp rows))=decide (s∈qd8 tp rows):=by rw[Yw];exact (qj4 _).mem_iff
   rw[em];exact q H3 (s12.trans s3)
theorem xH3:FnScope ["rows", "step"] ["rows", "step"] (qa4 xj4):=qe9
def xt4:Sp:=λvs H Q _=>∃(p b:Addr) (rows:List Row) (s:Stp),vs=[.ref p,.ref b]/\RowsAt H p rows/\qc0 rows/\H b=some (.tup (qf4 s))/\s.at<rows.length/\∀H',Same H H'->Q (.int (nbP rows s:Nat)) H'
theorem xA3 {f:Addr}{fd:FuncData}(F:Fun K "number_behind" "number_behind" xj4 f fd) (T:Cst mg):FnOk P w K mg base CX0 1 f fd ["rows", "step"] xt4:=by
 obtain⟨tf,hf⟩:=T.first;refine F.ok xH3 (λvs H Q E h=>?_) (λcdv A outer s0 H vs Q E hr h=>?_)
 ·obtain⟨p,b,rows,s,rfl,_⟩:=h
  rfl
 ·obtain⟨p,b,rows,s,rfl,hR,ok,hb,hk,q⟩:=h;obtain⟨bs,hp,j9,jA⟩:=id hR;refine seqE ⟨_,⟨qf3 (qc4 xh6 (pxN qh8 (pv 1) qa3) qb7 (qc6 _)) (qa8 (qb0 (qb8 qf9 (pxN qh8 (pv 1) qa3) (qc3 (v:=.int 2) (by rfl) hf ⟨_,rfl⟩)))) qb5⟩,?_⟩;refine qi4 ⟨_,⟨qb0 (pxN qh8 (pxN qh8 (pv 0) (pxN qh8 (pv 1) qa3)) qa3)⟩,?_⟩;have e0:atI (qf4 s) 0=some (.str (qg0 s)):=by cases s<;>rfl
  have low:∀(k:Nat),k<rows.length->atI (qf4 s) 1=some (.int (k:Nat))->Q (.int ((rows.getD k []).getD 0 0:Nat)) H->rIxT K (.ref b) (.int 1) H λy H1=>rIxT K (.ref p) y H1 λz H2=>rIxT K z (.int 0) H2 Q:=λk hk' e1 q'=>by
   have hbk:bs[k]?=some (bs[k]'(by lia)):=by simp[show k<bs.length by lia]
   have hg:=qg5 hk';have jV:=jA k _ _ hbk hg;have r4:=(ok k _ hg).1;have h0:(rows.getD k [])[0]?=some ((rows.getD k []).getD 0 0):=by
    generalize rows.getD k []=r at r4
    match r,r4 with
    |x::_,_=>rfl
   exact⟨b,_,1,.int (k:Nat),rfl,rfl,SqT.of hb,e1,p,_,(k:Int),.ref (bs[k]'(by lia)),rfl,rfl,SqT.of hp,qe3 (by rw[Zd,hbk];rfl),_,_,0,.int ((rows.getD k []).getD 0 0:Nat),rfl,rfl,SqT.of jV,qe3 (j:=0) (q26 h0),q'⟩
  refine⟨_,rfl,b,_,0,.str (qg0 s),rfl,rfl,SqT.of hb,e0,?_⟩;have go:=q H (Same.refl _);refine⟨rfl,_,rfl,?_⟩;have n1:¬V.str "gone" = V.str "same":=λz=>absurd (V.str.inj z) (by decide);have n2:¬V.str "plain" = V.str "same":=λz=>absurd (V.str.inj z) (by decide);cases s with
  |gone k=>
   show if decide (V.str "gone" = V.str "same")=true then _ else _
   rw[Zk n1];exact iteF ⟨_,rfl,_,rfl,low k hk rfl go⟩
  |plain k=>
   show if decide (V.str "plain" = V.str "same")=true then _ else _
   rw[Zk n2];exact iteF ⟨_,rfl,_,rfl,low k hk rfl go⟩
  |same k j=>
   show if decide (V.str "same" = V.str "same")=true then _ else _
   rw[Zi rfl];exact iteT ⟨_,rfl,b,_,2,.int (j:Nat),rfl,rfl,SqT.of hb,rfl,_,_,rfl,rfl,go⟩
theorem scRenumL:FnScope ["row", "numbers"] ["row", "numbers"] (qa4 qn3):=qe9
def qY9:Sp:=λvs H Q _=>∃(b g:Addr) (r:Row) (ns:List Nat),vs=[.ref b,.ref g]/\H b=some (.tup (vN r))/\r.length=4/\H g=some (.lst (vN ns))/\(∀x∈r,x<ns.length) /\
 ∀H' t,Same H H'->H' t=some (.tup (vN (r.map (ns.getD · 0))))->Q (.ref t) H'
theorem xe7 {f:Addr}{fd:FuncData}(F:Fun K "renumbered" "renumbered" qn3 f fd) (B:Blt mg):FnOk P w K mg base CX0 1 f fd ["row", "numbers"] qY9:=by
 refine F.ok scRenumL (λvs H Q E h=>?_) (λcdv A outer s H vs Q E hr h=>?_)
 ·obtain⟨b,g,r,ns,rfl,_⟩:=h
  rfl
 ·obtain⟨b,g,r,ns,rfl,hb,r4,hg,hx,q⟩:=h;refine⟨_,qa8 (qb0 (qd5 qg2 (by rfl) B.tuple ZE (qa0 (qf5 ["row", "numbers"] (qa4 qn3) rfl rfl rfl scRenumL.nd (qj9 (pv 0)) (λcl C fp s₀ H₀=>pxN (ixL K rfl) (pv 2) (pv 0))) qa1))),?_⟩;refine⟨_,rfl,b,rfl,⟨_,SqT.of hb⟩,λD hD=>qe6 hD (λj z _=>∃x,r[j]?=some x/\z=.int (ns.getD x 0:Nat)) (qi1 (K:=K) hb) (by rw[qc2,r4];decide) (λ_ _ _ _ _ _ h=>h) ?_ ?_⟩
  ·intro j x H3 hj hx' s3 Q' hq;obtain⟨m,hm,rfl⟩:=ql8 hx';have jC:=hx m (Zx hm);have hgm:ns[m]?=some (ns.getD m 0):=by rw[ZG,Zf jC];rfl
   exact⟨_,rfl,_,rfl,g,_,(m:Int),.int (ns.getD m 0:Nat),rfl,rfl,SqL.of (s3 _ _ hg),qw3 hgm,hq _ _ (Same.refl _) ⟨m,hm,rfl⟩⟩
  ·intro ys H3 s3 k9 jH jK;have ey:ys=vN (r.map (ns.getD · 0)):=by
    refine qi2 (by rw[jH,qc2,qc2,Zb]) λj x hx=>?_;obtain⟨m,hm,rfl⟩:=jK j x hx;exact q26 (by rw[Zd,hm];rfl)
   subst ey;exact⟨D,_,rfl,.inl ⟨SqL.of k9,λl hl=>q _ l (s3.trans (qb2 hl)) qa2⟩⟩
end
end Pr
namespace L2
open PySem
def Yl (H0:Hp) (σ:St) (R:Hp->V->Prop) (te:TE):Prop:=∀H,Same H0 H->∀Q:VK,(∀v H',Same H H'->R H' v->Q v H')->te σ H Q
def Yls (H0:Hp) (σ:St) (R:Hp->V->Prop):List TE->Prop
 |[]=>True
 |t::ts=>Yl H0 σ R t/\Yls H0 σ R ts
theorem qZ0 {H0:Hp}{σ:St}{R:Hp->V->Prop}(mono:∀H H' v,Same H H'->R H v->R H' v):∀{ts:List TE}{H:Hp},Same H0 H->Yls H0 σ R ts->∀Q:List V->Hp->Prop,(∀vs H',Same H H'->vs.length=ts.length->(∀v∈vs,R H' v)->Q vs H')->tAll ts σ H Q
 |[],H,s,_,Q,h=>h [] H (Same.refl _) rfl λv hv=>nomatch hv
 |t::ts,H,s,y,Q,h=>y.1 H s _ λv H1 s1 r1=>qZ0 mono (s.trans s1) y.2 _ λvs H2 s2 l2 r2=>h _ _ (s1.trans s2) (by rw[ZQ,ZQ,l2]) λx hx=>by
   rcases Zy.mp hx with rfl|hx
   ·exact mono _ _ _ s2 r1
   ·exact r2 x hx
end L2
namespace Pr
open PySem L2
theorem qI8 {xs:List V}{a:Nat}(h:a<=xs.length):cutV xs (some (a:Int)) none=xs.drop a:=by
 unfold cutV;rw[HT.sIx_nat,HT.sIx_none,Vj h,Yv (by rw[YB];exact Ze _)]
theorem xH4 {xs:List V}{a:Nat}(h:a<=xs.length):cutV xs none (some (a:Int))=xs.take a:=by
 unfold cutV;rw[HT.sIx_nat,HT.sIx_none,Vj h,List.drop_zero,Nat.sub_zero]
theorem ql2 {H H':Hp}{p:Addr}{o:HO}(h:H'=H\/H p=none/\H'=upd H p o):Same H H':=by
 rcases h with rfl|⟨h,rfl⟩
 ·exact Same.refl _
 ·exact qb2 h
end Pr
namespace L2
open PySem
section
variable {X:Cx}
variable {o e:Expr}{es:List Expr}{to:TE}{t:TA}{name:Str}{apos cpos:Pos}{id:String}{r:V->List V->Hp->VK->Prop}
end
end L2
namespace L2
open PySem PySem.Spec PyProof.Rows
theorem qq8 {prog:Program}{w:World}{A:Around}{E:Value->Shared->Prop}{s:Shared}{t sl:Addr}{items:Array Value}{vl vu:Value}{lo hi:Option Int}{Q:Value->Shared->Prop}(ht:IsTup s.heap t items) (hs:s.heap.IsSliceOf sl vl vu .none) (pl:IsPart vl lo) (pu:IsPart vu hi)
  (h0:HT.sIx items.size 0 lo=0) (h1:HT.sIx items.size items.size hi=items.size) (h:Q (.ref t) s):wpAny (model prog w) A (getItem (.ref t) (.ref sl)) Q E s:=by
 obtain⟨os,kW,wF,vA⟩:=id hs;have hTs:s.TypeIs (.ref sl) "slice":=⟨os,kW,wF⟩;unfold getItem
 try with_reducible refine YR ?_
 first|refine Za (Zm ?_)|skip
 refine Za (wpAny_sequenceKey ht.typeIs (by decide) ?_);refine Za (Yc (name:=Str.ofString "__getitem__") ht.typeIs Z8
  (YC Z8 ht.typeIs entry_tuple_getitem ?_ (args_tuple_getitem _ _)))
 show wpAny _ _ (Builtin.Tuple.tupleItemsOf (.ref t) >>= _) _ _ s;refine Za (tupleItemsOf_ ht ?_);refine Za (Vg hTs ?_);rw[Zr (by decide)];refine Za (HT.sliceApplied_gen hs pl pu ?_);show wpAny _ _ (if (((HT.sIx items.size 0 lo:Nat):Int)==0&&(1:Int)==1&&(HT.sIx items.size items.size hi-HT.sIx items.size 0 lo)==items.size)=true then _ else _) _ _ s;rw[Zr (by rw[h0,h1];simp)];refine Za ?_;unfold Builtin.Tuple.tupleIsExact;refine Za (Vg ht.typeIs ?_);refine Zm ?_;rw[Zr (by decide)];refine Za (Y1 ?_);exact Zm ⟨_,rfl,Zm h⟩
section
variable {X:Cx}
def rSlW (K:PySem.W.Frag):V->Option Int->Option Int->Hp->VK->Prop:=λx lo hi H Q=>∃a xs,x=.ref a/\SqT K H a xs/\HT.sIx xs.length 0 lo=0/\HT.sIx xs.length xs.length hi=xs.length/\Q (.ref a) H
theorem xA4:SlR X (rSlW X.K):=by
 intro j8 s σ H x v vl vu lo hi sl Q I rx hs pl pu h;obtain⟨a,xs,rfl,hx,h0,h1,q⟩:=h;cases rx;obtain⟨its,r,ht,hz⟩:=I.tuple hx;have j9:its.toArray.size=xs.length:=by rw[ZA];exact r.length.symm
 refine⟨"tuple",_,Z8.lookup,ht.typeIs,?_⟩;exact qq8 ht hs pl pu (by rw[j9];exact h0) (by rw[j9];exact h1) ⟨.ref a,H,I,rfl,q⟩
theorem qv5:SlR X (λx lo hi H Q=>∃a xs,x=.ref a/\H a=some (.tup xs)/\∀p H',H' p=some (.tup (cutV xs lo hi))->(H'=H\/H p=none/\H'=upd H p (.tup (cutV xs lo hi)))->Q (.ref p) H'):=by
 intro j8 s σ H x v vl vu lo hi sl Q I rx hs pl pu h;obtain⟨a,xs,ex,ha,q⟩:=h;by_cases hc:HT.sIx xs.length 0 lo=0/\HT.sIx xs.length xs.length hi=xs.length
 ·refine xA4 j8 s σ H x v vl vu lo hi sl Q I rx hs pl pu ⟨a,xs,ex,SqT.of ha,hc.1,hc.2,q a H ?_ (.inl rfl)⟩;have:cutV xs lo hi=xs:=by unfold cutV;rw[hc.1,hc.2];simp
  rw[this];exact ha
 ·exact q70 j8 s σ H x v vl vu lo hi sl Q I rx hs pl pu ⟨a,xs,ex,SqT.of ha,hc,λp hp=>q p _ qa2 (.inr ⟨hp,rfl⟩)⟩
theorem xn9:OpR X (binaryOp .Add) (λx y H Q=>∃a b ys,x=.ref a/\y=.ref b/\H a=some (.tup [])/\H b=some (.tup ys)/\Q (.ref b) H):=by
 intro j8 s σ H x y v u Q I rx ry h;obtain⟨a,b,ys,rfl,rfl,ha,hb,q⟩:=h;cases rx;cases ry;obtain⟨its,r1,p1,_⟩:=I.tuple (SqT.of ha);obtain⟨its2,r2,p2,_⟩:=I.tuple (SqT.of hb);cases r1;obtain⟨⟨cls,dd,data,sl⟩,ho,hc,n,hd⟩:=id p1;obtain⟨⟨cls2,dd2,data2,sl2⟩,wA,kK,n2,jG⟩:=id p2;simp only at hc hd kK jG;subst hc hd kK jG;exact concat_meets ⟨_,ho,rfl⟩ ⟨_,wA,rfl⟩ noFill_tuple_add seq_tuple_add Wu Wn (X9 _ _)
   (tuple_addW0 a b #[] its2.toArray n n2 dd dd2 sl sl2 rfl) ⟨ho,wA,⟨.ref b,H,I,rfl,q⟩⟩
theorem qf6:OpR X (binaryOp .Add) (λx y H Q=>∃a b xs ys,x=.ref a/\y=.ref b/\H a=some (.tup xs)/\H b=some (.tup ys)/\xs.length+ys.length<=sizeLine /\
  ∀p H',H' p=some (.tup (xs++ys))->(H'=H\/H p=none/\H'=upd H p (.tup (xs++ys)))->Q (.ref p) H'):=by
 intro j8 s σ H x y v u Q I rx ry h;obtain⟨a,b,xs,ys,ex,ey,ha,hb,hz,q⟩:=h;by_cases hx:xs=[]
 ·subst hx;exact xn9 j8 s σ H x y v u Q I rx ry ⟨a,b,ys,ex,ey,ha,hb,q b H hb (.inl rfl)⟩
 ·refine xu8 j8 s σ H x y v u Q I rx ry ⟨a,b,xs,ys,ex,ey,SqT.of ha,SqT.of hb,hx,hz,λe=>?_,λ_ p hp=>q p _ qa2 (.inr ⟨hp,rfl⟩)⟩;subst e;exact q a H (by rw[YK];exact ha) (.inl rfl)
end
end L2
namespace Pr
open PySem L2 Qf
theorem xe8 (a b:List Nat):vN a++vN b=vN (a++b):=by unfold vN;rw[Z0]
theorem RowsAt.left {H:Hp}{p:Addr}{rows:List Row}{bs:List Addr}{k:Nat}(jA:∀(i:Nat) b r,bs[i]?=some b->rows[i]?=some r->H b=some (.tup (vN r))) (hl:bs.length=rows.length)
  (hp:H p=some (.tup ((bs.map V.ref).take k++(bs.map V.ref).drop (k+1)))):∃cs:List Addr,H p=some (.tup (cs.map V.ref))/\cs.length=(qn6 k rows).length/\∀(i:Nat) b r,cs[i]?=some b->(qn6 k rows)[i]?=some r->H b=some (.tup (vN r)):=by
 refine⟨bs.take k++bs.drop (k+1),by rw[Z0,List.map_take,List.map_drop];exact hp,by unfold qn6;simp[hl],λi b r e1 e2=>?_⟩;unfold qn6 at e2;by_cases c:i<(bs.take k).length
 ·rw[Zg c] at e1;have c2:i<(rows.take k).length:=by simp at c ⊢;lia
  rw[Zg c2] at e2;have hk:i<k:=by simp at c;lia
  rw[Yj hk] at e1 e2;exact jA i b r e1 e2
 ·rw[Zh (by lia)] at e1;have c2:(rows.take k).length=(bs.take k).length:=by simp[hl]
  rw[Zh (by lia),c2] at e2;rw[W3] at e1 e2;exact jA _ b r e1 e2
section
variable {P:Program}{w:World}{K:PySem.W.Frag}{mg:Str->Option Value}{base:Heap}
abbrev nStp:List Str:=["telling", "step", "n", "top", "rows", "k", "numbers", "left"]
theorem scStepped:FnScope nStp ["telling", "step"] (qa4 qp0):=qe9
def qO9:Sp:=λvs H Q _=>∃(t b:Addr) (n tp:Nat) (rows:List Row) (s:Stp),vs=[.ref t,.ref b]/\TellAt H t n tp rows/\qh7 n tp rows/\H b=some (.tup (qf4 s))/\s∈qd8 tp rows /\
 ∀H' t',Same H H'->TellAt H' t' n (ren s.at (nbP rows s) tp) (qI4 s.at (nbP rows s) rows)->Q (.ref t') H'
theorem q41 {f fW fI fN fR:Addr}{fd fdW fdI fdN fdR:FuncData}(F:Fun K "stepped" "stepped" qp0 f fd) (B:Blt mg) (T:Cst mg)
  (hW:mg "want_telling" = some (.ref fW)) (FW:Fun K "want_telling" "want_telling" ql0 fW fdW) (bW:Binds K fdW ["telling"] []) (GW:FnOk P w K mg base CX0 6 fW fdW ["telling"] qy1)
  (hI:mg "is_step" = some (.ref fI)) (FI:Fun K "is_step" "is_step" qo3 fI fdI) (bI:Binds K fdI ["telling", "thing"] []) (GI:FnOk P w K mg base CX0 8 fI fdI ["telling", "thing"] qY8)
  (hN:mg "number_behind" = some (.ref fN)) (FN:Fun K "number_behind" "number_behind" xj4 fN fdN) (bN:Binds K fdN ["rows", "step"] [])
  (hR:mg "renumbered" = some (.ref fR)) (FR:Fun K "renumbered" "renumbered" qn3 fR fdR) (bR:Binds K fdR ["row", "numbers"] []):FnOk P w K mg base CX0 9 f fd ["telling", "step"] qO9:=by
 have GN:FnOk P w K mg base CX0 1 fN fdN ["rows", "step"] xt4:=xA3 FN T;have GR:FnOk P w K mg base CX0 1 fR fdR ["row", "numbers"] qY9:=xe7 FR B;obtain⟨tf,hf⟩:=T.first;refine F.ok scStepped (λvs H Q E h=>?_) (λcdv A outer s0 H vs Q E hr h=>?_)
 ·obtain⟨t,b,n,tp,rows,s,rfl,_⟩:=h
  rfl
 ·obtain⟨t,b,n,tp,rows,s,rfl,hT,tok,hb,hs,q⟩:=h;have jE:Room 1 _:=hr.mono (by decide);have w6:Room 6 _:=hr.mono (by decide);refine seqE ⟨_,⟨qd3 (pcN GW w6 hW FW.kp bW (qa0 (pv 0) qa1))⟩,?_⟩;refine seqE ⟨_,⟨qf3 (qe7 (qe1 (pcN GI hr hI FI.kp bI (qa0 (pv 0) (qa0 (pv 1) qa1))))) qf8 qb5⟩,?_⟩;refine seqE ⟨_,⟨qp7 (pv 0) (qn7 rfl (qb6 (pgN 2 scStepped.nd) (qb6 (pgN 3 scStepped.nd) (qb6 (pgN 4 scStepped.nd) qj8))))⟩,?_⟩;refine seqE ⟨_,⟨psN 5 scStepped.nd (pxN qh8 (pv 1) qa3)⟩,?_⟩;refine seqE ⟨_,⟨psN 6 scStepped.nd (PEb.go ⟨qb8 ql6 (PEb.go ⟨qb8 ql6 (PEb.go ⟨qd5 (q21 rfl) (by rfl) B.list Y5 (qa0 (qd5 qL4 (by rfl) B.range PyProof.Rows.boot_range (qa0 (qb8 qf9 (pv 5) (qc3 (v:=.int 2) (by rfl) hf ⟨_,rfl⟩)) qa1)) qa1)⟩)
   (qd1 (qa0 (pcN GN jE hN FN.kp bN (qa0 (pv 4) (qa0 (pv 1) qa1))) qa1))⟩)
   (PEb.go ⟨qd5 (qS7 rfl) (by rfl) B.list Y5 (qa0 (qd5 qN9 (by rfl) B.range PyProof.Rows.boot_range (qa0 (qb8 qf9 (pv 5) (qc3 (v:=.int 2) (by rfl) hf ⟨_,rfl⟩)) (qa0 (qb8 qf9 (qa7 qa9 (by rfl) B.len ZJ (qa0 (pv 4) qa1)) qa3) qa1))) qa1)⟩)⟩)⟩,?_⟩
  refine seqE ⟨_,⟨psN 7 scStepped.nd (PEb.go ⟨qb8 qf6 (qk4 qv5 (pv 4) qn8 (qn9 (pv 5))) (qk4 qv5 (pv 4) (qn9 (qb8 qf9 (pv 5) qa3)) qn8)⟩)⟩,?_⟩;refine qi4 ⟨_,⟨qb0 (qf0 (Ars2.go (.cons ⟨pv 2⟩ (.cons ⟨pxN qe4 (pv 6) (pv 3)⟩ (.cons ⟨qd5 qg2 (by rfl) B.tuple ZE (qa0 (qf5 nStp (qa4 qp0) rfl rfl rfl scStepped.nd (qj9 (pv 7)) (λcl C fp s₀ H₀=>pcN GR jE hR FR.kp bR (qa0 (pv 0) (qa0 (pv 7) qa1)))) qa1)⟩ .nil rfl) rfl) rfl)))⟩,?_⟩;refine⟨_,rfl,t,n,tp,rows,rfl,hT,tok,λH1 s1=>?_⟩;refine⟨_,rfl,_,rfl,t,b,n,tp,rows,s,rfl,hT.mono s1.tups,tok,s1 _ _ hb,λH2 s2=>⟨_,rfl,?_⟩⟩;rw[Zi hs];refine iteF ?_;have S2:=s1.trans s2;obtain⟨p,ht,wI⟩:=id hT;obtain⟨bs,hp,j9,jA⟩:=id wI;have jJ:(bs.map V.ref).length=rows.length:=by rw[Zb];exact j9
  have hk:=xK6 hs;obtain⟨c1,ok,c3,c4,c5⟩:=tok;have e1:atI (qf4 s) 1=some (.int (s.at:Nat)):=by cases s<;>rfl
  refine⟨_,rfl,t,_,rfl,SqT.of (S2 _ _ ht),rfl,_,_,rfl,_,_,rfl,_,_,rfl,rfl,?_⟩;refine⟨_,rfl,b,_,1,.int (s.at:Nat),rfl,rfl,SqT.of (S2 _ _ hb),e1,?_⟩;generalize hkk:s.at=k at hk q e1;generalize hnn:nbP rows s=nb at q;refine⟨_,rfl,_,_,rfl,rfl,_,rfl,λr1 hr1'=>⟨r1,k+2,rfl,qa2,by lia,λl1 hl1=>?_⟩⟩;have S3:=(S2.trans (qb2 (o:=.rng 0 ((k:Int)+2)) hr1')).trans (qb2 (o:=.lst ((List.range (k+2)).map λ(i:Nat)=>V.int (i:Int))) hl1);have h3:upd (upd H2 r1 (.rng 0 ((k:Int)+2))) l1 (.lst ((List.range (k+2)).map λ(i:Nat)=>V.int (i:Int))) l1=some (.lst (vN (List.range (k+2)))):=qa2;refine (λ(go:∀H3,Same H H3->H3 l1=some (.lst (vN (List.range (k+2))))->_)=>go _ S3 h3) ?_;intro H3 S3 h3;refine⟨_,rfl,_,rfl,p,b,rows,s,rfl,wI.same S3,ok,S3 _ _ hb,by rw[hkk];exact hk,λH4 s4=>⟨(by show 1<=sizeLine;decide),λl2 k8=>?_⟩⟩;rw[hnn];have S5:=(S3.trans s4).trans (qb2 (o:=.lst [.int (nb:Nat)]) k8);have h5:=qc5 (u:=.lst [.int (nb:Nat)]) (s4 _ _ h3) k8;have h5b:upd H4 l2 (.lst [.int (nb:Nat)]) l2=some (.lst (vN [nb])):=qa2;refine (λ(go:∀H5,Same H H5->H5 l1=some (.lst (vN (List.range (k+2))))->H5 l2=some (.lst (vN [nb]))->_)=>go _ S5 h5 h5b) ?_;intro H5 S5 h5 h5b;refine⟨l1,l2,_,_,rfl,rfl,h5,h5b,by rw[qc2,qc2];simp only[Xf,XB];exact ZX (qd2 (by lia)),λl3 vO=>?_⟩;rw[xe8];have S6:=S5.trans (qb2 (o:=.lst (vN (List.range (k+2)++[nb]))) vO);have h6:upd H5 l3 (.lst (vN (List.range (k+2)++[nb]))) l3=some (.lst (vN (List.range (k+2)++[nb]))):=qa2;refine (λ(go:∀H6,Same H H6->H6 l3=some (.lst (vN (List.range (k+2)++[nb])))->_)=>go _ S6 h6) ?_;intro H6 S6 h6;have er:HO.rng ((k:Int)+2) (((bs.map V.ref).length:Int)+1)=HO.rng ((k+2:Nat):Int) ((k+2+(rows.length+1-(k+2)):Nat):Int):=by
   rw[jJ];congr 1;lia
  refine⟨_,rfl,_,_,rfl,rfl,_,rfl,p,_,rfl,.inr (SqT.of (S6 _ _ hp)),_,_,rfl,rfl,_,_,rfl,λr2 kC=>?_⟩;rw[er];refine⟨r2,k+2,rows.length+1-(k+2),rfl,qa2,by lia,λl4 vV=>?_⟩;have e4:((List.range (rows.length+1-(k+2))).map λ(i:Nat)=>V.int ((k+2+i:Nat):Int))=vN ((List.range (rows.length+1-(k+2))).map (k+2+·)):=by unfold vN;rw[Yp];rfl
  rw[e4];have S7:=(S6.trans (qb2 (o:=.rng ((k+2:Nat):Int) ((k+2+(rows.length+1-(k+2)):Nat):Int)) kC)).trans (qb2 (o:=.lst (vN ((List.range (rows.length+1-(k+2))).map (k+2+·)))) vV);have h7:=qc5 (u:=.lst (vN ((List.range (rows.length+1-(k+2))).map (k+2+·)))) (qc5 (u:=.rng ((k+2:Nat):Int) ((k+2+(rows.length+1-(k+2)):Nat):Int)) h6 kC) vV;have h7b:upd (upd H6 r2 (.rng ((k+2:Nat):Int) ((k+2+(rows.length+1-(k+2)):Nat):Int))) l4 (.lst (vN ((List.range (rows.length+1-(k+2))).map (k+2+·)))) l4=some (.lst (vN ((List.range (rows.length+1-(k+2))).map (k+2+·)))):=qa2;refine (λ(go:∀H7,Same H H7->H7 l3=some (.lst (vN (List.range (k+2)++[nb])))->H7 l4=some (.lst (vN ((List.range (rows.length+1-(k+2))).map (k+2+·))))->_)=>go _ S7 h7 h7b) ?_;intro H7 S7 h7 h7b;refine⟨l3,l4,_,_,rfl,rfl,h7,h7b,by rw[qc2,qc2];simp only[Zj,Zb,Xf,XB];exact ZX (qd2 (by lia)),λl5 vU=>?_⟩;rw[xe8,xz1 hk];have S8:=S7.trans (qb2 (o:=.lst (vN ((List.range (rows.length+2)).map (ren k nb)))) vU);have h8:upd H7 l5 (.lst (vN ((List.range (rows.length+2)).map (ren k nb)))) l5=some (.lst (vN ((List.range (rows.length+2)).map (ren k nb)))):=qa2;refine (λ(go:∀H8,Same H H8->H8 l5=some (.lst (vN ((List.range (rows.length+2)).map (ren k nb))))->_)=>go _ S8 h8) ?_;intro H8 S8 h8;have get:∀x,x<rows.length+2->((List.range (rows.length+2)).map (ren k nb)).getD x 0=ren k nb x:=λx hx=>by
   rw[ZG,Zd,Z5 hx];rfl
  have gat:∀x,x<rows.length+2->((List.range (rows.length+2)).map (ren k nb))[x]?=some (ren k nb x):=λx hx=>by
   rw[Zd,Z5 hx];rfl
  refine⟨_,rfl,_,rfl,_,rfl,p,_,rfl,S8 _ _ hp,λu1 H9 hu1 o1=>?_⟩;rw[xH4 (by rw[jJ];lia)] at hu1;have S9:=S8.trans (ql2 o1);have h9:=(ql2 o1) _ _ h8;refine⟨_,rfl,_,rfl,_,_,rfl,rfl,_,rfl,p,_,rfl,S9 _ _ hp,λu2 HA kU o2=>?_⟩;have ecut:cutV (bs.map V.ref) (some ((k:Int)+1)) none=(bs.map V.ref).drop (k+1):=by
   have:=qI8 (xs:=bs.map V.ref) (a:=k+1) (by rw[jJ];lia)
   rwa [show ((k+1:Nat):Int)=(k:Int)+1 by lia] at this
  rw[ecut] at kU;have SA:=S9.trans (ql2 o2);have hA5:=(ql2 o2) _ _ h9;have hu1A:=(ql2 o2) _ _ hu1;refine⟨u1,u2,_,_,rfl,rfl,hu1A,kU,by rw[ZW,YB,jJ];exact ZX (qd2 (by lia)),λu3 HB w5 o3=>?_⟩;have SB:=SA.trans (ql2 o3);have hB5:=(ql2 o3) _ _ hA5;obtain⟨cs,wF,hcl,hcr⟩:=RowsAt.left (H:=HB) (p:=u3) (rows:=rows) (bs:=bs) (k:=k) (λi c r e1 e2=>SB _ _ (jA i c r e1 e2)) j9 w5;have hll:=xm2 hk;refine⟨_,rfl,_,rfl,_,rfl,l5,_,(tp:Int),.int (ren k nb tp:Nat),rfl,rfl,SqL.of hB5,qw3 (gat tp c4),?_⟩;have xlt:∀(i:Nat) r,(qn6 k rows)[i]?=some r->r.length=4/\∀x∈r,x<rows.length+2:=λi r e=>by
   by_cases c:i<k
   ·rw[xy8 hk c] at e;have rk:=ok _ _ e;exact⟨rk.1,λx hx=>by have:=rk.2 x hx;lia⟩
   ·rw[xy9 hk (by lia)] at e;have rk:=ok _ _ e;have hi:=(gS_ e).1;exact⟨rk.1,λx hx=>by have:=rk.2 x hx;lia⟩
  have hclb:(cs.map V.ref).length=(qn6 k rows).length:=by rw[Zb];exact hcl
  refine⟨_,rfl,u3,rfl,⟨_,SqT.of wF⟩,λD hD=>qe6 hD (λj z H3=>∃c r,z=.ref c/\(qn6 k rows)[j]?=some r/\H3 c=some (.tup (vN (r.map (ren k nb))))) (qi1 (K:=K) wF) (by rw[hclb,hll];exact qd2 (by lia)) (λj z H1 H2 _ tk ⟨c,r,h1,h2,h3⟩=>⟨c,r,h1,h2,tk _ _ h3⟩) ?_ ?_⟩
  ·intro j x HC hj hx sC Q' hq;rw[Zd] at hx;obtain⟨c,hc,rfl⟩:=Zw.mp hx;have vP:j<(qn6 k rows).length:=by rw[<- hcl];exact (gS_ hc).1
   have hg:(qn6 k rows)[j]?=some (qn6 k rows)[j]:=Zf vP;obtain⟨x4,xl⟩:=xlt j _ hg;refine⟨_,rfl,_,rfl,c,l5,_,_,rfl,sC _ _ (hcr j c _ hc hg),x4,sC _ _ hB5,λx hx=>by simpa using xl x hx,λHD d sD hd=>hq _ _ sD ⟨d,_,rfl,hg,?_⟩⟩;rw[hd];congr 3;exact Ym λx hx=>get x (xl x hx)
  ·intro ys HC sC hdC jH jK;rw[hclb] at jH;obtain⟨ds,rfl⟩:=xF8 (ys:=ys) λj y hy=>by
    obtain⟨c,r,z,_⟩:=jK j y hy;exact⟨c,z⟩
   refine⟨D,_,rfl,.inl ⟨SqL.of hdC,λl hl=>⟨(by show 3<=sizeLine;decide),λt' ht'=>?_⟩⟩⟩;have SE:=((SB.trans sC).trans (qb2 (o:=.tup (ds.map V.ref)) hl)).trans (qb2 (o:=.tup [.int (n:Nat),.int (ren k nb tp:Nat),.ref l]) ht');refine q _ t' SE ⟨l,qa2,ds,qc5 qa2 ht',?_,λi c r e1 e2=>?_⟩
   ·rw[Zb] at jH;unfold qI4;rw[Zb,jH]
   ·obtain⟨c',r',e3,e4,e5⟩:=jK i (.ref c) (by rw[Zd,e1];rfl);cases e3;rw[xm3,e4] at e2;cases e2;exact qc5 (qc5 e5 hl) ht'
end
end Pr
namespace Qf
open Tr
theorem qZ1 {rows:List Row}{L:List Tr}(h:qE4 L):∀i,qE4 (insG rows L i)
 |0=>h
 |i+1=>xz8 (qZ1 h i) (qE5 _)
end Qf
namespace Pr
open PySem L2 Qf
section
variable {P:Program}{w:World}{K:PySem.W.Frag}{mg:Str->Option Value}{base:Heap}
abbrev xL4:List Str:=["telling", "n", "top", "rows", "book", "numbers"]
theorem scOneT:FnScope xL4 ["telling"] (qa4 xa2):=qe9
def xH5:Sp:=λvs H Q _=>∃(t:Addr) (n tp:Nat) (rows:List Row),vs=[.ref t]/\TellAt H t n tp rows/\qh7 n tp rows /\
 ∀H' t',Same H H'->TellAt H' t' n (cTop (Qf.TR rows tp)) (xz9 (Qf.TR rows tp))->(xz9 (Qf.TR rows tp)).length<=rows.length->Q (.ref t') H'
theorem xA5 {f fW fB fS fNs C:Addr}{fd fdW fdB fdS fdNs:FuncData}(F:Fun K "one_telling" "one_telling" xa2 f fd) (TB:BookIn K mg C)
  (hW:mg "want_telling" = some (.ref fW)) (FW:Fun K "want_telling" "want_telling" ql0 fW fdW) (bW:Binds K fdW ["telling"] []) (GW:FnOk P w K mg base CX0 6 fW fdW ["telling"] qy1)
  (MB:Mk K C fB) (FB:Fun K "__init__" "Book.__init__" qG5 fB fdB) (bB:Binds K fdB ["self"] [])
  (MN:Meth K C "numbers_for" fNs) (FNs:Fun K "numbers_for" "Book.numbers_for" qG6 fNs fdNs) (bNs:Binds K fdNs ["self", "rows"] []) (GN:FnOk P w K mg base CX0 4 fNs fdNs ["self", "rows"] (xA2 C))
  (hS:mg "shape_of" = some (.ref fS)) (FS:Fun K "shape_of" "shape_of" qx3 fS fdS) (bS:Binds K fdS ["n", "top", "rows"] []) (GS:FnOk P w K mg base CX0 15 fS fdS ["n", "top", "rows"] spSO) :
  FnOk P w K mg base CX0 16 f fd ["telling"] xH5:=by
 have GB:FnOk P w K mg base CX0 1 fB fdB ["self"] (xG6 C):=xG7 FB TB;refine F.ok scOneT (λvs H Q E h=>?_) (λcdv A outer s H vs Q E hr h=>?_)
 ·obtain⟨t,n,tp,rows,rfl,_⟩:=h
  rfl
 ·obtain⟨t,n,tp,rows,rfl,hT,tok,q⟩:=h;have kC:Room 2 _:=hr.mono (by decide);have hr4:Room 4 _:=hr.mono (by decide);have w6:Room 6 _:=hr.mono (by decide);refine seqE ⟨_,⟨qd3 (pcN GW w6 hW FW.kp bW (qa0 (pv 0) qa1))⟩,?_⟩;refine seqE ⟨_,⟨qp7 (pv 0) (qn7 rfl (qb6 (pgN 1 scOneT.nd) (qb6 (pgN 2 scOneT.nd) (qb6 (pgN 3 scOneT.nd) qj8))))⟩,?_⟩;refine seqE ⟨_,⟨psN 4 scOneT.nd (xi0 MB GB kC (by rfl) TB.mgC bB .nil xi3)⟩,?_⟩;refine seqE ⟨_,⟨psN 5 scOneT.nd (q66 (pv 4) TB.cl MN GN hr4 bNs .nil xi3 (qa0 (pv 3) qa1))⟩,?_⟩;refine qi4 ⟨_,⟨qb0 (pcN GS hr hS FS.kp bS (Ars2.go (.cons ⟨pv 1⟩ (.cons ⟨pxN qe4 (pv 5) (pv 2)⟩ (.cons ⟨qD2 (pv 4) rfl⟩ .nil rfl) rfl) rfl)))⟩,?_⟩;refine⟨_,rfl,t,n,tp,rows,rfl,hT,tok,λH1 s1=>?_⟩;obtain⟨rp,ht,hR⟩:=hT.mono s1.tups;obtain⟨hn,ok,hl,jW,hd⟩:=tok;refine⟨_,rfl,t,_,rfl,SqT.of ht,rfl,_,_,rfl,_,_,rfl,_,_,rfl,rfl,?_⟩;intro b dx hb hdx jS;refine⟨b,dx,rfl,qa2,λkk dd H3 hkk hdd hB3 b3=>⟨rfl,?_⟩⟩;have N1:∀x,upd (upd H1 dx (.own b)) b (.ins C dx []) x=none->H1 x=none:=λx e=>by
   have n1:x≠b:=λz=>by rw[z,qa2] at e;cases e
   rw[qa6 n1] at e;have n2:x≠dx:=λz=>by rw[z,qa2] at e;cases e
   rw[qa6 n2] at e;exact e
  have S3:Same H1 H3:=λx o e=>b3 _ _ (by rw[qa6 (qa5 e hb),qa6 (qa5 e hdx)];exact e) (qa5 e hb);obtain⟨⟨dx3,hob3⟩,_⟩:=id hB3;have hR3:RowsAt H3 rp rows:=hR.mono S3.tups;refine⟨_,rfl,b,dx3,_,rfl,hob3,qY5 _ _ (by decide +kernel) (by decide +kernel),_,rfl,b,kk,dd,rp,[],rows,rfl,hB3,hR3,ok,by simp;lia,λH4 g hg B4 hB4 hg4=>?_⟩;have S4:Same H1 H4:=λx o e=>B4 _ _ (S3 _ _ e) (qa5 e (N1 _ hkk)) (qa5 e (N1 _ hdd));obtain⟨⟨dxb,hb4⟩,hk4,kB,od4⟩:=id hB4;have jO:Tr.In (insG rows [] rows.length) (Qf.TR rows tp):=qo7 rows.length tp jW;have hgt:(nmsG rows [] rows.length)[tp]?=some (Tr.name (insG rows [] rows.length) (Qf.TR rows tp)):=by
   unfold nmsG;rw[Zd,Z5 jW]
   rfl
  obtain⟨e4,he4,vV⟩:=qI6 rows [] rows.length;have hlen4:(insG rows [] rows.length).length<=rows.length:=by rw[he4];simpa using vV
  have kH:qE4 (insG rows [] rows.length):=qZ1 (λt ht=>by cases ht) rows.length;generalize hLL:insG rows [] rows.length=L at hk4 kB od4 jO hgt hlen4 kH;refine⟨_,rfl,_,rfl,_,rfl,g,_,(tp:Int),.int (Tr.name L (Qf.TR rows tp):Nat),rfl,rfl,SqL.of hg4,qw3 hgt,?_⟩;refine⟨_,rfl,b,C,dxb,_,_,rfl,hb4,TB.cl,TB.nK,qv4 _ _,?_⟩;have hred:Tr.Red (Qf.TR rows tp):=qE5 _;have hdep:Tr.dep (Qf.TR rows tp)<=n:=xH0 ok jW hd;have hxL:Tr.name L (Qf.TR rows tp)<(Tr.rowsOf L).length+2:=by
   rw[Tr.rowsOf_len];rcases Tr.name_in od4 jO with ⟨_,e⟩|⟨_,e⟩|⟨i,hi,e⟩
   ·lia
   ·lia
   ·have:=(gS_ hi).1;lia
  have hL900:(Tr.rowsOf L).length<=1190900:=by
   rw[Tr.rowsOf_len];lia
  have hdpL:dp (Tr.rowsOf L) (Tr.name L (Qf.TR rows tp))<=n:=by rw[qB3 od4 _ jO];exact hdep
  have hokL:=Tr.rowsOf_ok od4;obtain⟨cn2,hT2⟩:=q38 (n:=n) hn hokL hxL hdpL (qC6 od4 kH) (Tr.rowsOf_nodup od4);have hel:=qH3 (qi0 hokL n [] _ (qo9 _) hxL hdpL).1;obtain⟨bs4,hks,hbl4,hrow4⟩:=hk4;refine⟨kk,n,_,Tr.rowsOf L,rfl,⟨bs4,.inr hks,hbl4,hrow4⟩,hokL,hL900,hxL,hn,hdpL,λH5 t5 s5 tell=>?_⟩;obtain⟨g1,g2⟩:=xA0 cn2;have e3:Qf.TR (told (Tr.rowsOf L) (dfs (Tr.rowsOf L) n [] (Tr.name L (Qf.TR rows tp)))) (nm (dfs (Tr.rowsOf L) n [] (Tr.name L (Qf.TR rows tp))) (Tr.name L (Qf.TR rows tp)))=Qf.TR rows tp:=by
   show rd (T _ _)=_;rw[hT2,qO2 od4 _ jO];exact q40 hred
  rw[e3] at g1 g2;rw[Tr.rowsOf_len] at hel;have jC:=Yr List.length g2;rw[qh5] at jC;rw[g1,g2] at tell;exact q H5 t5 (s1.trans (S4.trans s5)) tell (by lia)
end
theorem q42:(List.range 1000).all (λx=>decide ((PyData.shown (.int ((x:Nat):Int))).length<=3))=true:=by decide +kernel
theorem qZ2 {x:Nat}(h:x<1000):(PyData.shown (.int ((x:Nat):Int))).length<=3:=ZU (Z6.mp q42 x (Z4.mpr h))
theorem qZ3 {x:Nat}(h:x<1000):((x:Nat):Int).natAbs.log2<1920:=by
 rw[Int.natAbs_natCast];have:x.log2<=x:=Nat.log2_le_self x;lia
def Few (ss:List Stp):Prop:=∀s∈ss,∀x∈qf1 s,x<1000
theorem xA6 {n tp:Nat}{rows:List Row}(c:qh7 n tp rows):Few (srt (qd8 tp rows)):=λs hs x hx=>by
 have m:=xd9 ((qj4 _).mem_iff.mp hs);have hl:=c.2.2.1;cases s with
 |gone k=>
  have:x=k:=by simpa [qf1] using hx
  have:=m.1;lia
 |plain k=>
  have:x=k:=by simpa [qf1] using hx
  have:=m.1;lia
 |same k j=>
  have h:x=k\/x=j:=by simpa [qf1] using hx
  obtain⟨m1,m2,_⟩:=m;lia
theorem qE6:∀l:List Nat,(∀x∈l,x<1000)->PyData.leavesShortAll 8 (l.map λn:Nat=>PyData.int (n:Int))=true
 |[],_=>rfl
 |x::l,h=>by
  have e:=qZ2 (h x ZC);show (decide ((PyData.shown (.int ((x:Nat):Int))).length<=8)&&PyData.leavesShortAll 8 (l.map λn:Nat=>PyData.int (n:Int)))=true;rw[Zi (by lia),qE6 l λy hy=>h y (Zs _ hy)];rfl
theorem qP0:∀l:List Nat,PyData.bulkAll (l.map λn:Nat=>PyData.int (n:Int))=l.length
 |[]=>rfl
 |x::l=>by
  show 0+1+PyData.bulkAll (l.map λn:Nat=>PyData.int (n:Int))=l.length+1;rw[qP0 l];lia
theorem qP1:∀l:List Nat,(∀x∈l,x<1000)->PyData.showableAll (l.map λn:Nat=>PyData.int (n:Int))=true
 |[],_=>rfl
 |x::l,h=>by
  show (decide (((x:Nat):Int).natAbs.log2<1920)&&PyData.showableAll (l.map λn:Nat=>PyData.int (n:Int)))=true;rw[qP1 l λy hy=>h y (Zs _ hy),Zi (qZ3 (h x ZC))];rfl
theorem qB5:∀l:List Nat,PyData.hasDictAll (l.map λn:Nat=>PyData.int (n:Int))=false
 |[]=>rfl
 |x::l=>by
  show (false||PyData.hasDictAll (l.map λn:Nat=>PyData.int (n:Int)))=false;rw[qB5 l];rfl
theorem qE7 {s:Stp}(h:∀x∈qf1 s,x<1000):(dS s).leavesShort 8=true/\(dS s).bulk<=8/\(dS s).showable=true/\(dS s).hasDict=false:=by
 have e1:(PyData.str (qg0 s)).leavesShort 8=true/\(PyData.str (qg0 s)).bulk<=5/\(PyData.str (qg0 s)).showable=true:=by
  cases s with
  |gone k=>exact⟨(by decide +kernel:(PyData.str "gone").leavesShort 8=true),(by decide +kernel:(PyData.str "gone").bulk<=5),(by decide +kernel:(PyData.str "gone").showable=true)⟩
  |plain k=>exact⟨(by decide +kernel:(PyData.str "plain").leavesShort 8=true),(by decide +kernel:(PyData.str "plain").bulk<=5),(by decide +kernel:(PyData.str "plain").showable=true)⟩
  |same k j=>exact⟨(by decide +kernel:(PyData.str "same").leavesShort 8=true),(by decide +kernel:(PyData.str "same").bulk<=5),(by decide +kernel:(PyData.str "same").showable=true)⟩
 have el:(qf1 s).length<=2:=by cases s<;>simp[qf1]
 refine⟨?_,?_,?_,?_⟩
 ·show ((PyData.str (qg0 s)).leavesShort 8&&PyData.leavesShortAll 8 ((qf1 s).map λn:Nat=>PyData.int (n:Int)))=true;rw[e1.1,qE6 _ h];rfl
 ·show (PyData.str (qg0 s)).bulk+1+PyData.bulkAll ((qf1 s).map λn:Nat=>PyData.int (n:Int))<=8;rw[qP0];have:=e1.2.1;lia
 ·show ((PyData.str (qg0 s)).showable&&PyData.showableAll ((qf1 s).map λn:Nat=>PyData.int (n:Int)))=true;rw[e1.2.2,qP1 _ h];rfl
 ·show (false||PyData.hasDictAll ((qf1 s).map λn:Nat=>PyData.int (n:Int)))=false;rw[qB5];rfl
def dSs (ss:List Stp):PyData:=.list (ss.map dS)
theorem xe9 (ss:List Stp):(dSs ss).canLay0=true:=qt4 ss
theorem qZ4:∀ss:List Stp,PyData.depthAll (ss.map dS)<=3
 |[]=>by simp[PyData.depthAll]
 |s::ss=>by
  have a:=qZ4 ss;have b:=qI7 s;simp only[ZH,PyData.depthAll];lia
theorem qZ5 (ss:List Stp):(dSs ss).depth<=60:=by
 have:=qZ4 ss;unfold dSs;simp only[PyData.depth];lia
theorem StepsL.data {H:Hp}{p:Addr}{ss:List Stp}(h:StepsL H p ss):DataAt H (.ref p) (dSs ss):=by
 obtain⟨xs,h1,h2⟩:=h.datas;exact .lst h1 h2
theorem StepsL.but {H H':Hp}{p e:Addr}{ss:List Stp}{o:HO}(h:StepsL H p ss) (b:But e H H') (jY:p≠e) (he:H e=some o) (no:∀u,o≠.tup u):StepsL H' p ss:=by
 obtain⟨bs,h1,h2,h3⟩:=h;refine⟨bs,b _ _ h1 jY,h2,λi c s e1 e2=>b _ _ (h3 i c s e1 e2) λz=>?_⟩;have:=h3 i c s e1 e2;rw[z,he] at this;exact no _ (ZD this)
end Pr
namespace L2
open PySem PySem.Spec PyProof.Rows
theorem Fun.ok1 {P:Program}{w:World}{K:PySem.W.Frag}{mg:Str->Option Value}{base:Heap}{x qual:Str}{st:Stmt}{f:Addr}{fd:FuncData}{N ps:List Str}{k:Nat}{sp:Sp}(F:Fun K x qual st f fd) (S:FnScope N ps (qa4 st)) (len:∀vs H Q E,sp vs H Q E->vs.length=ps.length)
  (jZ:∀(cdv:Value) (A:Around) (outer:List Env) (s:Shared) (H:Hp) (vs:List V) (Q:VK) (E:XK),Room k (A.deeper (envOfC qual (qa4 st) s.heap.objs.size f cdv))->sp vs H Q E ->
   ∃t,PSs (cxOf (CX1 P w) P w K mg base N qual (qa4 st) f cdv A outer s H E) (qh2 st) t/\t { nx:=λ_ H'=>Q .non H',rt:=Q } (qp6 N vs) H):FnOk P w K mg base (CX1 P w) (k+1) f fd ps sp:=by
 obtain⟨oc,od,kV,doc,pm,an,cdv,ct,osl,rfl,lk,kP⟩:=F.ex;exact xC6 lk kP S len λA outer s H vs Q E hr kN=>jZ cdv A outer s H vs Q E hr kN
theorem xH6 {P:Program}{w:World}{K:PySem.W.Frag}{mg:Str->Option Value}{base:Heap}{CX:CXT}{k:Nat}{f:Addr}{fd:FuncData}{ps:List Str}{sp:Sp}(F:FnOk P w K mg base CX0 k f fd ps sp):FnOk P w K mg base CX k f fd ps sp:=
 ⟨F.len,λA outer s H args us vs Q E hr he hb hv hs=>Ws (F.run A outer s H args us vs Q E hr he hb hv hs) λr s' h=>by
  cases r with
  |error e=>exact False.elim h
  |ok fl=>cases fl<;>exact h⟩
end L2
namespace Pr
open PySem L2 Qf
def IsTl (d:PyData):Prop:=∃n tp rows,d=qq3 n tp rows/\qh7 n tp rows
theorem xo0 {d:PyData}(bn:Bnd d):IsTl d<->∃n tp rows,TlD d n tp rows/\dp rows tp<=n:=by
 constructor
 ·rintro⟨n,tp,rows,rfl,c1,c2,c3,c4,c5⟩;exact⟨n,tp,rows,⟨rfl,c1,c2,c4⟩,c5⟩
 ·rintro⟨n,tp,rows,⟨rfl,c1,c2,c4⟩,c5⟩;exact⟨n,tp,rows,rfl,c1,c2,qX0 bn,c4,c5⟩
section
variable {P:Program}{w:World}{K:PySem.W.Frag}{mg:Str->Option Value}{base:Heap}
def qt5 (C:Addr):Sp:=λvs H Q E=>∃(v:V) (d:PyData),vs=[v]/\DatX H v d/\Bnd d/\(IsTl d->∀H',Same H H'->Q .non H')/\(¬IsTl d->∀H',Same H H'->E (.ref C) none H')
theorem xf0 {f fS C:Addr}{fd fdS:FuncData}(F:Fun K "want_telling" "want_telling" ql0 f fd) (hC:mg "NoTelling" = some (.ref C)) (hx:PySem.W.excIn K C bmV "ValueError.__new__" = true)
  (hS:mg "is_telling" = some (.ref fS)) (FS:Fun K "is_telling" "is_telling" qm9 fS fdS) (bS:Binds K fdS ["thing"] []) (GS:FnOk P w K mg base CX0 5 fS fdS ["thing"] qu7) :
  FnOk P w K mg base (CX1 P w) 6 f fd ["telling"] (qt5 C):=by
 refine F.ok1 qY1 (λvs H Q E h=>?_) (λcdv A outer s H vs Q E hr h=>?_)
 ·obtain⟨x,d,rfl,_⟩:=h
  rfl
 ·obtain⟨x,d,rfl,hx',bn,q1,q2⟩:=h;refine⟨_,qa8 (qf3 (qe7 (qe1 (pcN GS hr hS FS.kp bS (qa0 (pv 0) qa1)))) (qa8 (qV1 (by rfl) hC hx rfl q83 (qa0 qb7 qa1))) qb5),?_⟩;refine⟨_,rfl,x,d,rfl,hx',bn,λb H' hb s'=>⟨_,rfl,?_⟩⟩;rw[<- xo0 bn] at hb;cases b with
  |true=>exact iteF (q1 (hb.mp rfl) H' s')
  |false=>exact iteT ⟨by decide,q2 (λz=>Bool.noConfusion (hb.mpr z)) H' s'⟩
def xA7 (C:Addr):Sp:=λvs H _ E=>∃(v:V) (d:PyData),vs=[v]/\DatX H v d/\Bnd d/\¬IsTl d/\∀H',Same H H'->E (.ref C) none H'
theorem qS8 {f fW C:Addr}{fd fdW:FuncData}(F:Fun K "steps_of" "steps_of" qn0 f fd)
  (hW:mg "want_telling" = some (.ref fW)) (FW:Fun K "want_telling" "want_telling" ql0 fW fdW) (bW:Binds K fdW ["telling"] []) (GW:FnOk P w K mg base (CX1 P w) 6 fW fdW ["telling"] (qt5 C)) :
  FnOk P w K mg base (CX1 P w) 7 f fd ["telling"] (xA7 C):=by
 refine F.ok1 scStepsOf (λvs H Q E h=>?_) (λcdv A outer s H vs Q E hr h=>?_)
 ·obtain⟨x,d,rfl,_⟩:=h
  rfl
 ·obtain⟨x,d,rfl,hx,bn,no,q⟩:=h;refine seqE ⟨_,⟨qd3 (qq1 GW hr (by rfl) hW FW.kp bW .nil qQ7 (qa0 (pv 0) qa1))⟩,?_⟩;exact⟨_,qf8,_,rfl,x,d,rfl,hx,bn,λz=>(no z).elim,λ_=>q⟩
theorem xf1 {f fW C:Addr}{fd fdW:FuncData}(F:Fun K "one_telling" "one_telling" xa2 f fd)
  (hW:mg "want_telling" = some (.ref fW)) (FW:Fun K "want_telling" "want_telling" ql0 fW fdW) (bW:Binds K fdW ["telling"] []) (GW:FnOk P w K mg base (CX1 P w) 6 fW fdW ["telling"] (qt5 C)) :
  FnOk P w K mg base (CX1 P w) 16 f fd ["telling"] (xA7 C):=by
 refine F.ok1 scOneT (λvs H Q E h=>?_) (λcdv A outer s H vs Q E hr h=>?_)
 ·obtain⟨x,d,rfl,_⟩:=h
  rfl
 ·obtain⟨x,d,rfl,hx,bn,no,q⟩:=h;have w6:Room 6 _:=hr.mono (by decide);refine seqE ⟨_,⟨qd3 (qq1 GW w6 (by rfl) hW FW.kp bW .nil qQ7 (qa0 (pv 0) qa1))⟩,?_⟩;exact⟨_,qf8,_,rfl,x,d,rfl,hx,bn,λz=>(no z).elim,λ_=>q⟩
def qP2 (C:Addr):Sp:=λvs H Q E=>∃(v:V) (d:PyData),vs=[v]/\DatX H v d/\Bnd d/\(IsTl d->∀u H',Same H H'->Q u H')/\(¬IsTl d->∀H',Same H H'->E (.ref C) none H')
theorem xt5 {f C:Addr}{fd:FuncData}{k:Nat}{sp:Sp}(G:FnOk P w K mg base CX0 k f fd ["telling"] sp) (kN:∀t n tp rows H Q E,TellAt H t n tp rows->qh7 n tp rows->(∀u H',Same H H'->Q u H')->sp [.ref t] H Q E) (B:FnOk P w K mg base (CX1 P w) k f fd ["telling"] (xA7 C)) :
  FnOk P w K mg base (CX1 P w) k f fd ["telling"] (qP2 C):=by
 refine (xx4 (xH6 G) B).imp λvs H Q E h=>?_;obtain⟨v,d,rfl,hd,bn,q1,q2⟩:=h;by_cases hT:IsTl d
 ·have q:=q1 hT;obtain⟨n,tp,rows,rfl,tok⟩:=hT;obtain⟨t,rfl,tl⟩:=qx8 hd;exact .inl (kN t n tp rows H Q E tl tok q)
 ·exact .inr ⟨v,d,rfl,hd,bn,hT,q2 hT⟩
end
end Pr
namespace L2
open PySem PySem.Spec PyProof.Rows
def isS:PyData->Bool
 |.str _=>true
 |_=>false
theorem xA8 {K:PySem.W.Frag}(d:PyData):PySem.W.kitOne K (tyD d) (.type "str")=some (isS d):=by cases d<;>rfl
theorem qB6 {H:Hp}:∀{is:List Int}{xs:List V},DatsX H xs (is.map PyData.int)->xs=is.map V.int
 |[],_,.nil=>rfl
 |i::is,_,.cons h r=>by
  cases h;rw[qB6 r]
  rfl
end L2
namespace Pr
open PySem L2 Qf
theorem xf2:∀{ds:List PyData},(∀d∈ds,isI d=true)->∃is:List Int,ds=is.map PyData.int
 |[],_=>⟨[],rfl⟩
 |d::ds,h=>by
  obtain⟨is,e⟩:=xf2 (ds:=ds) λx hx=>h x (Zs _ hx);have h0:=h d ZC;cases d with
  |int i=>exact⟨i::is,by rw[e];rfl⟩
  |_=>cases h0
def dG (x:Str) (is:List Int):PyData:=.tuple (.str x::is.map PyData.int)
theorem q43 (s:Stp):dS s=dG (qg0 s) ((qf1 s).map λn:Nat=>(n:Int)):=by
 unfold dS dG;rw[Yp]
 rfl
theorem xt6 (x y:Str) (is js:List Int):PyData.eqv (dG x is) (dG y js)=decide (x=y/\is=js):=by
 have e:PyData.eqv (dG x is) (dG y js)=(PyData.eqv (.str x) (.str y)&&PyData.eqvAll (is.map PyData.int) (js.map PyData.int)):=rfl;have e1:PyData.eqv (.str x) (.str y)=(x==y):=by simp[PyData.eqv]
 rw[e,e1,qm7,YJ];simp
theorem xt7 {x y:Str}{is js:List Int}:dG x is=dG y js<->x=y/\is=js:=by
 constructor
 ·intro h;have h1:=Ye h;injection h1 with a b
  exact⟨PyData.str.inj a,(Xw (λ_ _ z=>YW z)).mp b⟩
 ·rintro⟨rfl,rfl⟩;rfl
theorem xf3 (ss:List Stp) (x:Str) (is:List Int):((ss.map dS).any λe=>PyData.eqv e (dG x is))=true<->∃s∈ss,dG x is=dS s:=by
 rw[Vd];constructor
 ·rintro⟨e,he,h⟩;obtain⟨s,hs,rfl⟩:=ZO.mp he;rw[q43,xt6,decide_eq_true_iff] at h;exact⟨s,hs,by rw[q43,xt7];exact⟨h.1.symm,h.2.symm⟩⟩
 ·rintro⟨s,hs,h⟩;refine⟨dS s,ZO.mpr ⟨s,hs,rfl⟩,?_⟩;rw[q43,xt7] at h;rw[q43,xt6,decide_eq_true_iff];exact⟨h.1.symm,h.2.symm⟩
theorem layI:∀(a:List Int),PyData.canLayAll0 (a.map PyData.int)=true
 |[]=>by simp[PyData.canLayAll0]
 |x::a=>by
  show (PyData.canLay0 (.int x)&&PyData.canLayAll0 (a.map PyData.int))=true;rw[layI a];simp[PyData.canLay0]
theorem xH7 {x:Str}(h:PyData.strOk x=true) (is:List Int):(dG x is).canLay0=true:=by
 show (PyData.canLay0 (.str x)&&PyData.canLayAll0 (is.map PyData.int))=true;rw[layI];show (PyData.strOk x&&true)=true;rw[h];rfl
theorem xo1 (x:Str) (is:List Int):(dG x is).depth<=50:=by
 have h:=qE2 is;have:(dG x is).depth=1+max (PyData.depth (.str x)) (PyData.depthAll (is.map PyData.int)):=by
  simp[dG,PyData.depth,PyData.depthAll,Nat.add_comm]
 rw[this];have h0:PyData.depth (.str x)<=1:=by simp[PyData.depth]
 lia
def Thn (d:PyData):Prop:=(∀ds,d=.tuple ds->ds.length<=100)/\∀x ds,d=.tuple (.str x::ds)->PyData.strOk x=true
def qC7 (tp:Nat) (rows:List Row) (d:PyData):Prop:=∃s∈qd8 tp rows,d=dS s
section
variable {P:Program}{w:World}{K:PySem.W.Frag}{mg:Str->Option Value}{base:Heap}
def qB7:Sp:=λvs H Q _=>∃(t:Addr) (n tp:Nat) (rows:List Row) (v:V) (d:PyData),vs=[.ref t,v]/\TellAt H t n tp rows/\qh7 n tp rows/\DatX H v d/\Thn d/\∀(b:Bool) H',(b=true<->qC7 tp rows d)->Same H H'->Q (.bl b) H'
theorem q44 {f fW fS:Addr}{fd fdW fdS:FuncData}(F:Fun K "is_step" "is_step" qo3 f fd) (B:Blt mg) (C:Blt2 mg)
  (hW:mg "is_whole" = some (.ref fW)) (FW:Fun K "is_whole" "is_whole" qp8 fW fdW) (bW:Binds K fdW ["thing"] [])
  (hS:mg "steps_of" = some (.ref fS)) (FS:Fun K "steps_of" "steps_of" qn0 fS fdS) (bS:Binds K fdS ["telling"] []) (GS:FnOk P w K mg base CX0 7 fS fdS ["telling"] qB4):FnOk P w K mg base CX0 8 f fd ["telling", "thing"] qB7:=by
 have GW:FnOk P w K mg base CX0 1 fW fdW ["thing"] qx7:=qA4 FW B;refine F.ok scIsStep (λvs H Q E h=>?_) (λcdv A outer s0 H vs Q E hr h=>?_)
 ·obtain⟨t,n,tp,rows,v,d,rfl,_⟩:=h
  rfl
 ·obtain⟨t,n,tp,rows,v,d,rfl,hT,tok,hd,⟨t1,t2⟩,q⟩:=h;have jE:Room 1 _:=hr.mono (by decide);refine seqE ⟨_,⟨qf3 (PW.pt (qk9 (qe7 (qe1 (qa7 qd7 (by rfl) B.isi Zt (qa0 (pv 1) (qa0 (qg4 (v:=.ty "tuple") (by rfl) B.tuple ZE rfl) qa1)))))
   (qk9 (qc4 qC1 (qa7 qa9 (by rfl) B.len ZJ (qa0 (pv 1) qa1)) qa3 (qc6 _))
   (qj0 (qe7 (qe1 (qa7 qd7 (by rfl) B.isi Zt (qa0 (pxN qh8 (pv 1) qa3) (qa0 (qg4 (v:=.ty "str") (by rfl) C.str WF rfl) qa1))))))))) (qa8 (qb0 qj1)) qb5⟩,?_⟩
  refine seqE ⟨_,⟨qf3 (qe7 (qe1 (qa7 (ql7 rfl) (by rfl) B.all YO (qa0 (qf5 ["telling", "thing"] (qa4 qo3) rfl rfl rfl scIsStep.nd (qj9 (qk4 qv5 (pv 1) (qn9 qa3) qn8)) (λcl Cc fp s₀ H₀=>pcN GW jE hW FW.kp bW (qa0 (pv 0) qa1))) qa1)))) (qa8 (qb0 qj1)) qb5⟩,?_⟩;refine qi4 ⟨_,⟨qb0 (qm5 (xc9 hr) (pv 1) (pcN GS hr hS FS.kp bS (qa0 (pv 0) qa1)) (by first|exact qc6 _|rfl|decide|with_unfolding_all rfl))⟩,?_⟩;have no:∀H',(∀x is,d≠dG x is\/is=[])->Same H H'->Q (.bl false) H':=λH' hn s'=>q false H' ⟨(λz=>by cases z),(λ⟨s,_,e⟩=>by
   rw[q43] at e;rcases hn _ _ with z|z
   ·exact absurd e z
   ·cases s<;>cases z)⟩ s'
  refine⟨_,rfl,_,_,_,_,_,rfl,rfl,.inl hd.ty,qs2 d,_,rfl,?_⟩;cases hd with
  |@tup b xs ds hb r=>
   have j9:=r.length;refine iteF ⟨_,rfl,b,_,rfl,.inr (SqT.of hb),_,_,rfl,rfl,_,rfl,?_⟩;by_cases h2:xs.length<2
   ·rw[Zi (show ((xs.length:Nat):Int)<2 by lia)];refine iteT (iteT (no H (λx is=>?_) (Same.refl _)));by_cases e:PyData.tuple ds=dG x is
    ·have:=Ye e;rw[this] at j9;refine .inr (List.eq_nil_of_length_eq_zero ?_);simp at j9;lia
    ·exact .inl e
   ·rw[Zk (show ¬((xs.length:Nat):Int)<2 by lia)]
    match xs,ds,h2,r,hb,j9,t1,t2,q,no with
    |[_],_,h2,_,_,_,_,_,_,_=>exact absurd (by decide:1<2) h2
    |x0::x1::xs,d0::d1::ds,h2,.cons r0 r1,hb,j9,t1,t2,q,no=>
     refine iteF ⟨_,rfl,b,_,0,x0,rfl,rfl,SqT.of hb,qe3 (j:=0) rfl,_,_,_,_,_,rfl,rfl,.inl r0.ty,xA8 d0,_,rfl,?_⟩;by_cases hs:isS d0=true
     rotate_left
     ·rw[show isS d0=false by simpa using hs];refine iteT (no H (λx is=>.inl λe=>hs ?_) (Same.refl _));have:=Ye e;injection this with a _
      rw[a];rfl
     rw[hs];refine iteF ?_;obtain⟨x,rfl⟩:∃x,d0=.str x:=by
      cases d0 with
      |str x=>exact⟨x,rfl⟩
      |_=>cases hs
     cases r0;refine⟨_,rfl,_,rfl,b,_,rfl,hb,λu H1 hu o1=>?_⟩;rw[show cutV (V.str x::x1::xs) (some 1) none=x1::xs from qI8 (a:=1) (by simp)] at hu;have s1:=ql2 o1;have l1:=t1 _ rfl;have hl:(x1::xs).length<=100:=by
      have:=r1.length;simp at this l1 ⊢;lia
     refine⟨u,rfl,⟨_,SqT.of hu⟩,λD hD=>qe6 hD (λj z _=>∃dj,(d1::ds)[j]?=some dj/\z=.bl (isI dj)) (qi1 (K:=K) hu) (qd2 (by lia)) (λ_ _ _ _ _ _ h=>h) ?_ ?_⟩
     ·intro j y H2 hj hy s2 Q' hq;obtain⟨dj,e1,e2⟩:=(r1.same (s1.trans s2)).get hy;exact⟨_,rfl,y,dj,rfl,e2,hq _ _ (Same.refl _) ⟨dj,e1,rfl⟩⟩
     ·intro ys H2 s2 jG jH jK;have ey:ys=((d1::ds).map isI).map V.bl:=by
       refine qi2 (by rw[jH,Zb,Zb,r1.length]) λj y hy=>?_;obtain⟨dj,e1,rfl⟩:=jK j y hy;rw[Zd,Zd,e1]
       rfl
      subst ey;refine⟨D,_,rfl,jG,_,rfl,?_⟩;have s12:=s1.trans s2;by_cases ha:((d1::ds).map isI).all id=true
      rotate_left
      ·rw[show ((d1::ds).map isI).all id=false by simpa using ha];refine iteT (no H2 (λy is=>.inl λe=>ha ?_) s12);have:=Ye e;injection this with _ a
       rw[a,Z6];intro z hz;obtain⟨d',hd',rfl⟩:=ZO.mp hz;obtain⟨i,_,rfl⟩:=ZO.mp hd'
       rfl
      rw[ha];refine iteF ?_;obtain⟨is,eis⟩:=xf2 (ds:=d1::ds) λd' hd'=>by
       have:=Z6.mp ha (isI d') (ZO.mpr ⟨d',hd',rfl⟩);exact this
      rw[eis] at r1;have exs:=qB6 r1;have edd:PyData.tuple (.str x::d1::ds)=dG x is:=by unfold dG;rw[eis]
      have sok:=t2 x _ rfl;rw[edd] at q;refine⟨_,rfl,_,rfl,t,n,tp,rows,rfl,hT.mono s12.tups,tok,λH3 a s3 ha3 st3=>?_⟩;obtain⟨zs,hz,hdz⟩:=st3.datas;have dat:DataAt H3 (.ref b) (dG x is):=by
       refine .tup ((s12.trans s3) _ _ hb) ?_;rw[exs];exact .cons (.str x) (DatasAt.ints is)
      refine⟨a,zs,_,dG x is,rfl,hz,hdz,dat,xH7 sok is,qt4 _,xo1 x is,q _ H3 ?_ (s12.trans s3)⟩;rw[xf3];exact⟨λ⟨s,hs,e⟩=>⟨s,(qj4 _).mem_iff.mp hs,e⟩,λ⟨s,hs,e⟩=>⟨s,(qj4 _).mem_iff.mpr hs,e⟩⟩
  |_=>exact iteT (iteT (no H (λx is=>.inl λe=>nomatch e) (Same.refl _)))
end
theorem xo2 {H:Hp}{v:V}{s:Stp}(h:DatX H v (dS s)):∃b,v=.ref b/\H b=some (.tup (qf4 s)):=by
 rw[q43] at h;cases h with
 |@tup b xs _ e r=>
  cases r with
  |cons h0 r=>
   cases h0;refine⟨b,rfl,?_⟩;rw[e,qB6 r,qy2,Yp]
   rfl
section
variable {P:Program}{w:World}{K:PySem.W.Frag}{mg:Str->Option Value}{base:Heap}
def xf4 (CT CS:Addr):Sp:=λvs H _ E=>∃(v v2:V) (d d2:PyData),vs=[v,v2]/\DatX H v d/\Bnd d/\DatX H v2 d2/\Thn d2 /\
 ((¬IsTl d/\∀H',Same H H'->E (.ref CT) none H')\/∃n tp rows,d=qq3 n tp rows/\qh7 n tp rows/\¬qC7 tp rows d2/\∀H',Same H H'->E (.ref CS) none H')
theorem xo3 {f fW fI CT CS:Addr}{fd fdW fdI:FuncData}(F:Fun K "stepped" "stepped" qp0 f fd) (hC:mg "NoStep" = some (.ref CS)) (hx:PySem.W.excIn K CS bmV "ValueError.__new__" = true)
  (hW:mg "want_telling" = some (.ref fW)) (FW:Fun K "want_telling" "want_telling" ql0 fW fdW) (bW:Binds K fdW ["telling"] []) (GW:FnOk P w K mg base (CX1 P w) 6 fW fdW ["telling"] (qt5 CT))
  (hI:mg "is_step" = some (.ref fI)) (FI:Fun K "is_step" "is_step" qo3 fI fdI) (bI:Binds K fdI ["telling", "thing"] []) (GI:FnOk P w K mg base CX0 8 fI fdI ["telling", "thing"] qB7) :
  FnOk P w K mg base (CX1 P w) 9 f fd ["telling", "step"] (xf4 CT CS):=by
 refine F.ok1 scStepped (λvs H Q E h=>?_) (λcdv A outer s0 H vs Q E hr h=>?_)
 ·obtain⟨v,v2,d,d2,rfl,_⟩:=h
  rfl
 ·obtain⟨v,v2,d,d2,rfl,hd,bn,jG,th,alt⟩:=h;have w6:Room 6 _:=hr.mono (by decide);refine seqE ⟨_,⟨qd3 (qq1 GW w6 (by rfl) hW FW.kp bW .nil qQ7 (qa0 (pv 0) qa1))⟩,?_⟩;refine seqE ⟨_,⟨qf3 (qe7 (qe1 (pcN GI hr hI FI.kp bI (qa0 (pv 0) (qa0 (pv 1) qa1))))) (qa8 (qV1 (by rfl) hC hx rfl q83 (qa0 qb7 qa1))) qb5⟩,?_⟩;refine⟨_,qf8,_,rfl,v,d,rfl,hd,bn,λz H1 s1=>?_,λz H1 s1=>?_⟩
  ·rcases alt with ⟨no,_⟩|⟨n,tp,rows,rfl,tok,no,q⟩
   ·exact absurd z no
   ·obtain⟨t,rfl,tl⟩:=qx8 (hd.same s1);refine⟨_,rfl,_,rfl,t,n,tp,rows,v2,d2,rfl,tl,tok,jG.same s1,th,λb H2 hb s2=>⟨_,rfl,?_⟩⟩;cases b with
    |true=>exact absurd (hb.mp rfl) no
    |false=>exact iteT ⟨by decide,q H2 (s1.trans s2)⟩
  ·rcases alt with ⟨_,q⟩|⟨n,tp,rows,rfl,tok,_⟩
   ·exact q H1 s1
   ·exact absurd ⟨n,tp,rows,rfl,tok⟩ z
def qS9 (CT CS:Addr):Sp:=λvs H Q E=>∃(v v2:V) (d d2:PyData),vs=[v,v2]/\DatX H v d/\Bnd d/\DatX H v2 d2/\Thn d2/\(¬IsTl d->∀H',Same H H'->E (.ref CT) none H') /\
 ∀n tp rows,d=qq3 n tp rows->qh7 n tp rows->(qC7 tp rows d2->∀u H',Same H H'->Q u H')/\(¬qC7 tp rows d2->∀H',Same H H'->E (.ref CS) none H')
theorem xo4 {f CT CS:Addr}{fd:FuncData}(G:FnOk P w K mg base CX0 9 f fd ["telling", "step"] qO9) (B:FnOk P w K mg base (CX1 P w) 9 f fd ["telling", "step"] (xf4 CT CS)):FnOk P w K mg base (CX1 P w) 9 f fd ["telling", "step"] (qS9 CT CS):=by
 refine (xx4 (xH6 G) B).imp λvs H Q E h=>?_;obtain⟨v,v2,d,d2,rfl,hd,bn,jG,th,q1,q2⟩:=h;by_cases hT:IsTl d
 ·obtain⟨n,tp,rows,rfl,tok⟩:=hT;obtain⟨q3,q4⟩:=q2 n tp rows rfl tok;by_cases hS:qC7 tp rows d2
  ·have q:=q3 hS;obtain⟨s,hs,rfl⟩:=hS;obtain⟨t,rfl,tl⟩:=qx8 hd;obtain⟨b,rfl,hb⟩:=xo2 jG;exact .inl ⟨t,b,n,tp,rows,s,rfl,tl,tok,hb,hs,λH' t' s' _=>q _ H' s'⟩
  ·exact .inr ⟨v,v2,_,d2,rfl,hd,bn,jG,th,.inr ⟨n,tp,rows,rfl,tok,hS,q4 hS⟩⟩
 ·exact .inr ⟨v,v2,d,d2,rfl,hd,bn,jG,th,.inl ⟨hT,q1 hT⟩⟩
end
end Pr
namespace L2
open PySem PySem.Spec PyProof.Rows PySem.W
section
variable {X:Cx}
theorem xf5:qi3 X (.builtin "isinstance") (λxs H Q=>∃(a C tp:Addr) (cs:List Addr) (b:Bool),xs=[.ref a,.ref tp]/\H a=some (.ext (ExcAt a C))/\ExcCls X.K C/\H tp=some (.tup (cs.map V.ref))/\kitAny X.K (.ref C) (cs.map Value.ref)=some b/\Q (.bl b) H):=by
 intro j8 s σ H xs us Q I r h;obtain⟨a,C,tp,cs,b,rfl,ha,T,ht,hk,q⟩:=h;obtain⟨u,u',rfl,rx,rc⟩:=q61 r;cases (show u=Value.ref a from rx);cases (show u'=Value.ref tp from rc);have p:ExcAt a C s.heap:=(I.hok a _ ha).1;obtain⟨_,its,rv,ob,ho,hc,n,hd⟩:=I.hok tp _ ht;have ei:∀{l:List Addr}{us:List Value},Vals (l.map V.ref) us->us=l.map Value.ref:=by
  intro l
  induction l with
  |nil=>intro us z;cases z;rfl
  |cons x l ih=>
   intro us z;cases z with
   |cons z1 z2=>
    cases (show _=Value.ref x from z1);rw[ih z2]
    rfl
 have e1:=ei rv;subst e1;obtain⟨c0,d0,dt,sl⟩:=ob;have c1:c0=_:=hc;have d1:dt=_:=hd;rw[c1,d1] at ho;exact kia_tup (qV0 T) I.kIn p ho hk (λz=>nomatch z) λtk=>⟨.bl b,H,I.tok _,rfl,q⟩
end
end L2
namespace Pr
open PySem L2 Qf
structure Kx (K:PySem.W.Frag) (mg:Str->Option Value) (CT CS FE o0 o1 o2 o3 o4 o5:Addr):Prop where
 t:mg "NoTelling" = some (.ref CT)
 s:mg "NoStep" = some (.ref CS)
 fe:mg "FloorError" = some (.ref FE)
 a0:mg "NoAddress" = some (.ref o0)
 a1:mg "NoCell" = some (.ref o1)
 a2:mg "NoFloor" = some (.ref o2)
 a3:mg "NoNumber" = some (.ref o3)
 a4:mg "NoShape" = some (.ref o4)
 a5:mg "NoText" = some (.ref o5)
 v:mg "ValueError" = none
structure Kin2 (K:PySem.W.Frag) (C CT CS o0 o1 o2 o3 o4 o5:Addr) (b0 b1:Bool):Prop where
 ec:ExcCls K C
 v:PySem.W.kitOne K (.ref C) (.type "ValueError")=some true
 any:PySem.W.kitAny K (.ref C) [.ref o0,.ref o1,.ref o2,.ref o3,.ref o4,.ref o5]=some false
 s:PySem.W.kitOne K (.ref C) (.ref CS)=some b0
 t:PySem.W.kitOne K (.ref C) (.ref CT)=some b1
section
variable {P:Program}{w:World}{K:PySem.W.Frag}{mg:Str->Option Value}{base:Heap}
theorem scWord:FnScope ["_law_e", "_law_some"] ["_law_e"] (qa4 qR3):=qe9
def xf6 (C x:Addr) (t:Str):SpH:=λvs H Q=>vs=[.ref x]/\H x=some (.ext (ExcAt x C))/\∀H',Same H H'->Q (.str t) H'
theorem xf7 {f x C CT CS FE o0 o1 o2 o3 o4 o5:Addr}{fd:FuncData}{b0 b1:Bool}{j:Nat}{t:Str}(F:Fun K "_law_word" "_law_word" qR3 f fd) (B:Blt mg) (Cc:Blt2 mg) (hsum:mg "sum" = none) (T:Kx K mg CT CS FE o0 o1 o2 o3 o4 o5) (k:Kin2 K C CT CS o0 o1 o2 o3 o4 o5 b0 b1)
  (hb:(j=0/\b0=true/\b1=false/\t=("step1" : Str))\/(j=1/\b0=false/\b1=true/\t=("telling1" : Str))):FnOkH P w K mg base 1 x f fd ["_law_e"] (xf6 C x t):=by
 refine F.okH scWord (λvs H Q h=>?_) (λcdv A outer s H vs Q hr h=>?_)
 ·obtain⟨rfl,_⟩:=h
  rfl
 ·obtain⟨rfl,hx,q⟩:=h;refine seqE ⟨_,⟨qf3 (PW.pt (qk9 (qe1 (qa7 xf5 (by rfl) B.isi Zt (qa0 (pv 0) (qa0 (PEb.go ⟨qf0 (Ars2.go (.cons ⟨qc3 (v:=.ref o0) (by rfl) T.a0 rfl⟩ (.cons ⟨qc3 (v:=.ref o1) (by rfl) T.a1 rfl⟩ (.cons ⟨qc3 (v:=.ref o2) (by rfl) T.a2 rfl⟩ (.cons ⟨qc3 (v:=.ref o3) (by rfl) T.a3 rfl⟩ (.cons ⟨qc3 (v:=.ref o4) (by rfl) T.a4 rfl⟩ (.cons ⟨qc3 (v:=.ref o5) (by rfl) T.a5 rfl⟩ .nil rfl) rfl) rfl) rfl) rfl) rfl))⟩) qa1))))
   (qj0 (qe7 (qe1 (qa7 qd7 (by rfl) B.isi Zt (qa0 (pv 0) (qa0 (qg4 (v:=.ty "ValueError") (by rfl) T.v (by decide +kernel) rfl) qa1)))))))) (qa8 (qb0 qb7)) qb5⟩,?_⟩
  refine seqE ⟨_,⟨psN 1 scWord.nd (qd1 (qa0 (qa7 qd7 (by rfl) B.isi Zt (qa0 (pv 0) (qa0 (qc3 (v:=.ref CS) (by rfl) T.s rfl) qa1)))
    (qa0 (qa7 qd7 (by rfl) B.isi Zt (qa0 (pv 0) (qa0 (qc3 (v:=.ref CT) (by rfl) T.t rfl) qa1))) qa1)))⟩,?_⟩
  refine qi4 ⟨_,⟨qb0 (qb8 q02 (xC9 qe4 (qd1 (qa0 qb7 (qa0 qb7 (qa0 qb7 qa1))))
     (qC4 ZI PySem.F.slot_list_index PySem.F.type_list_index q99 (qb8 ql6 (pv 1) (qd1 (qa0 qj1 qa1))) (qa0 qj1 qa1)) (λ_ _=>rfl))
    (qd5 qJ7 (by rfl) Cc.str WF (qa0 (qa7 q95 (by rfl) hsum PyProof.Rows.boot_sum (qa0 (pv 1) qa1)) qa1)))⟩,?_⟩
  have et:∀{H':Hp},H' x=some (.ext (ExcAt x C))->ExcT K H' (.ref x) (.ref C):=λh=>⟨x,C,rfl,h,k.ec,rfl⟩;refine⟨_,rfl,(by show 6<=sizeLine;decide),λtp jW=>?_⟩;have S0:=qb2 (o:=.tup ([o0,o1,o2,o3,o4,o5].map V.ref)) jW;have ht0:upd H tp (.tup ([o0,o1,o2,o3,o4,o5].map V.ref)) tp=some (.tup ([o0,o1,o2,o3,o4,o5].map V.ref)):=qa2;have kY:=S0 _ _ hx;refine (λ(go:∀H0,Same H H0->H0 tp=some (.tup ([o0,o1,o2,o3,o4,o5].map V.ref))->H0 x=some (.ext (ExcAt x C))->_)=>go _ S0 ht0 kY) ?_;intro H0 S0 ht0 kY;refine⟨x,C,tp,_,false,rfl,kY,k.ec,ht0,k.any,false,rfl,iteF ?_⟩;refine⟨_,rfl,_,_,_,_,_,rfl,rfl,.inr (et kY),k.v,true,rfl,iteF ?_⟩;refine⟨_,rfl,_,_,_,_,_,rfl,rfl,.inr (et kY),k.s,_,rfl,_,_,_,_,_,rfl,rfl,.inr (et kY),k.t,(by show 2<=sizeLine;decide),λl hl=>?_⟩;have S1:=S0.trans (qb2 (o:=.lst [.bl b0,.bl b1]) hl);have hl1:upd H0 l (.lst [.bl b0,.bl b1]) l=some (.lst [.bl b0,.bl b1]):=qa2;generalize upd H0 l (.lst [.bl b0,.bl b1])=H1 at S1 hl1;refine⟨by show 3<=sizeLine;decide,λl2 k8=>?_⟩;have S2:=S1.trans (qb2 (o:=.lst [.str "step",.str "telling",.str "other"]) k8);have h2:upd H1 l2 (.lst [.str "step",.str "telling",.str "other"]) l2=some (.lst [.str "step",.str "telling",.str "other"]):=qa2;have hl2':=qc5 (u:=.lst [.str "step",.str "telling",.str "other"]) hl1 k8;generalize upd H1 l2 (.lst [.str "step",.str "telling",.str "other"])=H2 at S2 h2 hl2';refine⟨_,rfl,by show 1<=sizeLine;decide,λl3 vO=>?_⟩;have S3:=S2.trans (qb2 (o:=.lst [.bl true]) vO);have h3:upd H2 l3 (.lst [.bl true]) l3=some (.lst [.bl true]):=qa2;have h3a:=qc5 (u:=.lst [.bl true]) hl2' vO;have h3b:=qc5 (u:=.lst [.bl true]) h2 vO;generalize upd H2 l3 (.lst [.bl true])=H3 at S3 h3 h3a h3b;refine⟨l,l3,_,_,rfl,rfl,h3a,h3,(by show 2+1<=sizeLine;decide),λl4 vV=>?_⟩;have S4:=S3.trans (qb2 (o:=.lst ([.bl b0,.bl b1]++[.bl true])) vV);have h4:upd H3 l4 (.lst ([.bl b0,.bl b1]++[.bl true])) l4=some (.lst (([b0,b1,true]:List Bool).map V.bl)):=qa2;have h4a:=qc5 (u:=.lst ([.bl b0,.bl b1]++[.bl true])) h3a vV;have h4b:=qc5 (u:=.lst ([.bl b0,.bl b1]++[.bl true])) h3b vV;generalize upd H3 l4 (.lst ([.bl b0,.bl b1]++[.bl true]))=H4 at S4 h4 h4a h4b;refine⟨.inl ⟨rfl,_,SqL.of h4⟩,?_⟩;rcases hb with ⟨rfl,rfl,rfl,rfl⟩|⟨rfl,rfl,rfl,rfl⟩
  ·refine⟨l4,_,0,rfl,rfl,h4,rfl,(λm hm=>by lia),by decide,?_⟩;refine⟨l2,_,0,.str "step",rfl,rfl,SqL.of h4b,qe3 (j:=0) rfl,?_⟩;refine⟨_,rfl,l,[true,false],x,C,rfl,h4a,hr.hd,S4 x _ hx,?_⟩;exact⟨_,rfl,by decide +kernel,_,_,rfl,rfl,by decide +kernel,q _ S4⟩
  ·refine⟨l4,_,1,rfl,rfl,h4,rfl,(λm hm=>by rw[show m=0 by lia];rfl),by decide,?_⟩;refine⟨l2,_,1,.str "telling",rfl,rfl,SqL.of h4b,qe3 (j:=1) rfl,?_⟩;refine⟨_,rfl,l,[false,true],x,C,rfl,h4a,hr.hd,S4 x _ hx,?_⟩;exact⟨_,rfl,by decide +kernel,_,_,rfl,rfl,by decide +kernel,q _ S4⟩
end
end Pr
namespace L2
open PySem PySem.Spec PyProof.Rows
theorem xH8 {P:Program}{w:World}{K:PySem.W.Frag}{mg:Str->Option Value}{base:Heap}{k:Nat}{x f:Addr}{fd:FuncData}{ps:List Str}{sp sp':SpH}(F:FnOkH P w K mg base k x f fd ps sp) (G:FnOkH P w K mg base k x f fd ps sp') :
  FnOkH P w K mg base k x f fd ps (λvs H Q=>sp vs H Q\/sp' vs H Q):=
 ⟨λvs H Q h=>h.elim (F.len vs H Q) (G.len vs H Q),λA outer s H args us vs Q hr en b v h=>h.elim (F.run A outer s H args us vs Q hr en b v) (G.run A outer s H args us vs Q hr en b v)⟩
end L2
namespace Pr
open PySem L2 Qf
structure Kf (K:PySem.W.Frag) (CT CS FE:Addr):Prop where
 xt:PySem.W.excIn K CT bmV "ValueError.__new__" = true
 xs:PySem.W.excIn K CS bmV "ValueError.__new__" = true
 ft:PySem.W.exmOne K (.ref CT) (.ref FE)=some true
 fs:PySem.W.exmOne K (.ref CS) (.ref FE)=some true
theorem xo5 {H H1 H2:Hp}{xa:Addr}{o:HO}(s1:Same H H1) (hn:H1 xa=none) (s2:Same (upd H1 xa o) H2):Same H H2:=λb u e=>by
 have e1:=s1 b u e;exact s2 b u (by rw[qa6 (qa5 e1 hn)];exact e1)
section
variable {P:Program}{w:World}{K:PySem.W.Frag}{mg:Str->Option Value}{base:Heap}
def qB8 (CT CS x:Addr):SpH:=λvs H Q=>xf6 CT x "telling1" vs H Q\/xf6 CS x "step1" vs H Q
theorem xo6 {f x CT CS FE o0 o1 o2 o3 o4 o5:Addr}{fd:FuncData}(F:Fun K "_law_word" "_law_word" qR3 f fd) (B:Blt mg) (Cc:Blt2 mg) (hsum:mg "sum" = none) (T:Kx K mg CT CS FE o0 o1 o2 o3 o4 o5) (kT:Kin2 K CT CT CS o0 o1 o2 o3 o4 o5 false true) (kS:Kin2 K CS CT CS o0 o1 o2 o3 o4 o5 true false) :
  FnOkH P w K mg base 1 x f fd ["_law_e"] (qB8 CT CS x):=
 xH8 (xf7 F B Cc hsum T kT (.inr ⟨rfl,rfl,rfl,rfl⟩)) (xf7 F B Cc hsum T kS (.inl ⟨rfl,rfl,rfl,rfl⟩))
abbrev nDn:List Str:=["_law_telling_here", "_law_step", "_law_told", "_law_e"]
theorem scDn:FnScope nDn ["_law_telling_here", "_law_step"] (qa4 xj5):=qe9
def spDn:Sp:=λvs H Q _=>∃(v v2:V) (d d2:PyData),vs=[v,v2]/\DatX H v d/\Bnd d/\DatX H v2 d2/\Thn d2/\(¬IsTl d->∀H',Same H H'->Q (.str "telling1") H') /\
 ∀n tp rows,d=qq3 n tp rows->qh7 n tp rows->(qC7 tp rows d2->∀H',Same H H'->Q (.str "told") H')/\(¬qC7 tp rows d2->∀H',Same H H'->Q (.str "step1") H')
theorem xL5 {f fS fK CT CS FE:Addr}{fd fdS fdK:FuncData}(F:Fun K "_law_done" "_law_done" xj5 f fd) (hFE:mg "FloorError" = some (.ref FE)) (T:Kf K CT CS FE)
  (hS:mg "stepped" = some (.ref fS)) (FS:Fun K "stepped" "stepped" qp0 fS fdS) (bS:Binds K fdS ["telling", "step"] []) (GS:FnOk P w K mg base (CX1 P w) 9 fS fdS ["telling", "step"] (qS9 CT CS))
  (hK:mg "_law_word" = some (.ref fK)) (FK:Fun K "_law_word" "_law_word" qR3 fK fdK) (bK:Binds K fdK ["_law_e"] []) (GK:∀x,FnOkH P w K mg base 1 x fK fdK ["_law_e"] (qB8 CT CS x)):FnOk P w K mg base CX0 10 f fd ["_law_telling_here", "_law_step"] spDn:=by
 refine F.ok scDn (λvs H Q E h=>?_) (λcdv A outer s H vs Q E hr h=>?_)
 ·obtain⟨v,v2,d,d2,rfl,_⟩:=h
  rfl
 ·obtain⟨v,v2,d,d2,rfl,hd,bn,jG,th,q1,q2⟩:=h;have jE:Room 1 _:=hr.mono (by decide);refine seqE ⟨_,⟨psN 2 scDn.nd qb7⟩,?_⟩;refine seqE ⟨_,⟨q91 (i:=3) (FA:=FE) (tb:=λE=>_) (th:=λx=>_) rfl rfl rfl scDn.nd rfl rfl (by rfl) hFE
   (λj8 E=>qa8 (qd3 (qq1 GS hr (by rfl) hS FS.kp bS .nil (qQ8 rfl) (qa0 (pv 0) (qa0 (pv 1) qa1)))))
   (λx=>qa8 (psN 2 scDn.nd (qF9 (GK x) (jE.toH x) (by rfl) hK FK.kp bK (qa0 (pv 3) qa1))))⟩,?_⟩
  refine qi4 ⟨_,⟨qb0 (pv 2)⟩,?_⟩;refine⟨_,rfl,_,rfl,v,v2,d,d2,rfl,hd,bn,jG,th,λno H' s'=>?_,λn tp rows e tok=>⟨λst u H' s'=>?_,λno H' s'=>?_⟩⟩
  ·exact⟨CT,rfl,T.ft,λxa w4=>⟨_,rfl,.inl ⟨rfl,qa2,λH2 s2=>⟨_,rfl,q1 no H2 (xo5 s' w4 s2)⟩⟩⟩⟩
  ·exact⟨_,rfl,(q2 n tp rows e tok).1 st H' s'⟩
  ·exact⟨CS,rfl,T.fs,λxa w4=>⟨_,rfl,.inr ⟨rfl,qa2,λH2 s2=>⟨_,rfl,(q2 n tp rows e tok).2 no H2 (xo5 s' w4 s2)⟩⟩⟩⟩
abbrev nLi:List Str:=["_law_telling_here", "_law_told", "_law_e"]
theorem scLi:FnScope nLi ["_law_telling_here"] (qa4 qH0):=qe9
theorem scMo:FnScope nLi ["_law_telling_here"] (qa4 qx4):=qe9
def spLi:Sp:=λvs H Q _=>∃(v:V) (d:PyData),vs=[v]/\DatX H v d/\Bnd d/\(IsTl d->∀H',Same H H'->Q (.str "told") H')/\(¬IsTl d->∀H',Same H H'->Q (.str "telling1") H')
theorem xL6 {f fS fK CT CS FE:Addr}{fd fdS fdK:FuncData}(F:Fun K "_law_listed" "_law_listed" qH0 f fd) (hFE:mg "FloorError" = some (.ref FE)) (T:Kf K CT CS FE)
  (hS:mg "steps_of" = some (.ref fS)) (FS:Fun K "steps_of" "steps_of" qn0 fS fdS) (bS:Binds K fdS ["telling"] []) (GS:FnOk P w K mg base (CX1 P w) 7 fS fdS ["telling"] (qP2 CT))
  (hK:mg "_law_word" = some (.ref fK)) (FK:Fun K "_law_word" "_law_word" qR3 fK fdK) (bK:Binds K fdK ["_law_e"] []) (GK:∀x,FnOkH P w K mg base 1 x fK fdK ["_law_e"] (qB8 CT CS x)):FnOk P w K mg base CX0 8 f fd ["_law_telling_here"] spLi:=by
 refine F.ok scLi (λvs H Q E h=>?_) (λcdv A outer s H vs Q E hr h=>?_)
 ·obtain⟨v,d,rfl,_⟩:=h
  rfl
 ·obtain⟨v,d,rfl,hd,bn,q1,q2⟩:=h;have jE:Room 1 _:=hr.mono (by decide);refine seqE ⟨_,⟨psN 1 scLi.nd qb7⟩,?_⟩;refine seqE ⟨_,⟨q91 (i:=2) (FA:=FE) (tb:=λE=>_) (th:=λx=>_) rfl rfl rfl scLi.nd rfl rfl (by rfl) hFE
   (λj8 E=>qa8 (qd3 (qq1 GS hr (by rfl) hS FS.kp bS .nil (qQ8 rfl) (qa0 (pv 0) qa1))))
   (λx=>qa8 (psN 1 scLi.nd (qF9 (GK x) (jE.toH x) (by rfl) hK FK.kp bK (qa0 (pv 2) qa1))))⟩,?_⟩
  refine qi4 ⟨_,⟨qb0 (pv 1)⟩,?_⟩;refine⟨_,rfl,v,d,rfl,hd,bn,λyes u H' s'=>?_,λno H' s'=>?_⟩
  ·exact⟨_,rfl,q1 yes H' s'⟩
  ·exact⟨CT,rfl,T.ft,λxa w4=>⟨_,rfl,.inl ⟨rfl,qa2,λH2 s2=>⟨_,rfl,q2 no H2 (xo5 s' w4 s2)⟩⟩⟩⟩
theorem xL7 {f fS fK CT CS FE:Addr}{fd fdS fdK:FuncData}(F:Fun K "_law_made_one" "_law_made_one" qx4 f fd) (hFE:mg "FloorError" = some (.ref FE)) (T:Kf K CT CS FE)
  (hS:mg "one_telling" = some (.ref fS)) (FS:Fun K "one_telling" "one_telling" xa2 fS fdS) (bS:Binds K fdS ["telling"] []) (GS:FnOk P w K mg base (CX1 P w) 16 fS fdS ["telling"] (qP2 CT))
  (hK:mg "_law_word" = some (.ref fK)) (FK:Fun K "_law_word" "_law_word" qR3 fK fdK) (bK:Binds K fdK ["_law_e"] []) (GK:∀x,FnOkH P w K mg base 1 x fK fdK ["_law_e"] (qB8 CT CS x)):FnOk P w K mg base CX0 17 f fd ["_law_telling_here"] spLi:=by
 refine F.ok scMo (λvs H Q E h=>?_) (λcdv A outer s H vs Q E hr h=>?_)
 ·obtain⟨v,d,rfl,_⟩:=h
  rfl
 ·obtain⟨v,d,rfl,hd,bn,q1,q2⟩:=h;have jE:Room 1 _:=hr.mono (by decide);refine seqE ⟨_,⟨psN 1 scMo.nd qb7⟩,?_⟩;refine seqE ⟨_,⟨q91 (i:=2) (FA:=FE) (tb:=λE=>_) (th:=λx=>_) rfl rfl rfl scMo.nd rfl rfl (by rfl) hFE
   (λj8 E=>qa8 (qd3 (qq1 GS hr (by rfl) hS FS.kp bS .nil (qQ8 rfl) (qa0 (pv 0) qa1))))
   (λx=>qa8 (psN 1 scMo.nd (qF9 (GK x) (jE.toH x) (by rfl) hK FK.kp bK (qa0 (pv 2) qa1))))⟩,?_⟩
  refine qi4 ⟨_,⟨qb0 (pv 1)⟩,?_⟩;refine⟨_,rfl,v,d,rfl,hd,bn,λyes u H' s'=>?_,λno H' s'=>?_⟩
  ·exact⟨_,rfl,q1 yes H' s'⟩
  ·exact⟨CT,rfl,T.ft,λxa w4=>⟨_,rfl,.inl ⟨rfl,qa2,λH2 s2=>⟨_,rfl,q2 no H2 (xo5 s' w4 s2)⟩⟩⟩⟩
end
end Pr
namespace L2
open PySem PySem.Spec PyProof.Rows
mutual
def nod:PyData->Nat
 |.list xs=>nods xs+1
 |.tuple xs=>nods xs+1
 |_=>1
def nods:List PyData->Nat
 |[]=>0
 |x::xs=>nod x+nods xs
end
mutual
def Atm:PyData->Prop
 |.int i=>(PyData.shown (.int i)).length<=80/\i.natAbs.log2<1920
 |.str s=>(PyData.shown (.str s)).length<=80
 |.list xs=>Atms xs
 |.tuple xs=>Atms xs
 |.dict kvs=>kvs=[]
 |_=>True
def Atms:List PyData->Prop
 |[]=>True
 |x::xs=>Atm x/\Atms xs
end
mutual
def NoL:PyData->Bool
 |.list _=>false
 |.tuple xs=>NoLs xs
 |_=>true
def NoLs:List PyData->Bool
 |[]=>true
 |x::xs=>NoL x&&NoLs xs
end
mutual
theorem xf8:∀d:PyData,Atm d->d.shown.length+2<=100*nod d
 |.none,_=>by decide
 |.bool true,_=>by decide
 |.bool false,_=>by decide
 |.int i,h=>by have:=h.1;show _+2<=100*1;lia
 |.str s,h=>by have:(PyData.shown (.str s)).length<=80:=h;show _+2<=100*1;lia
 |.list xs,h=>by
  obtain⟨h1,h2⟩:=qI9 xs h;have:=listText_len_le (PyData.shownAll xs);show (listText (PyData.shownAll xs)).length+2<=100*(nods xs+1);lia
 |.tuple xs,h=>by
  obtain⟨h1,h2⟩:=qI9 xs h;have:=tupleText_len_le (PyData.shownAll xs);show (tupleText (PyData.shownAll xs)).length+2<=100*(nods xs+1);lia
 |.dict kvs,h=>by
  have h:kvs=[]:=h;subst h;decide
theorem qI9:∀xs:List PyData,Atms xs->((PyData.shownAll xs).map (·.length)).sum+2*(PyData.shownAll xs).length<=100*nods xs/\True
 |[],_=>⟨Ze _,trivial⟩
 |x::xs,h=>by
  have h1:=xf8 x h.1;obtain⟨h2,_⟩:=qI9 xs h.2;refine⟨?_,trivial⟩;show (PyData.shown x).length+((PyData.shownAll xs).map (·.length)).sum+2*((PyData.shownAll xs).length+1)<=100*(nod x+nods xs);lia
end
mutual
theorem xf9:∀d:PyData,Atm d->d.showable=true
 |.none,_=>rfl
 |.bool _,_=>rfl
 |.int i,h=>Zi h.2
 |.str s,_=>rfl
 |.list xs,h=>qJ0 xs h
 |.tuple xs,h=>qJ0 xs h
 |.dict kvs,h=>by
  have h:kvs=[]:=h;subst h
  rfl
theorem qJ0:∀xs:List PyData,Atms xs->PyData.showableAll xs=true
 |[],_=>rfl
 |x::xs,h=>by
  show (PyData.showable x&&PyData.showableAll xs)=true;rw[xf9 x h.1,qJ0 xs h.2]
  rfl
end
section
variable {P:Program}{w:World}{H:Hp}{h:Heap}
mutual
theorem DatX.reads (ok:HOk P w H h):∀{x:V}{d:PyData}{u:Value},DatX H x d->RelV x u->∃as,Reads h u d as/\(NoL d=true->sysModules∉as)
 |_,_,u,.non,r=>⟨[],by cases (show u=Value.none from r);exact .none,λ_ z=>nomatch z⟩
 |_,_,u,.bl b,r=>⟨[],by cases (show u=Value.bool b from r);exact .bool b,λ_ z=>nomatch z⟩
 |_,_,u,.int i,r=>⟨[],by obtain⟨t,rfl⟩:=r;exact .int i t,λ_ z=>nomatch z⟩
 |_,_,u,.str x,r=>⟨[],by obtain⟨t,rfl⟩:=r;exact .str x t,λ_ z=>nomatch z⟩
 |_,_,u,.lst (a:=a) e rs,r=>by
  cases (show u=Value.ref a from r);obtain⟨_,its,n,rv,ho⟩:=ok a _ e;obtain⟨as,ra,_⟩:=DatsX.reads ok rs rv;exact⟨a::as,.list ho rfl rfl (by simpa using ra),λz=>by cases z⟩
 |_,_,u,.tup (a:=a) e rs,r=>by
  cases (show u=Value.ref a from r);obtain⟨_,its,rv,o,ho,hc,⟨n,hdn⟩,hd⟩:=ok a _ e;obtain⟨as,ra,rn⟩:=DatsX.reads ok rs rv;exact⟨as,.tuple ho hc hd (by simpa using ra),rn⟩
 |_,_,u,.dic (a:=a) e,r=>by
  cases (show u=Value.ref a from r);obtain⟨_,hS,vs,kv,o,es,ep,ho,vW,hd,_,pr,_⟩:=ok a _ e;cases kv;have hes:es.toList=[]:=by
   have:=pr.length;exact Wp.mp this
  refine⟨[a],?_,λ_ z=>?_⟩
  ·have:=Reads.dict (h:=h) (a:=a) (o:=o) (es:=es) (n:=ep) (kvs:=[]) (as:=[]) (bs:=[]) ho vW.1 hd (by rw[hes];exact .nil) (by rw[hes];exact .nil);exact this
  ·have:sysModules=a:=by simpa using z
   rw[<- this] at hS;simp at hS
theorem DatsX.reads (ok:HOk P w H h):∀{xs:List V}{ds:List PyData}{us:List Value},DatsX H xs ds->Vals xs us->∃as,ReadsAll h us ds as/\(NoLs ds=true->sysModules∉as)
 |_,_,_,.nil,.nil=>⟨[],.nil,λ_ z=>nomatch z⟩
 |_,_,_,.cons (d:=d) (ds:=ds) h1 r1,.cons r rr=>by
  obtain⟨as,ra,n1⟩:=DatX.reads ok h1 r;obtain⟨bs,rb,n2⟩:=DatsX.reads ok r1 rr;refine⟨as++bs,.cons ra rb,λz hm=>?_⟩;have z':(NoL d&&NoLs ds)=true:=z;rw[YD] at z';rcases Z2.mp hm with y|y
  ·exact n1 z'.1 y
  ·exact n2 z'.2 y
end
end
section
variable {X:Cx}
theorem qv6 {k:Nat}(hr:Room k X.A):qi3 X (.builtin "repr") (λxs H Q=>∃(p:Addr) (d:PyData),xs=[.ref p]/\DatX H (.ref p) d/\Atm d/\(d.hasDict=true->NoL d=true)/\d.depth<=60/\nod d<=1000/\Q (.str d.shown) H):=by
 intro j8 s σ H xs us Q I r h;obtain⟨p,d,rfl,hd,ha,hm,dp,hz,q⟩:=h;obtain⟨u,rfl,rx⟩:=qn5 r;cases rx;obtain⟨as,ra,nl⟩:=hd.reads (u:=.ref p) I.hok rfl;have un:=hr.units;have hl:=xf8 d ha;exact repr_of_reads' ra (xf9 d ha) (λz=>nl (hm z)) hr.gd (by lia) (λb o e=>e) (λh' u tk kp=>⟨.str _,H,I.kept kp,⟨_,rfl⟩,q⟩) (by
  have e:sizeLine=16777216:=by decide
  lia)
end
end L2
namespace Pr
open PySem L2 Qf
theorem xo7 (ds:List PyData):PyData.eqv (.list ds) (.list [])=decide (ds=[]):=by
 cases ds with
 |nil=>rfl
 |cons a l=>simp[PyData.eqv,PyData.eqvAll]
section
variable {P:Program}{w:World}{K:PySem.W.Frag}{mg:Str->Option Value}{base:Heap}
theorem scLDeps:FnScope ["_law_rows", "_law_found", "_law_row_here"] ["_law_rows"] (qa4 xa3):=qe9
theorem RowsL.s {H:Hp}{p:Addr}{rows:List Row}(h:RowsL H p rows):RowsS H p rows:=let ⟨bs,a,b,c⟩:=h;⟨bs,.inr a,b,c⟩
def xg0:Sp:=λvs H Q _=>∃(p:Addr) (rows:List Row),vs=[.ref p]/\RowsS H p rows/\qc0 rows/\rows.length<=1190900/\∀H' D,Same H H'->H' D=some (.lst (vN (deps rows)))->Q (.ref D) H'
theorem xo8 {f:Addr}{fd:FuncData}(F:Fun K "_law_depths" "_law_depths" xa3 f fd) (B:Blt mg):FnOk P w K mg base CX0 1 f fd ["_law_rows"] xg0:=by
 refine F.ok scLDeps (λvs H Q E h=>?_) (λcdv A outer s H vs Q E hr h=>?_)
 ·obtain⟨p,rows,rfl,_⟩:=h
  rfl
 ·obtain⟨p,rows,rfl,hR,ok,hn,q⟩:=h;refine⟨_,qc1 (psN 1 scLDeps.nd (qd1 (qa0 qa3 (qa0 qa3 qa1))))
   (qc1 (ql5 Yb rfl (xF5 (pv 0)) (pgN 2 scLDeps.nd)
    (qa8 (qd3 (qC4 ZI ZS ZT qe5 (pv 1) (qa0 (qb8 qf9 qa3 (qa7 (qL3 rfl) (by rfl) B.max XD
     (qa0 (qf5 ["_law_rows", "_law_found", "_law_row_here"] (qa4 xa3) rfl rfl rfl scLDeps.nd (qj9 (pv 2)) (λcl C fp s₀ H₀=>pxN (ixL K rfl) (pv 2) (pv 0))) qa1))) qa1)))))
   (qa8 (qb0 (pv 1)))),?_⟩
  refine⟨(by show 2<=sizeLine;decide),λD hD=>?_⟩;obtain⟨bs,hp,j9,jA⟩:=id hR;have jJ:(bs.map V.ref).length=rows.length:=by rw[Zb];exact j9
  refine⟨_,rfl,p,rfl,xl6 (K:=K) (a:=p) (xs:=bs.map V.ref) (λi σ H2=>Same H H2/\H2 D=some (.lst (vN (deps (rows.take i))))/\∃v2,σ=[some (.ref p),some (.ref D),v2])
   (hp.elim (λh=>.inr λi σ H2 ⟨s2,_⟩=>SqT.of (s2 _ _ h)) (λh=>.inl λi σ H2 ⟨s2,_⟩=>SqL.of (s2 _ _ h)))
   ⟨qb2 hD,qa2,none,rfl⟩ ?_ ?_⟩
  ·rintro i y σ H2 hy ⟨s2,jG,v2,rfl⟩;have hi:i<rows.length:=by rw[<- jJ];exact (gS_ hy).1
   rw[Zd] at hy;obtain⟨b,hb,rfl⟩:=Zw.mp hy;have jE:rows[i]?=some rows[i]:=by simp[hi]
   have jV:=s2 _ _ (jA i b rows[i] hb jE);have rk:=ok i _ jE;have tl:(rows.take i).length=i:=by rw[ZW];lia
   have vA:∀x,x<i+2->(deps (rows.take i))[x]?=some (dp (rows.take i) x):=λx hx=>qM2 (by rw[tl];exact hx);generalize rows[i]=r at jE jV rk;refine⟨_,rfl,.inl ⟨rfl,_,SqL.of jG⟩,_,rfl,b,rfl,⟨_,SqT.of jV⟩,λD2 kQ=>qe6 kQ (λj z _=>∃x,r[j]?=some x/\z=.int (dp (rows.take i) x:Nat)) (qi1 (K:=K) jV) (by rw[qc2,rk.1];decide) (λ_ _ _ _ _ _ h=>h) ?_ ?_⟩
   ·intro j x H3 hj hx s3 Q' hq;obtain⟨m,hm,rfl⟩:=ql8 hx;have jC:=rk.2 m (Zx hm);exact⟨_,rfl,_,rfl,D,_,(m:Int),.int (dp (rows.take i) m:Nat),rfl,rfl,SqL.of (s3 _ _ jG),qw3 (vA m jC),hq _ _ (Same.refl _) ⟨m,hm,rfl⟩⟩
   ·intro ys H3 s3 k9 jH jK;have ey:ys=(r.map (dp (rows.take i))).map (λn:Nat=>V.int (n:Int)):=by
     refine qi2 (by rw[jH,qc2,Zb,Zb]) λj x hx=>?_;obtain⟨m,hm,rfl⟩:=jK j x hx;rw[Zd,Zd,hm];rfl
    have e2:ys=((r.map (dp (rows.take i))).map (λn:Nat=>(n:Int))).map V.int:=ey.trans (qE0 _);have jS:r.map (dp (rows.take i))≠[]:=λz=>by
     have:=Yr List.length z;rw[Zb,rk.1] at this;cases this
    refine⟨D2,(r.map (dp (rows.take i))).map (λn:Nat=>(n:Int)),rfl,e2▸k9,λz=>jS (WV.mp z),_,_,rfl,rfl,?_⟩;rw[qW1 jS];have kB:=s3 _ _ jG;refine⟨D,_,_,rfl,rfl,kB,?_,?_⟩
    ·rw[qc2,qj3,tl];exact qd2 (by lia)
    ·have nD:∀b o,H b=some o->b≠D:=λb o e=>qa5 e hD;refine⟨λb o e=>by rw[qa6 (nD b o e)];exact s3 _ _ (s2 _ _ e),?_,_,rfl⟩;rw[qa2,qM1 jE];unfold vN;rw[Z0]
     rfl
  ·rintro σ H2 ⟨s2,jG,v2,rfl⟩;refine⟨_,rfl,q H2 D s2 ?_⟩;rw[jJ,YE] at jG;exact jG
theorem PurseAt.keep {H:Hp}{p a:Addr}{o:HO}(h:PurseAt H p) (ha:H a=none):PurseAt (upd H a o) p:=h.same (qb2 ha)
theorem xg1 (rows:List Row):(PyData.list (rows.map λr=>dT (r.map λx:Nat=>(x:Int)))).canLay0=true:=by
 show PyData.canLayAll0 _=true
 induction rows with
 |nil=>simp[PyData.canLayAll0]
 |cons r rows ih=>
  show (PyData.canLay0 (dT _)&&PyData.canLayAll0 _)=true;rw[ih,qr6];rfl
theorem q45 (rows:List Row):(PyData.list (rows.map λr=>dT (r.map λx:Nat=>(x:Int)))).depth<=60:=by
 have key:PyData.depthAll (rows.map λr=>dT (r.map λx:Nat=>(x:Int)))<=2:=by
  induction rows with
  |nil=>simp[PyData.depthAll]
  |cons r rows ih=>
   have:=qW3 (r.map λx:Nat=>(x:Int));simp only[ZH,PyData.depthAll];lia
 simp only[PyData.depth];lia
theorem scRowDr:FnScope ["_law_pot_here", "_law_rows", "_law_way"] ["_law_pot_here", "_law_rows"] (qa4 qD9):=qe9
def xg2:Sp:=λvs H Q _=>∃(pp rp:Addr) (rows:List Row),vs=[.ref pp,.ref rp]/\PurseAt H pp/\RowsL H rp rows/\rp≠pp/\qc0 rows/\rows.length<=900/\∀H' b r,But pp H H'->PurseAt H' pp->H' b=some (.tup (vN r))->qL5 rows.length r->Q (.ref b) H'
theorem xo9 {f fD:Addr}{fd fdD:FuncData}(F:Fun K "_law_row" "_law_row" qD9 f fd) (B:Blt mg) (hD:mg "_law_digit" = some (.ref fD)) (FD:Fun K "_law_digit" "_law_digit" qw2 fD fdD) (bD:Binds K fdD ["_law_pot_here", "_law_many"] []):FnOk P w K mg base CX0 2 f fd ["_law_pot_here", "_law_rows"] xg2:=by
 have GD:FnOk P w K mg base CX0 1 fD fdD ["_law_pot_here", "_law_many"] qv2:=qt0 FD;refine F.ok scRowDr (λvs H Q E h=>?_) (λcdv A outer s H vs Q E hr h=>?_)
 ·obtain⟨pp,rp,rows,rfl,_⟩:=h
  rfl
 ·obtain⟨pp,rp,rows,rfl,hp,hR,vJ,ok,hn,q⟩:=h;refine seqE ⟨_,⟨psN 2 scRowDr.nd (pcN GD hr hD FD.kp bD (qa0 (pv 0) (qa0 qa3 qa1)))⟩,?_⟩;refine seqE ⟨_,⟨qf3 (PW.pt (xp8 (qc4 xh6 (pv 2) qa3 (qc6 _)) (q54 (qc4 (q84 hr) (pv 1) (qd1 qa1) (qc6 _))))) (qa8 (qb0 (pxN qe4 (pv 1) (pcN GD hr hD FD.kp bD (qa0 (pv 0) (qa0 (qa7 qa9 (by rfl) B.len ZJ (qa0 (pv 1) qa1)) qa1)))))) qb5⟩,?_⟩;refine seqE ⟨_,⟨qf3 (qc4 xh6 (pv 2) qa3 (qc6 _)) (qa8 (qb0 (qb8 q96 (qf0 (qa0 (pcN GD hr hD FD.kp bD (qa0 (pv 0) (qa0 qa3 qa1))) qa1)) qa3))) qb5⟩,?_⟩;refine seqE ⟨_,⟨qf3 (qc4 qC1 (pv 2) qa3 (qc6 _)) (qa8 (qb0 (qd5 qg2 (by rfl) B.tuple ZE (qa0 (qf5 ["_law_pot_here", "_law_rows", "_law_way"] (qa4 qD9) rfl rfl rfl scRowDr.nd (qk0 (by rfl) B.range (qa0 qa3 qa1)) (λcl C fp s₀ H₀=>pcN GD hr hD FD.kp bD (qa0 (pv 1) (qa0 qa3 qa1)))) qa1)))) qb5⟩,?_⟩;refine qi4 ⟨_,⟨qb0 (qd5 qg2 (by rfl) B.tuple ZE (qa0 (qf5 ["_law_pot_here", "_law_rows", "_law_way"] (qa4 qD9) rfl rfl rfl scRowDr.nd (qk0 (by rfl) B.range (qa0 qa3 qa1)) (λcl C fp s₀ H₀=>pcN GD hr hD FD.kp bD (qa0 (pv 1) (qa0 (qb8 qf9 (qa7 (lenS K rfl) (by rfl) B.len ZJ (qa0 (pv 2) qa1)) qa3) qa1)))) qa1))⟩,?_⟩;refine⟨_,rfl,pp,7,rfl,hp,by decide,by decide,λd H1 hd b1 jM=>?_⟩;have jQ:∃a b:Int,H pp=some (.lst [.int a,.int b]):=by obtain⟨a,b,e,_⟩:=hp;exact⟨a,b,e⟩
  obtain⟨pa,pb,jY⟩:=jQ;have hR1:=hR.but b1 vJ jY (λu z=>nomatch z);obtain⟨bs,vK,j9,jA⟩:=id hR1;have jJ:(bs.map V.ref).length=rows.length:=by rw[Zb];exact j9
  refine⟨_,rfl,rfl,_,rfl,?_⟩;refine ite2 (λhc=>?ya) (λhc=>?yb)
  case' yb=>refine iteF ?_
  case' ya=>
   refine⟨_,rfl,(by show 0<=sizeLine;decide),λD0 kR=>?_⟩;have hrD:=qc5 (u:=.lst []) vK kR;have dr:DatasAt (upd H1 D0 (.lst [])) (bs.map V.ref) (rows.map λr=>dT (r.map λx:Nat=>(x:Int))):=qp1 j9 λi b r e1 e2=>qc5 (jA i b r e1 e2) kR;refine⟨_,_,.lst hrD dr,.lst qa2 .nil,xg1 rows,by simp[PyData.canLay0,PyData.canLayAll0],q45 rows,_,rfl,?_⟩;rw[xo7];by_cases hz:rows=[]
   case neg=>
    rw[Zk (λz=>hz (WV.mp z))];refine iteT ?_;have kE:0<rows.length:=Y3.mpr hz;refine⟨_,rfl,_,rfl,_,rfl,rp,_,rfl,.inl (SqL.of hrD),pp,rows.length,by rw[jJ];rfl,jM.keep kR,kE,by lia,λx H2 hx b2 jI=>?_⟩;have hbx:bs[x]?=some (bs[x]'(by lia)):=by simp[show x<bs.length by lia]
    have hg:rows[x]?=some rows[x]:=by simp[hx]
    have kC:=b2 _ _ hrD vJ;have hb0:=jA x _ _ hbx hg;have nbp:bs[x]'(by lia)≠pp:=by
     obtain⟨a,b,e,_⟩:=jM;exact qp9 hb0 e (λz=>nomatch z)
    refine⟨rp,_,(x:Int),.ref (bs[x]'(by lia)),rfl,rfl,SqL.of kC,qe3 (by rw[Zd,hbx];rfl),?_⟩;have rk:=ok x _ hg;exact q _ _ rows[x] (λb o e nb=>b2 _ _ (qc5 (b1 _ _ e nb) kR) nb) jI (b2 _ _ (qc5 hb0 kR) nbp) ⟨rk.1,λy hy=>by have:=rk.2 y hy;lia⟩
   subst hz;rw[Zi (by rfl)];refine iteF ?_;have b1':But pp H (upd H1 D0 (.lst [])):=λb o e nb=>qc5 (b1 _ _ e nb) kR;have hp1':=jM.keep (o:=.lst []) kR;generalize upd H1 D0 (.lst [])=H9 at b1' hp1' hrD;clear b1 jM vK hR1 jA kR dr;have b1:=b1';have jM:=hp1';have vK:=hrD;have rows0:True:=trivial;obtain⟨rows,hrows⟩:∃rows:List Row,rows=[]:=⟨_,rfl⟩;rw[<- hrows] at q jJ hn
  all_goals
   refine⟨_,rfl,rfl,_,rfl,?_⟩;refine ite2 (λhc=>?_) (λhc=>?_)
   ·refine⟨_,rfl,pp,2,rfl,jM,by decide,by decide,λx H2 hx b2 jI=>⟨(by show 1<=sizeLine;decide),λu hu=>⟨u,4,.int (x:Nat),rfl,rfl,qa2,by decide,by decide,λv hv=>?_⟩⟩⟩;refine q _ v [x,x,x,x] (λb o e nb=>qc5 (qc5 (b2 _ _ (b1 _ _ e nb) nb) hu) hv) ((jI.keep hu).keep hv) qa2 ⟨rfl,λy hy=>?_⟩;have:y=x:=by simpa using hy
    lia
   ·refine⟨_,rfl,_,_,rfl,rfl,_,rfl,?_⟩;refine ite2 (λkK=>?_) (λkK=>?_)
    ·refine⟨_,rfl,by decide,by decide,?_⟩;intro D vI;have npD:pp≠D:=by obtain⟨a,b,e,_⟩:=jM;exact qa5 e vI
     have nrD:rp≠D:=qa5 vK vI;refine qM7 (p:=pp) vI npD (λH5=>PurseAt H5 pp/\H5 rp=some (.lst (bs.map V.ref))) (λ_ y=>∃x:Nat,y=.int (x:Nat)/\x<rows.length+2) (by decide) (λH5 o ⟨⟨a,b,e,r⟩,e2⟩=>⟨⟨a,b,by rw[qa6 npD];exact e,r⟩,by rw[qa6 nrD];exact e2⟩) ⟨jM,vK⟩ ?_ ?_
     ·intro j H5 hj b5 i5 Q' hq;exact⟨_,rfl,pp,2,rfl,i5.1,by decide,by decide,λx H6 hx b6 vL=>hq _ _ b6 ⟨vL,b6 _ _ i5.2 vJ⟩ ⟨x,rfl,by lia⟩⟩
     ·intro ys H5 b5 i5 hd5 jH jK;obtain⟨r,rfl,hrr⟩:=qS0 jK;rw[qc2] at jH;refine⟨D,_,rfl,.inl ⟨SqL.of hd5,λt ht=>q _ t r (λb o e nb=>qc5 (b5 _ _ (b1 _ _ e nb) nb) ht) (i5.1.keep ht) qa2 ⟨jH,λx hx=>hrr x hx⟩⟩⟩
    ·refine⟨_,rfl,by decide,by decide,?_⟩;intro D vI;have npD:pp≠D:=by obtain⟨a,b,e,_⟩:=jM;exact qa5 e vI
     have nrD:rp≠D:=qa5 vK vI;refine qM7 (p:=pp) vI npD (λH5=>PurseAt H5 pp/\H5 rp=some (.lst (bs.map V.ref))) (λ_ y=>∃x:Nat,y=.int (x:Nat)/\x<rows.length+2) (by decide) (λH5 o ⟨⟨a,b,e,r⟩,e2⟩=>⟨⟨a,b,by rw[qa6 npD];exact e,r⟩,by rw[qa6 nrD];exact e2⟩) ⟨jM,vK⟩ ?_ ?_
     ·intro j H5 hj b5 i5 Q' hq;exact⟨_,rfl,_,rfl,rp,_,rfl,.inl (SqL.of i5.2),_,_,rfl,rfl,pp,rows.length+2,by rw[jJ];rfl,i5.1,by lia,by lia,λx H6 hx b6 vL=>hq _ _ b6 ⟨vL,b6 _ _ i5.2 vJ⟩ ⟨x,rfl,hx⟩⟩
     ·intro ys H5 b5 i5 hd5 jH jK;obtain⟨r,rfl,hrr⟩:=qS0 jK;rw[qc2] at jH;refine⟨D,_,rfl,.inl ⟨SqL.of hd5,λt ht=>q _ t r (λb o e nb=>qc5 (b5 _ _ (b1 _ _ e nb) nb) ht) (i5.1.keep ht) qa2 ⟨jH,λx hx=>hrr x hx⟩⟩⟩
end
end Pr
namespace L2
open PySem PySem.Spec PyProof.Rows
section
variable {X:Cx}
theorem q46 {i0:Nat}{x0:Str}{px0 spos:Pos}{x y:Str}{p1 p2 tpos pos:Pos}{k:Nat}{elt iter c:Expr}{scope:Scope}{wi:TI}{tt:TT}{te:TE}(N:List Str) (sc:Scope) (vD:X.N=N) (kZ:X.env.scope=sc) (hc:X.calm=true) (hN:X.N.Nodup) (hi0:X.N[i0]?=some x0) (kY:X.env.scope.names.lookup x0=some .local) (hi:PI X (.Tuple [.Name x p1,.Name y p2] k tpos) iter wi)
  (ht:∀cl C fp s₀ H₀,PT (qc9 X scope cl C [x,y] fp s₀ H₀) c tt) (he:∀cl C fp s₀ H₀,PE (qc9 X scope cl C [x,y] fp s₀ H₀) elt te) (vZ:x≠y:=by decide)
  (jD:scope.kind=.function:=by rfl) (jB:scope.names.all (λy=>y.2 != .cell)=true:=by decide +kernel) (jF:scope.names.all (λy=>y.2 != .local||scope.names.lookup y.1==some .local)=true:=by decide +kernel)
  (hx:scope.names.lookup x=some .local:=by rfl) (hy:scope.names.lookup y=some .local:=by rfl) (jL:N.all (λy=>scope.names.lookup y != some .local)=true:=by decide +kernel)
  (jN:scope.names.all (λp=>p.2 != .free||(sc.names.lookup p.1==some .cell||sc.names.lookup p.1==some .free))=true:=by decide +kernel)
  (hs:∀x,foldedSetIterable iter X.env x=pure x:=by intro _;rfl) (hsw:swapsWith (.ListComp elt [⟨.Tuple [.Name x p1,.Name y p2] k tpos,iter,[c],0⟩] scope pos) (some (.Name x0 px0)) spos.line X.env=pure true:=by rfl) :
  PS X (.Assign [.Name x0 px0] (.ListComp elt [⟨.Tuple [.Name x p1,.Name y p2] k tpos,iter,[c],0⟩] scope pos) spos) (tAsg (qw1 2 wi (gTup X.K 2 (qu3 (qh3 0) (qu3 (qh3 1) gNil))) tt te) (qh3 i0)):=by
 obtain⟨s1,s2,s3,s4⟩:=qo1 vD kZ jB jF jL jN;exact xj2 (nn:=[x,y]) (λenv=>isTrue c env (eval c env)) hc hi (λit acc env=>qF6 elt _ iter c scope pos it acc env) (λcl C fp s₀ H₀=>xv9 hc hN vZ s3 hx hy) (λy os σ H R ho h=>loc2 ho h) (λcl C fp s₀ H₀ j8 s σ H Q I h=>ht cl C fp s₀ H₀ j8 s σ H Q I h) he jD s1 s2 s3 s4 hs hN hi0 kY hsw
end
end L2
namespace Pr
open PySem L2 Qf
section
variable {P:Program}{w:World}{K:PySem.W.Frag}{mg:Str->Option Value}{base:Heap}
abbrev nTl:List Str:=["_law_pot_here", "_law_n", "_law_most", "_law_rows", "_law_k", "_law_tops", "_law_top"]
theorem scTl:FnScope nTl ["_law_pot_here", "_law_n", "_law_most"] (qa4 qs0):=qe9
def spTl:Sp:=λvs H Q _=>∃(pp:Addr) (n most:Nat),vs=[.ref pp,.int (n:Nat),.int (most:Nat)]/\PurseAt H pp/\n<=12/\0<most/\most<=100 /\
 ∀H' t tp rows,But pp H H'->PurseAt H' pp->TellAt H' t n tp rows->qh7 n tp rows->rows.length<most->Q (.ref t) H'
theorem xL8 {f fD fR fX:Addr}{fd fdD fdR fdX:FuncData}(F:Fun K "_law_telling" "_law_telling" qs0 f fd) (B:Blt mg)
  (hD:mg "_law_digit" = some (.ref fD)) (FD:Fun K "_law_digit" "_law_digit" qw2 fD fdD) (bD:Binds K fdD ["_law_pot_here", "_law_many"] [])
  (hR:mg "_law_row" = some (.ref fR)) (FR:Fun K "_law_row" "_law_row" qD9 fR fdR) (bR:Binds K fdR ["_law_pot_here", "_law_rows"] [])
  (hX:mg "_law_depths" = some (.ref fX)) (FX:Fun K "_law_depths" "_law_depths" xa3 fX fdX) (bX:Binds K fdX ["_law_rows"] []):FnOk P w K mg base CX0 3 f fd ["_law_pot_here", "_law_n", "_law_most"] spTl:=by
 have GD:FnOk P w K mg base CX0 1 fD fdD ["_law_pot_here", "_law_many"] qv2:=qt0 FD;have GR:FnOk P w K mg base CX0 2 fR fdR ["_law_pot_here", "_law_rows"] xg2:=xo9 FR B hD FD bD;have GX:FnOk P w K mg base CX0 1 fX fdX ["_law_rows"] xg0:=xo8 FX B;refine F.ok scTl (λvs H Q E h=>?_) (λcdv A outer s H vs Q E hr h=>?_)
 ·obtain⟨pp,n,most,rfl,_⟩:=h
  rfl
 ·obtain⟨pp,n,most,rfl,hp,hn,hm0,hm,q⟩:=h;have jE:Room 1 _:=hr.mono (by decide);refine seqE ⟨_,⟨psN 3 scTl.nd (qd1 qa1)⟩,?_⟩;refine seqE ⟨_,⟨ql5 Yb rfl (qk0 (by rfl) B.range (qa0 (pcN GD jE hD FD.kp bD (qa0 (pv 0) (qa0 (pv 2) qa1))) qa1)) (pgN 4 scTl.nd)
   (qa8 (qd3 (qC4 ZI ZS ZT qe5 (pv 3) (qa0 (pcN GR hr hR FR.kp bR (qa0 (pv 0) (qa0 (pv 3) qa1))) qa1))))⟩,?_⟩
  refine seqE ⟨_,⟨q46 (i0:=5) nTl (qa4 qs0) rfl rfl rfl scTl.nd rfl rfl (xl2 (by rfl) B.enum (qa0 (pcN GX jE hX FX.kp bX (qa0 (pv 3) qa1)) qa1)) (λcl C fp s₀ H₀=>qc4 qC2 (pv 1) (pv 3) (qc6 _)) (λcl C fp s₀ H₀=>pv 0)⟩,?_⟩;refine seqE ⟨_,⟨psN 6 scTl.nd (PEb.go ⟨pxN qe4 (pv 5) (PEb.go ⟨qb8 qv8 (qb8 qv8 (qa7 qa9 (by rfl) B.len ZJ (qa0 (pv 5) qa1)) qa3) (PEb.go ⟨pcN GD jE hD FD.kp bD (qa0 (pv 0) (qa0 (pxN qe4 (qd1 (qa0 qa3 (qa0 (qa7 qa9 (by rfl) B.len ZJ (qa0 (pv 5) qa1)) qa1))) (pcN GD jE hD FD.kp bD (qa0 (pv 0) (qa0 qa3 qa1)))) qa1))⟩)⟩)⟩)⟩,?_⟩;refine qi4 ⟨_,⟨qb0 (qf0 (Ars2.go (.cons ⟨pv 1⟩ (.cons ⟨pv 6⟩ (.cons ⟨qd5 qg2 (by rfl) B.tuple ZE (qa0 (pv 3) qa1)⟩ .nil rfl) rfl) rfl)))⟩,?_⟩;refine⟨(by show 0<=sizeLine;decide),λl hl=>?_⟩;have sl:Same H (upd H l (.lst [])):=qb2 hl;have npl:pp≠l:=by obtain⟨a,b,e,_⟩:=hp;exact qa5 e hl
  refine⟨_,rfl,_,rfl,pp,most,rfl,hp.same sl,hm0,by lia,λd H1 hd b1 jM=>?_⟩;refine⟨_,rfl,by lia,by lia,qy7 (lo:=0) (n:=(d:Int).toNat) (λi σ H2=>∃(rows:List Row) (v4:Option V),σ=[some (.ref pp),some (.int (n:Nat)),some (.int (most:Nat)),some (.ref l),v4,none,none]/\But pp H H2/\PurseAt H2 pp/\RowsL H2 l rows/\qc0 rows/\rows.length=i) ?_ ?_ ?_⟩
  ·exact⟨[],none,rfl,(But.of sl).trans b1,jM,⟨[],b1 _ _ qa2 npl.symm,rfl,λi b r e=>by simp at e⟩,λi r e=>by simp at e,rfl⟩
  ·rintro i σ H2 hi ⟨rows,v4,rfl,b2,jI,vY,ok2,k8⟩;obtain⟨bs,jJ,j9,jA⟩:=id vY;refine⟨_,rfl,.inl ⟨rfl,_,SqL.of jJ⟩,_,rfl,_,rfl,pp,l,rows,rfl,jI,vY,npl.symm,ok2,by lia,λH3 b r b3 jR hb3 rk=>?_⟩;have vO:=b3 _ _ jJ npl.symm;refine⟨l,_,_,rfl,rfl,vO,by rw[Zb,j9];exact qd2 (by lia),?_⟩;have jY:∃a b:Int,H2 pp=some (.lst [.int a,.int b]):=by obtain⟨a,b,e,_⟩:=jI;exact⟨a,b,e⟩
   obtain⟨pa,pb,jY⟩:=jY;have nbl:b≠l:=qp9 hb3 vO (λz=>nomatch z);refine⟨rows++[r],_,rfl,λc o e nc=>?_,?_,⟨bs++[b],by rw[qa2,Z0];rfl,by simp[j9],λj c r' e1 e2=>?_⟩,λj r' e=>?_,by simp[k8]⟩
   ·rw[qa6 (qa5 e hl)];exact b3 _ _ (b2 _ _ e nc) nc
   ·obtain⟨a,c,e,r⟩:=jR;exact⟨a,c,by rw[qa6 npl];exact e,r⟩
   ·by_cases hj:j<bs.length
    ·rw[Zg hj] at e1;rw[Zg (by lia)] at e2;have h2:=jA j c r' e1 e2;have ncp:c≠pp:=qp9 h2 jY (λz=>nomatch z);have h3:=b3 _ _ h2 ncp;rw[qa6 (qp9 h3 vO (λz=>nomatch z))];exact h3
    ·rw[Zh (by lia)] at e1;rw[Zh (by lia),<- j9] at e2;have wC:j-bs.length=0:=by
      have:=(gS_ e1).1;simp at this;lia
     rw[wC] at e1 e2;cases e1;cases e2;rw[qa6 nbl];exact hb3
   ·by_cases hj:j<rows.length
    ·rw[Zg hj] at e;exact ok2 j r' e
    ·rw[Zh (by lia)] at e;have wC:j-rows.length=0:=by
      have:=(gS_ e).1;simp at this;lia
     rw[wC] at e;cases e;rw[show j=rows.length by lia];exact rk
  ·rintro σ H2 ⟨rows,v4,rfl,b2,jI,vY,ok2,k8⟩;have vK:rows.length<most:=by rw[k8];lia
   refine⟨_,rfl,l,rows,rfl,vY.s,ok2,by lia,λH3 D s3 k9=>?_⟩;refine⟨D,rfl,⟨_,SqL.of k9⟩,λD2 kQ=>qu5 kQ (λi=>decide (dp rows i<=n)) (λi=>.int (i:Nat)) (q33 (K:=K) k9) (by rw[qc2,qj3];exact qd2 (by lia)) ?_ ?_⟩
   ·rintro i x H4 hi ⟨t,y,rfl,hy,ht⟩ s4 os ho Q1 Q2 q1 q2
    match os,ho with
    |[o1,o2],_=>
     obtain⟨m,hm',rfl⟩:=ql8 hy;have v0:i<rows.length+2:=by rw[qc2,qj3] at hi;lia
     have em:m=dp rows i:=by
      have:=qM2 v0;rw[this] at hm';exact (ZD hm').symm
     subst em;refine⟨t,_,rfl,SqT.of ht,rfl,_,_,rfl,_,_,rfl,rfl,?_⟩;refine⟨_,rfl,_,rfl,_,_,rfl,rfl,_,rfl,?_⟩;have e:decide (((dp rows i:Nat):Int)<=(n:Int))=decide (dp rows i<=n):=by
      rw[Yw];lia
     rw[e];refine ite2 (λhc=>?_) (λhc=>?_)
     ·exact⟨_,rfl,q2 hc H4 (Same.refl _)⟩
     ·exact q1 (W7.mpr hc) H4 (Same.refl _)
   ·intro H4 s4 kB;have ems:(((List.range (vN (deps rows)).length).filter λi=>decide (dp rows i<=n)).map λi=>V.int (i:Nat))=vN ((List.range (rows.length+2)).filter λi=>decide (dp rows i<=n)):=by
     rw[qc2,qj3];rfl
    rw[ems] at kB;generalize hms:(List.range (rows.length+2)).filter (λi=>decide (dp rows i<=n))=ms at kB;have jO:∀x∈ms,x<rows.length+2/\dp rows x<=n:=λx hx=>by
     rw[<- hms] at hx;obtain⟨h1,h2⟩:=Xc.mp hx;exact⟨Z4.mp h1,ZU h2⟩
    have h0m:0∈ms:=by
     rw[<- hms];refine Xc.mpr ⟨Z4.mpr (by lia),Zi ?_⟩;rw[qL6 (by decide)];exact ZN _
    have hml:0<ms.length:=Y3.mpr λz=>by rw[z] at h0m;cases h0m
    have hmsl:ms.length<=rows.length+2:=by
     rw[<- hms];exact ZK (YN _ _) (by simp)
    have jX:=(jI.same s3).same s4;have hR4:=(vY.same s3).same s4;have b4:But pp H H4:=λc o e nc=>s4 _ _ (s3 _ _ (b2 _ _ e nc));have nDp:D2≠pp:=by
     obtain⟨a,b,e,_⟩:=jI.same s3;exact (qa5 e kQ).symm
    refine⟨_,rfl,_,rfl,D2,_,rfl,.inl (SqL.of kB),_,_,rfl,rfl,_,rfl,_,rfl,D2,_,rfl,.inl (SqL.of kB),(by show 2<=sizeLine;decide),λl2 hl2'=>?_⟩;have kF:=jX.keep (o:=.lst [.int 1,.int ((vN ms).length:Nat)]) hl2';have hd5:=qc5 (u:=.lst [.int 1,.int ((vN ms).length:Nat)]) kB hl2';have n2p:l2≠pp:=by obtain⟨a,b,e,_⟩:=jX;exact (qa5 e hl2').symm
    refine⟨_,rfl,pp,2,rfl,kF,by decide,by decide,λd2 H6 jG b6 vL=>?_⟩;have hl6:=b6 _ _ (qa2 (H:=H4) (a:=l2) (o:=.lst [.int 1,.int ((vN ms).length:Nat)])) n2p;have hd6:=b6 _ _ hd5 nDp;have fin:∀(m:Nat),0<m->m<=ms.length->∀σ':St,σ'=[some (.ref pp),some (.int (n:Nat)),some (.int (most:Nat)),some (.ref l),v4,some (.ref D2),none]->∀(d3:Nat) (H7:Hp),d3<m->But pp H6 H7->PurseAt H7 pp->∃(tp:Nat),atI (vN ms) (((vN ms).length:Int)-1-(d3:Int))=some (.int (tp:Nat))/\tp∈ms/\H7 D2=some (.lst (vN ms))/\But pp H H7/\RowsL H7 l rows:=λm m0 m1 σ' _ d3 H7 hd3' b7 k6=>by
     have hix:ms.length-1-d3<ms.length:=by lia
     refine⟨ms[ms.length-1-d3],?_,Yu hix,b7 _ _ hd6 nDp,?_,?_⟩
     ·have:=qw3 (r:=ms) (i:=ms.length-1-d3) (n:=ms[ms.length-1-d3]) (by simp[hix]);rw[qc2]
      rwa [show ((ms.length-1-d3:Nat):Int)=(ms.length:Int)-1-(d3:Int) by lia] at this
     ·exact λc o e nc=>b7 _ _ (b6 _ _ (qc5 (b4 _ _ e nc) hl2') nc) nc
     ·obtain⟨pa,pb,jY,_⟩:=kF;obtain⟨pa6,pb6,hpe6,_⟩:=vL;exact ((hR4.same (qb2 hl2')).but b6 npl.symm jY (λu z=>nomatch z)).but b7 npl.symm hpe6 (λu z=>nomatch z)
    have last:∀(tp:Nat) (H7:Hp),tp∈ms->But pp H H7->PurseAt H7 pp->RowsL H7 l rows->∃bs:List Addr,H7 l=some (.lst (bs.map V.ref))/\∀c,H7 c=none->∀t,upd H7 c (.tup (bs.map V.ref)) t=none->Q (.ref t) (upd (upd H7 c (.tup (bs.map V.ref))) t (.tup [.int (n:Nat),.int (tp:Nat),.ref c])):=λtp H7 jW b7 k6 hR7=>by
     obtain⟨bs,vM,j9,jA⟩:=hR7;refine⟨bs,vM,λc hc t ht=>?_⟩;obtain⟨g1,g2⟩:=jO tp jW;refine q _ t tp rows (λb o e nb=>qc5 (qc5 (b7 _ _ e nb) hc) ht) ((k6.keep hc).keep ht) ⟨c,qa2,bs,qc5 qa2 ht,j9,λi b r e1 e2=>qc5 (qc5 (jA i b r e1 e2) hc) ht⟩ ⟨hn,ok2,by lia,g1,g2⟩ vK
    have step:∀(m:Nat),atI [V.int 1,V.int ((vN ms).length:Nat)] (d2:Int)=some (.int (m:Nat))->0<m->m<=ms.length->rIxL K (.ref l2) (.int (d2:Int)) H6 λx H1=>True:=λm e _ _=>⟨l2,_,(d2:Int),.int (m:Nat),rfl,rfl,SqL.of hl6,e,trivial⟩;obtain⟨m,em,m0,m1⟩:∃m:Nat,atI [V.int 1,V.int ((vN ms).length:Nat)] (d2:Int)=some (.int (m:Nat))/\0<m/\m<=ms.length:=by
     have:d2=0\/d2=1:=by lia
     rcases this with rfl|rfl
     ·exact⟨1,rfl,by decide,hml⟩
     ·exact⟨ms.length,by rw[qc2];rfl,hml,Ze _⟩
    refine⟨l2,_,(d2:Int),.int (m:Nat),rfl,rfl,SqL.of hl6,em,pp,m,rfl,vL,m0,by lia,λd3 H7 hd3' b7 k6=>?_⟩;obtain⟨tp,et,jW,hd7,b7',hR7⟩:=fin m m0 m1 _ rfl d3 H7 hd3' b7 k6;refine⟨_,_,rfl,rfl,D2,_,_,.int (tp:Nat),rfl,rfl,SqL.of hd7,et,?_⟩;obtain⟨bs,vM,lst⟩:=last tp H7 jW b7' k6 hR7;exact⟨_,rfl,_,rfl,_,rfl,l,_,rfl,.inl ⟨SqL.of vM,λc hc=>⟨(by show 3<=sizeLine;decide),λt ht=>lst c hc t ht⟩⟩⟩
end
end Pr
namespace L2
open PySem PySem.Spec PyProof.Rows
structure Shw (H:Hp) (v:V) (d:PyData):Prop where
 dat:DatX H v d
 atm:Atm d
 mix:d.hasDict=true->NoL d=true
 dep:d.depth<=60
 nds:nod d<=1000
theorem q47 {X:Cx}{k:Nat}(hr:Room k X.A):qi3 X (.builtin "repr") (λxs H Q=>∃(v:V) (d:PyData),xs=[v]/\Shw H v d/\∀x:Str,(∀ds,d=.tuple ds->x=d.shown)->Q (.str x) H):=by
 intro j8 s σ H xs us Q I r h;obtain⟨v,d,rfl,sh,q⟩:=h;have hd:=sh.dat;have ha:=sh.atm;obtain⟨u,rfl,rx⟩:=qn5 r;cases hd with
 |non=>
  cases rx;exact PySem.P.repr_of_none ⟨.str _,H,I.tok _,⟨_,rfl⟩,q _ λds e=>nomatch e⟩
 |bl b=>
  cases (show u=Value.bool b from rx);exact PySem.P.repr_of_bool ⟨.str _,H,I.tok _,⟨_,rfl⟩,q _ λds e=>nomatch e⟩
 |int i=>
  obtain⟨t,rfl⟩:∃t,u=.int i t:=rx;exact PySem.P.repr_of_int ha.2 ⟨.str _,H,I.tok _,⟨_,rfl⟩,q _ λds e=>nomatch e⟩
 |str x=>
  obtain⟨t,rfl⟩:∃t,u=.str x t:=rx;exact PySem.P.repr_of_str ⟨.str _,H,I.tok _,⟨_,rfl⟩,q _ λds e=>nomatch e⟩ (ZK (show (reprText x).length<=80 from ha) (by decide))
 |@lst a xs ds e rr=>exact qv6 hr j8 s σ H _ _ Q I r ⟨a,_,rfl,sh.dat,sh.atm,sh.mix,sh.dep,sh.nds,q _ λ_ _=>rfl⟩
 |@tup a xs ds e rr=>exact qv6 hr j8 s σ H _ _ Q I r ⟨a,_,rfl,sh.dat,sh.atm,sh.mix,sh.dep,sh.nds,q _ λ_ _=>rfl⟩
 |@dic a e=>exact qv6 hr j8 s σ H _ _ Q I r ⟨a,_,rfl,sh.dat,sh.atm,sh.mix,sh.dep,sh.nds,q _ λ_ _=>rfl⟩
end L2
namespace Pr
open PySem L2 Qf
theorem q48 {s:Stp}(h:∀x∈qf1 s,x<1000):(dS s).shown.length<=sizeLine:=by
 obtain⟨b1,b2,_,_⟩:=qE7 h;have:=PyData.shown_le_bulk 8 (Ze _) (dS s) b1;have e2:sizeLine=16777216:=by decide
 lia
theorem xA9 (x:Str) (ys:List Str) (h:x∈ys):inV (.str x) (ys.map V.str)=true:=by
 unfold inV;rw[Vd];refine⟨.str x,ZO.mpr ⟨x,h,rfl⟩,?_⟩;simp[eqV]
theorem xg3 (ys:List Str):(ys.map V.str).all qC3=true:=by
 rw[Z6];intro v hv;obtain⟨x,_,rfl⟩:=ZO.mp hv
 rfl
section
variable {P:Program}{w:World}{K:PySem.W.Frag}{mg:Str->Option Value}{base:Heap}
abbrev nI1:List Str:=["_law_steps_here", "_law_thing"]
theorem scI1:FnScope nI1 nI1 (qa4 qM0):=qe9
def spI1:Sp:=λvs H Q _=>∃(l:Addr) (ss:List Stp) (v:V) (d:PyData),vs=[.ref l,v]/\StepsL H l ss/\Few ss/\ss.length<=1000/\Shw H v d/\∀(b:Bool) H',((∃s∈ss,d=dS s)->b=true)->Same H H'->Q (.bl b) H'
theorem xL9 {f:Addr}{fd:FuncData}(F:Fun K "_law_is_one" "_law_is_one" qM0 f fd) (C:Blt2 mg):FnOk P w K mg base CX0 1 f fd nI1 spI1:=by
 refine F.ok scI1 (λvs H Q E h=>?_) (λcdv A outer s0 H vs Q E hr h=>?_)
 ·obtain⟨l,ss,v,d,rfl,_⟩:=h
  rfl
 ·obtain⟨l,ss,v,d,rfl,hS,few,hl,sh,q⟩:=h;refine qi4 ⟨_,⟨qb0 (qm5 q74 (qa7 (q47 hr) (by rfl) C.repr PyProof.Rows.boot_repr (qa0 (pv 1) qa1)) (PEb.go ⟨qf5 nI1 (qa4 qM0) rfl rfl rfl scI1.nd (qQ0 (pv 0)) (λcl Cc fp s₀ H₀=>qa7 (q14 hr) (by rfl) C.repr PyProof.Rows.boot_repr (qa0 (pv 0) qa1))⟩) (by first|exact qc6 _|rfl|decide|with_unfolding_all rfl))⟩,?_⟩;obtain⟨bs,h1,h2,h3⟩:=id hS;refine⟨_,rfl,v,d,rfl,sh,λx hx=>?_⟩;have jJ:(bs.map V.ref).length=ss.length:=by rw[Zb];exact h2
  refine⟨_,rfl,l,rfl,⟨_,SqL.of h1⟩,λD hD=>qe6 hD (λj z _=>∃s,ss[j]?=some s/\z=.str (dS s).shown) (qG3 (K:=K) h1) (by rw[jJ];exact qd2 (by lia)) (λ_ _ _ _ _ _ h=>h) ?_ ?_⟩
  ·intro j y H2 hj hy s2 Q' hq;rw[Zd] at hy;obtain⟨b,hb,rfl⟩:=Zw.mp hy;have vP:j<ss.length:=by have:=(gS_ hb).1;lia
   have hs:ss[j]?=some ss[j]:=Zf vP;have fw:∀x∈qf1 ss[j],x<1000:=few _ (Yu vP);obtain⟨k1,k2,k3,k4⟩:=qE7 fw;refine⟨_,rfl,b,dS ss[j],rfl,qm3 (s2 _ _ (h3 j b _ hb hs)),k3,k4,ZK (qI7 _) (by decide),?_,hq _ _ (Same.refl _) ⟨_,hs,rfl⟩⟩;exact q48 fw
  ·intro ys H2 s2 jG jH jK;have ey:ys=(ss.map λs=>(dS s).shown).map V.str:=by
    refine qi2 (by rw[jH,jJ,Zb,Zb]) λj y hy=>?_;obtain⟨s,e1,rfl⟩:=jK j y hy;rw[Zd,Zd,e1]
    rfl
   subst ey;refine⟨D,_,rfl,.inl (SqL.of jG),rfl,xg3 _,q _ H2 (λ⟨s,hs,e⟩=>?_) s2⟩;refine xA9 x _ (ZO.mpr ⟨s,hs,?_⟩);subst e;exact (hx _ rfl).symm
end
theorem xt8 (x:Nat):∀l:List Nat,inV (.int (x:Nat)) (vN l)=decide (x∈l)
 |[]=>rfl
 |y::l=>by
  show (eqV (.int (y:Nat)) (.int (x:Nat))||inV (.int (x:Nat)) (vN l))=_;rw[xt8 x l];have e:eqV (.int (y:Nat)) (.int (x:Nat))=decide (y=x):=by
   show ((y:Int)==(x:Int))=decide (y=x);rw[YJ];simp only[YG,WB];lia
  rw[e];by_cases h:y=x
  ·rw[Zi h,Bool.true_or,Zi (by rw[h];exact ZC)]
  ·rw[Zk h,Bool.false_or,Yw];exact⟨λz=>Zs _ z,λz=>(Zy.mp z).elim (λe=>absurd e.symm h) id⟩
theorem xB0 (l:List Nat):(vN l).all qC3=true:=by
 rw[Z6];intro v hv;obtain⟨n,_,rfl⟩:=ZO.mp hv
 rfl
def dRw (r:Row):PyData:=dT (r.map λx:Nat=>(x:Int))
theorem qT0 (a b:Row):PyData.eqv (dRw a) (dRw b)=decide (a=b):=by
 unfold dRw;rw[xr2];by_cases h:a=b
 ·rw[h,Zi rfl,Zi rfl]
 ·rw[Zk h,Zk λz=>h (qA0 z)]
theorem qp5 {H:Hp}{b:Addr}{r:Row}(h:H b=some (.tup (vN r))):DataAt H (.ref b) (dRw r):=by
 rw[qE0] at h;exact .tup h (DatasAt.ints _)
theorem qJ1 (r:Row):(dRw r).depth<=60:=ZK (qW3 _) (by decide)
theorem StepsL.push {H:Hp}{p b:Addr}{ss:List Stp}{t:Stp}{xs:List V}(h:StepsL H p ss) (hp:H p=some (.lst xs)) (hb:H b=some (.tup (qf4 t))):StepsL (upd H p (.lst (xs++[.ref b]))) p (ss++[t]):=
 h.app hp rfl λi y u e1 e2=>by
  have hi:i=0:=by
   have:=(gS_ e1).1;simp at this;exact this
  subst hi;cases e1;cases e2;exact⟨b,rfl,hb⟩
def gAt (tp:Nat) (rows:List Row) (k:Nat):List Stp:=if k+2∉used tp rows then [Stp.gone k] else []
def pAt (rows:List Row) (k:Nat):List Stp:=if qh0 (rows.getD k []) then [Stp.plain k] else []
theorem xg4 {rows:List Row}{k:Nat}(hk:k<rows.length):ixs (rows.take k) (rows.getD k [])=(List.range k).filter λj=>decide (rows.getD j []=rows.getD k []):=by
 unfold ixs;rw[ZW,Vj (by lia)];refine List.filter_congr λj hj=>?_;have hj':=Z4.mp hj;rw[Yj hj',Qf.qg5 (by lia),Yw];exact⟨λz=>ZD z,λz=>by rw[z]⟩
section
variable {P:Program}{w:World}{K:PySem.W.Frag}{mg:Str->Option Value}{base:Heap}
abbrev nLs:List Str:=["_law_telling_here", "_law_n", "_law_top", "_law_rows", "_law_used", "_law_row_here", "_law_found", "_law_k"]
theorem scLs:FnScope nLs ["_law_telling_here"] (qa4 qL9):=qe9
def spLs:Sp:=λvs H Q _=>∃(t:Addr) (n tp:Nat) (rows:List Row),vs=[.ref t]/\TellAt H t n tp rows/\qh7 n tp rows/\∀H' q,Same H H'->H q=none->StepsL H' q (srt (qd8 tp rows))->Q (.ref q) H'
theorem xM0 {f:Addr}{fd:FuncData}(F:Fun K "_law_steps" "_law_steps" qL9 f fd) (B:Blt mg) (hso:mg "sorted" = none):FnOk P w K mg base CX0 7 f fd ["_law_telling_here"] spLs:=by
 refine F.ok scLs (λvs H Q E h=>?_) (λcdv A outer s H vs Q E hr h=>?_)
 ·obtain⟨t,n,tp,rows,rfl,_⟩:=h
  rfl
 ·obtain⟨t,n,tp,rows,rfl,hT,tok,q⟩:=h;obtain⟨p,ht,hR⟩:=id hT;obtain⟨bs,hp,j9,jA⟩:=id hR;have jJ:(bs.map V.ref).length=rows.length:=by rw[Zb];exact j9
  obtain⟨_,ok,hl9,_⟩:=tok;refine seqE ⟨_,⟨qp7 (pv 0) (qn7 rfl (qb6 (pgN 1 scLs.nd) (qb6 (pgN 2 scLs.nd) (qb6 (pgN 3 scLs.nd) qj8))))⟩,?_⟩;refine seqE ⟨_,⟨psN 4 scLs.nd (qd1 (qa0 (pv 2) qa1))⟩,?_⟩;refine seqE ⟨_,⟨ql5 Yb rfl (qj9 (pv 3)) (pgN 5 scLs.nd) (qa8 (qd3 (qC4 ZI We Wf q34 (pv 4) (qa0 (pv 5) qa1))))⟩,?_⟩;refine seqE ⟨_,⟨psN 6 scLs.nd (qd1 qa1)⟩,?_⟩;refine seqE ⟨_,⟨ql5 Yb rfl (qr7 (by rfl) B.enum (qa0 (pv 3) qa1)) (qn7 rfl (qb6 (pgN 7 scLs.nd) (qb6 (pgN 5 scLs.nd) qj8)))
   (StI.go (.consI ⟨qf3 (qc4 qK0 (qb8 qf9 (pv 7) qa3) (pv 4) (by first|rfl|decide|with_unfolding_all rfl)) (qa8 (qd3 (qC4 ZI ZS ZT qe5 (pv 6) (qa0 (qf0 (qa0 qb7 (qa0 (pv 7) qa1))) qa1)))) qb5⟩
    (.consI ⟨qf3 (PW.pt (qk9 (qc4 (qU8 hr) (pv 5) (PEb.go qM6) (qc6 _)) (qj0 (qc4 (qU8 hr) (pv 5) (PEb.go qM6) (qc6 _))))) (qa8 (qd3 (qC4 ZI ZS ZT qe5 (pv 6) (qa0 (qf0 (qa0 qb7 (qa0 (pv 7) qa1))) qa1)))) qb5⟩
    (.one ⟨qd3 (PEb.go (qA2 ZI We Wf qK1 ⟨pv 6⟩ (.cons ⟨qL0 nLs (qa4 qL9) rfl rfl rfl scLs.nd (qk0 (by rfl) B.range (qa0 (pv 7) qa1)) (λcl C fp s₀ H₀=>qc4 (qU8 hr) (pxN (ixT K rfl) (pv 4) (pv 0)) (pv 6) (qc6 _)) (λcl C fp s₀ H₀=>qf0 (qa0 qb7 (qa0 (pv 8) (qa0 (pv 0) qa1))))⟩ .nil rfl)))⟩))))⟩,?_⟩
  refine qi4 ⟨_,⟨qb0 (qa7 qw5 (by rfl) hso PyProof.Rows.boot_sorted (qa0 (pv 6) qa1))⟩,?_⟩;refine⟨_,rfl,t,_,rfl,SqT.of ht,rfl,_,_,rfl,_,_,rfl,_,_,rfl,rfl,?_⟩;refine⟨_,rfl,(by show 1<=sizeLine;decide),λU hU=>?_⟩;have keepU':∀{H2:Hp}{o:HO},Same H H2->Same H (upd H2 U o):=λs b o e=>by rw[qa6 (qa5 e hU)];exact s _ _ e
  refine⟨_,rfl,p,rfl,⟨_,SqT.of (qc5 hp hU)⟩,qq0 (K:=K) (xs:=bs.map V.ref) (λi σ H2=>Same H H2/\H2 U=some (.lst (vN (tp::(rows.take i).flatten)))/\(rows.take i).flatten.length<=4*i/\∃v5,σ=[some (.ref t),some (.int (n:Nat)),some (.int (tp:Nat)),some (.ref p),some (.ref U),v5,none,none])
   ⟨qb2 hU,qa2,by simp,none,rfl⟩ (λi σ H2 _ ⟨s2,_⟩=>SqT.of (s2 _ _ hp)) ?_ ?_⟩
  ·rintro i y σ H2 hy ⟨s2,kU,hfl,v5,rfl⟩;have hi:i<rows.length:=by rw[<- jJ];exact (gS_ hy).1
   rw[Zd] at hy;obtain⟨b,hb,rfl⟩:=Zw.mp hy;have jE:rows[i]?=some rows[i]:=by simp[hi]
   have jV:=s2 _ _ (jA i b rows[i] hb jE);have r4:=(ok i _ jE).1;have etk:(rows.take (i+1)).flatten=(rows.take i).flatten++rows[i]:=by rw[Yo hi,List.flatten_append];simp
   refine⟨_,rfl,.inl ⟨rfl,_,SqL.of kU⟩,_,rfl,U,b,_,_,rfl,rfl,kU,jV,by rw[qc2,qc2,r4,ZQ];exact ZX (qd2 (by lia)),?_⟩;refine⟨keepU' s2,?_,by rw[etk,Zj,r4];lia,_,rfl⟩;rw[qa2,xe8,etk];rfl
  ·rintro σ H2 ⟨s2,kU,hfl,v5,rfl⟩;rw[jJ,YE] at kU;refine⟨(by show 0<=sizeLine;decide),λS hS=>?_⟩;have hSn:H S=none:=by
    cases e:H S with
    |none=>rfl
    |some o=>rw[s2 _ _ e] at hS;cases hS
   have nUS:U≠S:=qa5 kU hS;have keepS:∀{H2:Hp}{o:HO},Same H H2->Same H (upd H2 S o):=λs b o e=>by rw[qa6 (qa5 e hSn)];exact s _ _ e
   have w5:upd H2 S (.lst []) U=some (.lst (vN (used tp rows))):=by rw[qa6 nUS];exact kU
   have s3:Same H (upd H2 S (.lst [])):=keepS s2;refine⟨_,rfl,p,rfl,⟨_,SqT.of (s3 _ _ hp)⟩,qN8 (K:=K) (xs:=bs.map V.ref) (λi σ H2=>Same H H2/\H2 U=some (.lst (vN (used tp rows)))/\StepsL H2 S ((List.range i).flatMap λk=>gAt tp rows k++(pAt rows k++sameAt rows k))/\∃v5 v7,σ=[some (.ref t),some (.int (n:Nat)),some (.int (tp:Nat)),some (.ref p),some (.ref U),v5,some (.ref S),v7])
    (λi σ H2 ⟨s2,_⟩=>s2 _ _ hp) ⟨s3,w5,⟨[],qa2,rfl,λi b s e=>by simp at e⟩,v5,none,rfl⟩ ?_ ?_⟩
   ·rintro i y σ H4 a hy ⟨s4,hu4,st4,v5,v7,rfl⟩ ha;have hi:i<rows.length:=by rw[<- jJ];exact (gS_ hy).1
    rw[Zd] at hy;obtain⟨b,hb,rfl⟩:=Zw.mp hy;have hg:=qg5 hi;have hb0:=jA i b _ hb hg;refine⟨a,_,rfl,SqT.of qa2,rfl,_,[.ref b],rfl,.ref b,[],rfl,rfl,?_⟩;have s5:Same H (upd H4 a (.tup [.int (i:Nat),.ref b])):=s4.trans (qb2 ha);have hu5:=qc5 (u:=.tup [.int (i:Nat),.ref b]) hu4 ha;have st5:=st4.same (qb2 (o:=.tup [.int (i:Nat),.ref b]) ha);have few:∀i,i<=rows.length->((List.range i).flatMap λk=>gAt tp rows k++(pAt rows k++sameAt rows k)).length<=1*902*i:=λi hi'=>by
     have:=qt2 (f:=λk=>gAt tp rows k++(pAt rows k++sameAt rows k)) (c:=902) (λk=>by
      have a1:=qm2 rows k;have a2:(gAt tp rows k).length<=1:=by unfold gAt;split<;>simp
      have a3:(pAt rows k).length<=1:=by unfold pAt;split<;>simp
      simp only[Zj];lia) i
     lia
    have few0:=few i (by lia);generalize hss:((List.range i).flatMap λk=>gAt tp rows k++(pAt rows k++sameAt rows k))=ss at st5 few0;generalize upd H4 a (.tup [.int (i:Nat),.ref b])=H5 at s5 hu5 st5;refine⟨λσ' H'=>Same H H'/\H' U=some (.lst (vN (used tp rows)))/\StepsL H' S (ss++gAt tp rows i)/\σ'=[some (.ref t),some (.int (n:Nat)),some (.int (tp:Nat)),some (.ref p),some (.ref U),some (.ref b),some (.ref S),some (.int (i:Nat))],?_,?_⟩
    ·refine⟨_,rfl,_,_,rfl,rfl,_,rfl,U,_,rfl,.inl (SqL.of hu5),rfl,xB0 _,_,rfl,?_⟩;have e:inV (.int ((i:Int)+2)) (vN (used tp rows))=decide (i+2∈used tp rows):=xt8 (i+2) _;show if (!inV (.int ((i:Int)+2)) (vN (used tp rows)))=true then _ else _
     rw[e];by_cases hc:i+2∈used tp rows
     ·rw[Zi hc];refine iteF ⟨s5,hu5,?_,rfl⟩;unfold gAt;rw[Zo (not_not_intro hc),YK];exact st5
     ·rw[Zk hc];obtain⟨bs5,vT,vU,_⟩:=id st5;refine iteT ⟨_,rfl,.inl ⟨rfl,_,SqL.of vT⟩,_,rfl,(by show 2<=sizeLine;decide),λc hc'=>?_⟩;refine⟨S,_,_,rfl,rfl,qc5 vT hc',by rw[Zb,vU];exact qd2 (by lia),?_⟩;have st6:=(st5.same (qb2 (o:=.tup (qf4 (.gone i))) hc')).push (qc5 vT hc') (t:=.gone i) (b:=c) qa2;refine⟨keepS (s5.trans (qb2 hc')),by rw[qa6 nUS];exact qc5 hu5 hc',?_,rfl⟩;unfold gAt;rw[Zr hc];exact st6
    ·rintro σ' H' ⟨s6,hu6,st6,rfl⟩;have few1:(ss++gAt tp rows i).length<=902*i+1:=by
      have a2:(gAt tp rows i).length<=1:=by unfold gAt;split<;>simp
      rw[Zj];lia
     refine⟨λσ' H'=>Same H H'/\H' U=some (.lst (vN (used tp rows)))/\StepsL H' S (ss++gAt tp rows i++pAt rows i)/\σ'=[some (.ref t),some (.int (n:Nat)),some (.int (tp:Nat)),some (.ref p),some (.ref U),some (.ref b),some (.ref S),some (.int (i:Nat))],?_,?_⟩
     ·refine⟨_,rfl,(by show 4<=sizeLine;decide),λc1 vX=>?_⟩;have d1:=qp5 (qc5 (u:=.tup (vN [0,0,0,0])) (s6 _ _ hb0) vX);have d2:DataAt (upd H' c1 (.tup (vN [0,0,0,0]))) (.ref c1) (dRw [0,0,0,0]):=qp5 qa2;refine⟨_,_,d1,d2,qr6 _,qr6 _,qJ1 _,_,rfl,?_⟩;rw[qT0];have s7:=s6.trans (qb2 (o:=.tup (vN [0,0,0,0])) vX);have hu7:=qc5 (u:=.tup (vN [0,0,0,0])) hu6 vX;have st7:=st6.same (qb2 (o:=.tup (vN [0,0,0,0])) vX);by_cases h0:rows.getD i []=[0,0,0,0]
      ·rw[Zi h0];have jQ:qh0 (rows.getD i []):=.inl h0;refine iteT (iteT ?_);obtain⟨bs7,vH,vM,_⟩:=id st7;refine⟨_,rfl,.inl ⟨rfl,_,SqL.of vH⟩,_,rfl,(by show 2<=sizeLine;decide),λc hc'=>?_⟩;refine⟨S,_,_,rfl,rfl,qc5 vH hc',by rw[Zb,vM];exact qd2 (by lia),?_⟩;have st8:=(st7.same (qb2 (o:=.tup (qf4 (.plain i))) hc')).push (qc5 vH hc') (t:=.plain i) (b:=c) qa2;refine⟨keepS (s7.trans (qb2 hc')),by rw[qa6 nUS];exact qc5 hu7 hc',?_,rfl⟩;unfold pAt;rw[Zr jQ];exact st8
      ·rw[Zk h0];refine iteF ⟨_,rfl,(by show 4<=sizeLine;decide),λc2 kK=>?_⟩;have d3:=qp5 (qc5 (u:=.tup (vN [1,1,1,1])) (s7 _ _ hb0) kK);refine⟨_,_,d3,qp5 (r:=[1,1,1,1]) qa2,qr6 _,qr6 _,qJ1 _,_,rfl,?_⟩;rw[qT0];have s8:=s7.trans (qb2 (o:=.tup (vN [1,1,1,1])) kK);have hu8:=qc5 (u:=.tup (vN [1,1,1,1])) hu7 kK;have st8:=st7.same (qb2 (o:=.tup (vN [1,1,1,1])) kK);by_cases h1:rows.getD i []=[1,1,1,1]
       ·rw[Zi h1];have jQ:qh0 (rows.getD i []):=.inr h1;have s7:=s8;have hu7:=hu8;have st7:=st8;refine iteT ?_;obtain⟨bs7,vH,vM,_⟩:=id st7;refine⟨_,rfl,.inl ⟨rfl,_,SqL.of vH⟩,_,rfl,(by show 2<=sizeLine;decide),λc hc'=>?_⟩;refine⟨S,_,_,rfl,rfl,qc5 vH hc',by rw[Zb,vM];exact qd2 (by lia),?_⟩;have st8:=(st7.same (qb2 (o:=.tup (qf4 (.plain i))) hc')).push (qc5 vH hc') (t:=.plain i) (b:=c) qa2;refine⟨keepS (s7.trans (qb2 hc')),by rw[qa6 nUS];exact qc5 hu7 hc',?_,rfl⟩;unfold pAt;rw[Zr jQ];exact st8
       ·rw[Zk h1];refine iteF ⟨s8,hu8,?_,rfl⟩;unfold pAt;rw[Zo (by rintro (z|z);exact h0 z;exact h1 z),YK];exact st8
     ·rintro σ' H7 ⟨s7,hu7,st7,rfl⟩;have few2:(ss++gAt tp rows i++pAt rows i).length<=902*i+2:=by
       have a3:(pAt rows i).length<=1:=by unfold pAt;split<;>simp
       rw[Zj];lia
      obtain⟨bs7,vH,vM,_⟩:=id st7;have k6:=s7 _ _ hp;refine⟨_,rfl,.inl ⟨rfl,_,SqL.of vH⟩,_,rfl,_,rfl,by lia,by lia,λD hD=>qq7 hD (λj=>decide (rows.getD j []=rows.getD i [])) (λj z H3=>∃b,z=.ref b/\H3 b=some (.tup (qf4 (.same i j)))) qV7 (qd2 (by lia)) (λi y H1 H2 t ⟨b,h1,h2⟩=>⟨b,h1,t _ _ h2⟩) ?_ ?_⟩
      ·rintro j x H8 hj rfl s8 os ho Q1 Q2 q1 q2
       match os,ho with
       |[o1],_=>
        have hj':j<i:=by simpa using hj
        have hbj:bs[j]?=some (bs[j]'(by lia)):=by simp[show j<bs.length by lia]
        have hgj:=qg5 (show j<rows.length by lia);have s78:=s7.trans s8;refine⟨_,rfl,_,rfl,p,_,(j:Int),.ref (bs[j]'(by lia)),rfl,rfl,SqT.of (s8 _ _ k6),qe3 (by rw[Zd,hbj];rfl),_,rfl,_,_,qp5 (s78 _ _ (jA j _ _ hbj hgj)),qp5 (s78 _ _ hb0),qr6 _,qr6 _,qJ1 _,_,rfl,?_⟩;rw[qT0];refine ite2 (λhc=>?_) (λhc=>?_)
        ·exact⟨_,rfl,_,rfl,(by show 3<=sizeLine;decide),λc hc'=>q2 hc _ _ (qb2 hc') ⟨c,rfl,qa2⟩⟩
        ·exact q1 (W7.mpr hc) H8 (Same.refl _)
      ·intro ys H8 s8 hd8 jH jK;have hS8:=s8 _ _ vH;have eL:sameAt rows i=((List.range i).filter λj=>decide (rows.getD j []=rows.getD i [])).map (Stp.same i):=by
        unfold sameAt;rw[xg4 hi]
       have hyl:ys.length<=rows.length:=by
        have:=qm2 rows i;rw[eL,Zb] at this;exact ZK (XV jH) this
       refine⟨S,D,_,ys,rfl,rfl,hS8,hd8,by rw[Zb,vM];exact ZX (qd2 (by lia)),?_⟩;have st9:=(st7.same s8).app (ts:=sameAt rows i) (ys:=ys) hS8 (by rw[eL,Zb];exact jH) (λm y u h1 h2=>by
        rw[eL,Zd] at h2;obtain⟨j,hj,rfl⟩:=Zw.mp h2;exact jK m y j h1 hj)
       refine⟨keepS (s7.trans s8),by rw[qa6 nUS];exact s8 _ _ hu7,?_,_,_,rfl⟩;rw[qt1,hss];simp only[Z3] at st9 ⊢;exact st9
   ·rintro σ H4 ⟨s4,hu4,st4,v5',v7,rfl⟩;rw[jJ] at st4;refine⟨_,rfl,S,_,rfl,st4,λq' H5 s5 hq' st5=>q H5 q' (s4.trans s5) ?_ ?_⟩
    ·cases e:H q' with
     |none=>rfl
     |some o=>rw[s4 _ _ e] at hq';cases hq'
    ·have pm:((List.range rows.length).flatMap λk=>gAt tp rows k++(pAt rows k++sameAt rows k)).Perm (qd8 tp rows):=q37;rw[xF6 pm] at st5;exact st5
end
end Pr
namespace L2
open PySem PySem.Spec PyProof.Rows
noncomputable def era (p:Addr->Prop) (H:Hp):Hp:=open Classical in λa=>if p a then none else H a
theorem era_at {p:Addr->Prop}{a:Addr}{H:Hp}{o:HO}:era p H a=some o<->¬p a/\H a=some o:=by
 unfold era;by_cases h:p a
 ·rw[Zr h];exact⟨(λz=>nomatch z),λz=>absurd h z.1⟩
 ·rw[Zo h];exact⟨λz=>⟨h,z⟩,λz=>z.2⟩
theorem qq9 {p:Addr->Prop}{H:Hp}:Same (era p H) H:=λb o e=>(era_at.mp e).2
theorem qT1 {p q:Addr->Prop}{H H':Hp}(k:∀a,q a->p a) (s:∀b o,H b=some o->¬p b->H' b=some o):Same (era p H) (era q H'):=λb o e=>era_at.mpr ⟨λz=>(era_at.mp e).1 (k b z),s _ _ (era_at.mp e).2 (era_at.mp e).1⟩
theorem qb4 {p:Addr->Prop}{H H':Hp}(s:Same H H'):Same (era p H) (era p H'):=qT1 (λ_ z=>z) λb o e _=>s _ _ e
def LsAt (p:Addr->Prop) (H:Hp):Prop:=∀a,p a->∃l,H a=some (.lst l)
def Yd (p:Addr->Prop) (H0:Hp) (σ:St) (te:TE) (d:PyData):Prop:=∀H,Same H0 H->∀Q:VK,(∀v H',Same H H'->DatX (era p H') v d->Q v H')->te σ H Q
inductive Yds (p:Addr->Prop) (H0:Hp) (σ:St):List TE->List PyData->Prop
 |nil:Yds p H0 σ [] []
 |cons {t:TE}{ts:List TE}{d:PyData}{ds:List PyData}(h:Yd p H0 σ t d) (r:Yds p H0 σ ts ds):Yds p H0 σ (t::ts) (d::ds)
section
variable {p:Addr->Prop}{H0:Hp}{σ:St}
theorem xg5 {ts:List TE}{ds:List PyData}(y:Yds p H0 σ ts ds):∀{H:Hp},Same H0 H->∀Q:List V->Hp->Prop,(∀vs H',Same H H'->DatsX (era p H') vs ds->Q vs H')->tAll ts σ H Q:=by
 induction y with
 |nil=>exact λs Q h=>h [] _ (Same.refl _) .nil
 |cons y r ih=>exact λs Q h=>y _ s _ λv H1 s1 d1=>ih (s.trans s1) _ λvs H2 s2 d2=>h _ _ (s1.trans s2) (.cons (d1.same (qb4 s2)) d2)
theorem qJ2 {H:Hp}{b:Addr}{o:HO}(hp:LsAt p H0) (s:Same H0 H) (hb:H b=none):era p (upd H b o) b=some o:=era_at.mpr ⟨(λz=>by obtain⟨l,e⟩:=hp b z;rw[s _ _ e] at hb;cases hb),qa2⟩
theorem qb3 (i:Int):Yd p H0 σ (tC (.int i)) (.int i):=λH s Q q=>q _ _ (Same.refl _) (.int i)
theorem qf7 (x:Str):Yd p H0 σ (tC (.str x)) (.str x):=λH s Q q=>q _ _ (Same.refl _) (.str x)
theorem q49 (b:Bool):Yd p H0 σ (tC (.bl b)) (.bool b):=λH s Q q=>q _ _ (Same.refl _) (.bl b)
theorem qP3:Yd p H0 σ (tC .non) .none:=λH s Q q=>q _ _ (Same.refl _) .non
theorem qb1 {i:Nat}{v:V}{d:PyData}(e:σ[i]?=some (some v)) (h:DatX (era p H0) v d):Yd p H0 σ (tVar i) d:=λH s Q q=>⟨v,e,q _ _ (Same.refl _) (h.same (qb4 s))⟩
theorem qZ6 (i:Int):Yd p H0 σ (tUn (rU λi=>.int (-i)) (tC (.int i))) (.int (-i)):=λH s Q q=>⟨i,rfl,q _ _ (Same.refl _) (.int _)⟩
theorem xg6 {i:Nat}{k j:Int}(e:σ[i]?=some (some (.int k))):Yd p H0 σ (tOp (rI0 λi j=>.int (i+j)) (tVar i) (tC (.int j))) (.int (k+j)):=λH s Q q=>⟨_,e,k,j,rfl,rfl,q _ _ (Same.refl _) (.int _)⟩
theorem qt6 {H:Hp}{v:V}{ds:List PyData}(h:DatX H v (.tuple ds)):∃a xs,v=.ref a/\H a=some (.tup xs)/\DatsX H xs ds:=by
 cases h with
 |tup h r=>exact⟨_,_,rfl,h,r⟩
theorem qP4 {H:Hp}:∀{xs ys:List V}{a b:List PyData},DatsX H xs a->DatsX H ys b->DatsX H (xs++ys) (a++b)
 |_,_,_,_,.nil,h=>h
 |_,_,_,_,.cons h r,g=>.cons h (qP4 r g)
theorem qE8 {H:Hp}:∀(k:Nat){xs:List V}{a:List PyData},DatsX H xs a->DatsX H (xs.drop k) (a.drop k)
 |0,_,_,h=>h
 |_+1,_,_,.nil=>.nil
 |k+1,_,_,.cons _ r=>qE8 k r
def Hs (p:Addr->Prop) (R:PyData->Prop):Hp->V->Prop:=λH v=>∃d,DatX (era p H) v d/\R d
theorem qv7 {R:PyData->Prop}:∀H H' v,Same H H'->Hs p R H v->Hs p R H' v:=λH H' v s ⟨d,h,r⟩=>⟨d,h.same (qb4 s),r⟩
theorem qc7 {R:PyData->Prop}{te:TE}{d:PyData}(y:Yd p H0 σ te d) (r:R d):Yl H0 σ (Hs p R) te:=λH s Q q=>y H s Q λv H' s' h=>q v H' s' ⟨d,h,r⟩
variable (hp:LsAt p H0)
include hp
theorem xg7:Yd p H0 σ xr4 (.dict []):=λH s Q q b hb=>q _ _ (qb2 hb) (.dic (qJ2 hp s hb))
theorem qn4 {ts:List TE}{ds:List PyData}(y:Yds p H0 σ ts ds) (h:ds.length<=sizeLine):Yd p H0 σ (tTup (tAll ts)) (.tuple ds):=λH s Q q=>xg5 y s _ λvs H1 s1 d1=>⟨by rw[d1.length];exact h,λb hb=>q _ _ (s1.trans (qb2 hb)) (.tup (qJ2 hp (s.trans s1) hb) (d1.same (qb4 (qb2 hb))))⟩
theorem qE9 {ts:List TE}{ds:List PyData}(y:Yds p H0 σ ts ds) (h:ds.length<=sizeLine):Yd p H0 σ (tLst (tAll ts)) (.list ds):=λH s Q q=>xg5 y s _ λvs H1 s1 d1=>⟨by rw[d1.length];exact h,λb hb=>q _ _ (s1.trans (qb2 hb)) (.lst (qJ2 hp (s.trans s1) hb) (d1.same (qb4 (qb2 hb))))⟩
theorem qB9 {H:Hp}(s:Same H0 H){b:Addr}{xs:List V}(h:H b=some (.tup xs)):era p H b=some (.tup xs):=era_at.mpr ⟨(λz=>by obtain⟨l,e⟩:=hp b z;rw[s _ _ e] at h;cases h),h⟩
theorem qm4 {ta tb:TE}{a b:List PyData}(ya:Yd p H0 σ ta (.tuple a)) (yb:Yd p H0 σ tb (.tuple b)) (h:a.length+b.length<=sizeLine) :
  Yd p H0 σ (tOp (λx y H Q=>∃a b xs ys,x=.ref a/\y=.ref b/\H a=some (.tup xs)/\H b=some (.tup ys)/\xs.length+ys.length<=sizeLine/\∀p H',H' p=some (.tup (xs++ys))->(H'=H\/H p=none/\H'=upd H p (.tup (xs++ys)))->Q (.ref p) H') ta tb) (.tuple (a++b)):=λH s Q q=>ya H s _ λv1 H1 s1 d1=>yb H1 (s.trans s1) _ λv2 H2 s2 d2=>by
 obtain⟨c1,xs,rfl,h1,r1⟩:=qt6 (d1.same (qb4 s2));obtain⟨c2,ys,rfl,h2,r2⟩:=qt6 d2;refine⟨c1,c2,xs,ys,rfl,rfl,(era_at.mp h1).2,(era_at.mp h2).2,by rw[r1.length,r2.length];exact h,λc H' hc o=>?_⟩;have s3:Same H2 H':=Pr.ql2 o;exact q _ _ ((s1.trans s2).trans s3) (.tup (qB9 hp (((s.trans s1).trans s2).trans s3) hc) (qP4 (r1.same (qb4 s3)) (r2.same (qb4 s3))))
theorem xg8 {K:PySem.W.Frag}{ta:TE}{a:List PyData}(ya:Yd p H0 σ ta (.tuple a)) :
  Yd p H0 σ (tCB (λxs H Q=>∃p ys,xs=[.ref p]/\(SqL K H p ys\/SqT K H p ys)/\∀l,H l=none->Q (.ref l) (upd H l (.lst ys))) (qz0 ta tNil)) (.list a):=λH s Q q=>ya H s _ λv1 H1 s1 d1=>by
 obtain⟨c1,xs,rfl,h1,r1⟩:=qt6 d1;exact⟨c1,xs,rfl,.inr (SqT.of (era_at.mp h1).2),λb hb=>q _ _ (s1.trans (qb2 hb)) (.lst (qJ2 hp (s.trans s1) hb) (r1.same (qb4 (qb2 hb))))⟩
theorem qT2 {ta:TE}{a:List PyData}{k:Nat}(ya:Yd p H0 σ ta (.tuple a)) (hk:k<=a.length) :
  Yd p H0 σ (tSl (λx lo hi H Q=>∃a xs,x=.ref a/\H a=some (.tup xs)/\∀p H',H' p=some (.tup (cutV xs lo hi))->(H'=H\/H p=none/\H'=upd H p (.tup (cutV xs lo hi)))->Q (.ref p) H') ta (xC8 (tC (.int (k:Nat)))) q69) (.tuple (a.drop k)):=λH s Q q=>ya H s _ λv1 H1 s1 d1=>by
 obtain⟨c1,xs,rfl,h1,r1⟩:=qt6 d1;refine⟨_,rfl,c1,xs,rfl,(era_at.mp h1).2,λc H' hc o=>?_⟩;have s3:Same H1 H':=Pr.ql2 o;rw[Pr.qI8 (by rw[r1.length];exact hk)] at hc;exact q _ _ (s1.trans s3) (.tup (qB9 hp ((s.trans s1).trans s3) hc) (qE8 k (r1.same (qb4 s3))))
omit hp in
theorem qt7 {X:Cx}{a:Expr}{ta:TE}{x1:Nat}{pos:Pos}(ha:PE X a ta) (na:qm1 a=false:=by rfl):PE X (.Tuple [a] x1 pos) (tTup (tAll [ta])):=qf0 (@PAs.pa _ _ _ (.cons ha .nil na))
omit hp in
theorem qw7 {X:Cx}{a b:Expr}{ta tb:TE}{x1:Nat}{pos:Pos}(ha:PE X a ta) (hb:PE X b tb) (na:qm1 a=false:=by rfl) (nb:qm1 b=false:=by rfl):PE X (.Tuple [a,b] x1 pos) (tTup (tAll [ta,tb])):=qf0 (@PAs.pa _ _ _ (.cons ha (.cons hb .nil nb) na))
omit hp in
theorem qi8 {X:Cx}{a b c:Expr}{ta tb tc:TE}{x1:Nat}{pos:Pos}(ha:PE X a ta) (hb:PE X b tb) (hc:PE X c tc) (na:qm1 a=false:=by rfl) (nb:qm1 b=false:=by rfl) (nc:qm1 c=false:=by rfl):PE X (.Tuple [a,b,c] x1 pos) (tTup (tAll [ta,tb,tc])):=qf0 (@PAs.pa _ _ _ (.cons ha (.cons hb (.cons hc .nil nc) nb) na))
omit hp in
theorem qT3 {X:Cx}{a b c d:Expr}{ta tb tc td:TE}{x1:Nat}{pos:Pos}(ha:PE X a ta) (hb:PE X b tb) (hc:PE X c tc) (hd:PE X d td) (na:qm1 a=false:=by rfl) (nb:qm1 b=false:=by rfl) (nc:qm1 c=false:=by rfl) (nd:qm1 d=false:=by rfl):PE X (.Tuple [a,b,c,d] x1 pos) (tTup (tAll [ta,tb,tc,td])):=qf0 (@PAs.pa _ _ _ (.cons ha (.cons hb (.cons hc (.cons hd .nil nd) nc) nb) na))
theorem qt8 {ta:TE}{a:PyData}(ya:Yd p H0 σ ta a):Yd p H0 σ (tTup (tAll [ta])) (.tuple [a]):=qn4 hp (.cons ya .nil) (by show 1<=sizeLine;decide)
theorem qw8 {ta tb:TE}{a b:PyData}(ya:Yd p H0 σ ta a) (yb:Yd p H0 σ tb b):Yd p H0 σ (tTup (tAll [ta,tb])) (.tuple [a,b]):=qn4 hp (.cons ya (.cons yb .nil)) (by show 2<=sizeLine;decide)
theorem qi9 {ta tb tc:TE}{a b c:PyData}(ya:Yd p H0 σ ta a) (yb:Yd p H0 σ tb b) (yc:Yd p H0 σ tc c):Yd p H0 σ (tTup (tAll [ta,tb,tc])) (.tuple [a,b,c]):=qn4 hp (.cons ya (.cons yb (.cons yc .nil))) (by show 3<=sizeLine;decide)
theorem qT4 {ta tb tc td:TE}{a b c d:PyData}(ya:Yd p H0 σ ta a) (yb:Yd p H0 σ tb b) (yc:Yd p H0 σ tc c) (yd:Yd p H0 σ td d):Yd p H0 σ (tTup (tAll [ta,tb,tc,td])) (.tuple [a,b,c,d]):=qn4 hp (.cons ya (.cons yb (.cons yc (.cons yd .nil)))) (by show 4<=sizeLine;decide)
structure Bag (p:Addr->Prop) (R:PyData->Prop) (H0:Hp) (k:Nat) (D:Addr) (H:Hp):Prop where
 ex:∃xs H1,Same H0 H1/\H1 D=none/\Same H1 H/\H D=some (.lst xs)/\xs.length=k/\∀x∈xs,Hs p R H1 x
omit hp in
theorem Bag.same {R:PyData->Prop}{k:Nat}{D:Addr}{H:Hp}(b:Bag p R H0 k D H):Same H0 H:=by
 obtain⟨xs,H1,s,_,t,_⟩:=b;exact s.trans t
omit hp in
theorem qZ7 {R:PyData->Prop}{k m:Nat}{D E:Addr}{H2 H3:Hp}{vs:List V}(b:Bag p R H0 k D H2) (s3:Same H2 H3) (l3:vs.length=m) (r3:∀v∈vs,Hs p R H3 v) (hE:H3 E=none) :
  ∃xs,upd H3 E (.lst vs) D=some (.lst xs)/\xs.length=k/\∀G,upd H3 E (.lst vs) G=none->Bag p R H0 (k+m) G (upd (upd H3 E (.lst vs)) G (.lst (xs++vs))):=by
 obtain⟨xs,H1,s1,hn,s2,hD,lx,hx⟩:=b;refine⟨xs,qc5 (s3 _ _ hD) hE,lx,λG hG=>⟨xs++vs,upd H3 E (.lst vs),((s1.trans s2).trans s3).trans (qb2 hE),hG,qb2 hG,qa2,by rw[Zj,lx,l3],λx hx'=>?_⟩⟩;rcases Z2.mp hx' with h|h
 ·exact qv7 _ _ _ ((s2.trans s3).trans (qb2 hE)) (hx x h)
 ·exact qv7 _ _ _ (qb2 hE) (r3 x h)
omit hp in
theorem xg9 {R:PyData->Prop}{ts:List TE}(y:Yls H0 σ (Hs p R) ts) (hl:ts.length<=100) (Q:VK) (q:∀D H',Bag p R H0 ts.length D H'->Q (.ref D) H'):tLst (tAll ts) σ H0 Q:=
 qZ0 qv7 (Same.refl _) y _ λvs H1 s1 l1 r1=>⟨by rw[l1];exact ZX (qh4 (by lia)),λD hD=>q D _ ⟨vs,H1,s1,hD,qb2 hD,qa2,l1,r1⟩⟩
omit hp in
theorem qr0 {R:PyData->Prop}{ts:List TE}{i k:Nat}{D:Addr}{H2:Hp}(b:Bag p R H0 k D H2) (e:σ[i]?=some (some (.ref D))) (y:Yls H2 σ (Hs p R) ts) (hl:k+ts.length<=100) (Q:VK) (q:∀D H',Bag p R H0 (k+ts.length) D H'->Q (.ref D) H') :
  tOp rCat (tVar i) (tLst (tAll ts)) σ H2 Q:=by
 refine⟨_,e,qZ0 qv7 (Same.refl _) y _ λvs H3 s3 l3 r3=>⟨by rw[l3];exact ZX (qh4 (by lia)),λE hE=>?_⟩⟩;obtain⟨xs,hx,lx,nx⟩:=qZ7 b s3 l3 r3 hE;exact⟨D,E,xs,vs,rfl,rfl,hx,qa2,by rw[lx,l3];exact ZX (qh4 (by lia)),λG hG=>q G _ (nx G hG)⟩
omit hp in
theorem qg7 {te:TE}{i:Nat}{rest:TS}{k:Ends}{H:Hp}(h:te σ H λv H'=>rest k (σ.set i (some v)) H'):tSeq (tAsg te (qh3 i)) rest k σ H:=h
omit hp in
theorem qk3 {f:St->Hp->Prop}{σ':St}{H:Hp}(e:σ=σ') (h:f σ' H):f σ H:=by rw[e];exact h
theorem xt9 {R:PyData->Prop}{k:Nat}{D:Addr}{H2:Hp}(b:Bag p R H0 k D H2):LsAt (λa=>p a\/a=D) H2:=by
 obtain⟨xs,H1,s1,hn,s2,hD,lx,hx⟩:=b;intro a z;rcases z with z|rfl
 ·obtain⟨l,e⟩:=hp a z;exact⟨l,(s1.trans s2) _ _ e⟩
 ·exact⟨_,hD⟩
omit hp in
theorem xh0 {R:PyData->Prop}{k:Nat}{D:Addr}{H2 H3:Hp}{v:V}{d:PyData}(b:Bag p R H0 k D H2) (s3:Same H2 H3) (d3:DatX (era (λa=>p a\/a=D) H3) v d) (r:R d):∃xs,H3 D=some (.lst xs)/\xs.length=k/\Bag p R H0 (k+1) D (upd H3 D (.lst (xs++[v]))):=by
 obtain⟨xs,H1,s1,hn,s2,hD,lx,hx⟩:=b;have s13:Same H1 (era (λa=>a=D) H3):=λa o e=>era_at.mpr ⟨(λz=>by rw[z,hn] at e;cases e),(s2.trans s3) _ _ e⟩;refine⟨xs,s3 _ _ hD,lx,⟨xs++[v],era (λa=>a=D) H3,s1.trans s13,?_,λa o e=>?_,qa2,by rw[Zj,lx];rfl,λx hx'=>?_⟩⟩
 ·cases e:era (λa=>a=D) H3 D with
  |none=>rfl
  |some o=>exact absurd rfl (era_at.mp e).1
 ·rw[qa6 (era_at.mp e).1];exact (era_at.mp e).2
 ·rcases Z2.mp hx' with h|h
  ·exact qv7 _ _ _ s13 (hx x h)
  ·have:x=v:=by simpa using h
   subst this;exact⟨d,d3.same λa o e=>era_at.mpr ⟨λz=>(era_at.mp e).1 (.inl z),era_at.mpr ⟨λz=>(era_at.mp e).1 (.inr z),(era_at.mp e).2⟩⟩,r⟩
omit hp in
theorem qZ8 {R:PyData->Prop}{k i:Nat}{pp D:Addr}{H H':Hp}{o:HO}(b:Bag (λa=>a=pp) R H0 k D H) (hpp:H0 pp=some o) (but:∀b o,H b=some o->b≠pp->H' b=some o) (hi:i<k):∃xs x d,H' D=some (.lst xs)/\xs[i]?=some x/\DatX (era (λa=>a=pp) H') x d/\R d:=by
 obtain⟨xs,H1,s1,hn,s2,hD,lx,hx⟩:=b;have ne:D≠pp:=λz=>by rw[z,s1 _ _ hpp] at hn;cases hn
 have hi':i<xs.length:=by lia
 obtain⟨d,h1,h2⟩:=hx xs[i] (Yu hi');exact⟨xs,xs[i],d,but _ _ hD ne,by simp[hi'],h1.same ((qb4 s2).trans (qT1 (λ_ z=>z) but)),h2⟩
end
end L2
namespace L2
open PySem
theorem LsAt.mono {p:Addr->Prop}{H H':Hp}(h:LsAt p H) (s:Same H H'):LsAt p H':=λa z=>let ⟨l,e⟩:=h a z;⟨l,s _ _ e⟩
theorem xp0 {p:Addr->Prop}{H:Hp}(h:LsAt p H):Tups H (era p H):=λb xs e=>qB9 h (Same.refl _) e
end L2
namespace Pr
open PySem L2 Qf
def NoT (d:PyData):Prop:=Bnd d/\¬IsTl d
theorem qC8 {d:PyData}(h:∀a b c,d≠.tuple [a,b,c]):NoT d:=⟨λa b ds e=>absurd e (h _ _ _),λ⟨n,tp,rows,e,_⟩=>absurd e (h _ _ _)⟩
theorem qg8 {a b c:PyData}(hb:∀ds,c=.tuple ds->ds.length<=900) (no:∀(n tp:Nat) rows,a=.int (n:Nat)->b=.int (tp:Nat)->c=.tuple (rows.map dR)->¬qh7 n tp rows):NoT (.tuple [a,b,c]):=by
 refine⟨λe0 e1 ds e=>?_,λ⟨n,tp,rows,e,c⟩=>?_⟩
 ·injection e with e
  injection e with _ e
  injection e with _ e
  injection e with e _
  exact hb ds e
 ·unfold qq3 at e;injection e with e
  injection e with a e
  injection e with b e
  injection e with e _
  exact no n tp rows a b e c
theorem xp1 {a b:List Row}(h:PyData.tuple (a.map dR)=.tuple (b.map dR)):a=b:=(Xw (λ_ _ z=>xb5 z)).mp (Ye h)
theorem xB1 {n tp:Nat}{rows:List Row}(h:PyData.int 13=.int (n:Nat)):¬qh7 n tp rows:=λc=>by
 have h3:=YW h;have:=c.1;lia
theorem xH9 {n tp:Nat}{rows rows':List Row}(h1:PyData.int ((rows.length:Int)+2)=.int (tp:Nat)) (h2:PyData.tuple (rows.map dR)=.tuple (rows'.map dR)):¬qh7 n tp rows':=λc=>by
 have:=xp1 h2;subst this;have h3:=YW h1;have:=c.2.2.2.1;lia
theorem xh1 {rows rows':List Row}{x:PyData}(h:PyData.tuple (rows.map dR++[x])=.tuple (rows'.map dR)):∃r,rows'=rows++[r]/\x=dR r:=by
 have e:=Ye h;have hl:=Yr List.length e;rw[Zj,Zb,Zb] at hl;have hl:rows.length+1=rows'.length:=hl;refine⟨rows'[rows.length]'(by lia),?_,?_⟩
 ·refine YZ λi=>?_;have ei:=Yr (λl:List PyData=>l[i]?) e;by_cases hi:i<rows.length
  ·rw[Zg (by rw[Zb];exact hi),Zd,Zd,Zf hi,Zf (show i<rows'.length by lia)] at ei;rw[Zg hi,Zf hi,Zf (show i<rows'.length by lia)];exact Yr some (xb5 (ZD ei)).symm
  ·by_cases v0:i=rows.length
   ·subst v0;rw[Zh (Ze _),WA,Zf (show rows.length<rows'.length by lia)]
    rfl
   ·rw[ZZ (by lia),ZZ (by rw[Zj];show rows.length+1<=i;lia)]
 ·have ei:=Yr (λl:List PyData=>l[rows.length]?) e;rw[Zh (by rw[Zb];exact Ze _),Zb,WA,Zd,Zf (show rows.length<rows'.length by lia)] at ei;exact ZD ei
theorem qt9 {a b x:PyData}{rows:List Row}(hl:rows.length<=800) (no:∀r,x=dR r->¬qL5 rows.length r):NoT (.tuple [a,b,.tuple (rows.map dR++[x])]):=by
 refine qg8 (λds e=>?_) λn tp rows' _ _ e c=>?_
 ·cases e;rw[Zj,Zb];show rows.length+1<=900;lia
 ·obtain⟨r,rfl,ex⟩:=xh1 e;exact no r ex (c.2.1 rows.length r (by simp))
theorem xB2 {rows:List Row}{x:PyData}(hl:rows.length<=800):NoT (.tuple [.int 0,.int ((rows.length:Int)+2),.tuple (rows.map dR++[x])]):=by
 refine qg8 (λds e=>?_) λn tp rows' e0 e1 e c=>?_
 ·cases e;rw[Zj,Zb];show rows.length+1<=900;lia
 ·obtain⟨r,rfl,ex⟩:=xh1 e;have h0:=YW e0;have h1:=YW e1;have:tp=rows.length+2:=by lia
  subst this;have:=c.2.2.2.2;rw[qD6] at this;lia
theorem xu0 {ds:List PyData}{k:Nat}{r:Row}(e:PyData.tuple ds=dR r) (c:qL5 k r):ds.length=4:=by
 have:=Ye e;rw[this,Zb,Zb];exact c.1
theorem xB3 {ds:List PyData}{r:Row}{x:PyData}{p:Prop}(e:PyData.tuple ds=dR r) (h:x∈ds) (no:∀y:Nat,x≠.int (y:Nat)):p:=by
 rw[Ye e,Yp] at h;obtain⟨y,_,rfl⟩:=ZO.mp h;exact absurd rfl (no y)
theorem xI0 {a b c:PyData}{k:Nat}{r:Row}(e:PyData.tuple [a,b,c,.int ((k:Int)+2)]=dR r) (h:qL5 k r):False:=by
 have hm:PyData.int ((k:Int)+2)∈((r.map λx:Nat=>(x:Int)).map PyData.int):=by rw[<- Ye e];simp
 rw[Yp] at hm;obtain⟨y,hy,ey⟩:=ZO.mp hm;have:=YW ey;have:=h.2 y hy;simp at *;lia
section
variable {P:Program}{w:World}{K:PySem.W.Frag}{mg:Str->Option Value}{base:Heap}
abbrev nNt:List Str:=["_law_pot_here", "_law_telling_here", "_law_n", "_law_top", "_law_rows", "_law_many", "_law_some"]
theorem scNt:FnScope nNt ["_law_pot_here", "_law_telling_here"] (qa4 qG9):=qe9
def spNt:Sp:=λvs H Q _=>∃(pp t:Addr) (n tp:Nat) (rows:List Row),vs=[.ref pp,.ref t]/\PurseAt H pp/\TellAt H t n tp rows/\qh7 n tp rows/\rows.length<=100/\∀v d H',But pp H H'->PurseAt H' pp->DatX (era (λa=>a=pp) H') v d->Bnd d->¬IsTl d->Q v H'
theorem xM1 {f fD:Addr}{fd fdD:FuncData}(F:Fun K "_law_no_telling" "_law_no_telling" qG9 f fd) (B:Blt mg) (C:Blt2 mg)
  (hD:mg "_law_digit" = some (.ref fD)) (FD:Fun K "_law_digit" "_law_digit" qw2 fD fdD) (bD:Binds K fdD ["_law_pot_here", "_law_many"] []):FnOk P w K mg base CX0 2 f fd ["_law_pot_here", "_law_telling_here"] spNt:=by
 have GD:FnOk P w K mg base CX0 1 fD fdD ["_law_pot_here", "_law_many"] qv2:=qt0 FD;refine F.ok scNt (λvs H Q E h=>?_) (λcdv A outer s H vs Q E hr h=>?_)
 ·obtain⟨pp,t,n,tp,rows,rfl,_⟩:=h
  rfl
 ·obtain⟨pp,t,n,tp,rows,rfl,hP,⟨rp,ht,hR⟩,tok,hl1,q⟩:=h;refine seqE ⟨_,⟨qp7 (pv 1) (qn7 rfl (qb6 (pgN 2 scNt.nd) (qb6 (pgN 3 scNt.nd) (qb6 (pgN 4 scNt.nd) qj8))))⟩,?_⟩;refine seqE ⟨_,⟨psN 5 scNt.nd (qa7 qa9 (by rfl) B.len ZJ (qa0 (pv 4) qa1))⟩,?_⟩;refine seqE ⟨_,qi7 (i:=6) scNt.nd rfl (by first|left;rfl|right;rfl) ⟨(@qd1 _ _ _ _ (@PAs.pa _ _ _ (PAs.cons qJ4 (PAs.cons qa3 (PAs.cons qj1 (PAs.cons qb7 (PAs.cons (@qd1 _ _ _ _ (@PAs.pa _ _ _ PAs.nil)) (PAs.cons (qf0 (@PAs.pa _ _ _ PAs.nil)) (PAs.cons qG2 (PAs.cons (qw7 (pv 2) (pv 3)) (PAs.cons (qT3 (pv 2) (pv 3) (pv 4) (qf0 (@PAs.pa _ _ _ PAs.nil))) (PAs.cons (@qd1 _ _ _ _ (@PAs.pa _ _ _ (PAs.cons (pv 2) (PAs.cons (pv 3) (PAs.cons (pv 4) PAs.nil))))) (PAs.cons (qi8 (pv 2) (pv 3) (qd5 qw0 (by rfl) B.list Y5 (qa0 (pv 4) qa1))) PAs.nil)))))))))))))⟩ rfl rfl,?_⟩;refine seqE ⟨_,qi7 (i:=6) scNt.nd rfl (by first|left;rfl|right;rfl) ⟨qb8 ql6 (pv 6) (PEb.go ⟨(@qd1 _ _ _ _ (@PAs.pa _ _ _ (PAs.cons (qi8 qa3 (pv 3) (pv 4)) (PAs.cons (qi8 (xh5 qU1 qa3) qa3 (qf0 (@PAs.pa _ _ _ PAs.nil))) (PAs.cons (qi8 qj1 qa3 (qf0 (@PAs.pa _ _ _ PAs.nil))) (PAs.cons (qi8 qb7 qa3 (qf0 (@PAs.pa _ _ _ PAs.nil))) (PAs.cons (qi8 (pv 2) (qb8 qf9 (pv 5) qa3) (pv 4)) (PAs.cons (qi8 (pv 2) (xh5 qU1 qa3) (pv 4)) PAs.nil))))))))⟩)⟩ rfl rfl,?_⟩;refine seqE ⟨_,qi7 (i:=6) scNt.nd rfl (by first|left;rfl|right;rfl) ⟨qb8 ql6 (pv 6) (PEb.go ⟨(@qd1 _ _ _ _ (@PAs.pa _ _ _ (PAs.cons (qi8 (pv 2) qJ4 (pv 4)) (PAs.cons (qi8 (pv 2) qj1 (pv 4)) (PAs.cons (qi8 (pv 2) qj1 (qf0 (@PAs.pa _ _ _ PAs.nil))) (PAs.cons (qi8 qa3 (qb8 qf9 (pv 5) qa3) (qb8 qf6 (pv 4) (qt7 (qT3 qa3 qa3 qa3 qa3)))) PAs.nil))))))⟩)⟩ rfl rfl,?_⟩;refine seqE ⟨_,qi7 (i:=6) scNt.nd rfl (by first|left;rfl|right;rfl) ⟨qb8 ql6 (pv 6) (PEb.go ⟨(@qd1 _ _ _ _ (@PAs.pa _ _ _ (PAs.cons (qi8 (pv 2) qa3 (qb8 qf6 (pv 4) (qt7 (qi8 qa3 qa3 qa3)))) (PAs.cons (qi8 (pv 2) qa3 (qb8 qf6 (pv 4) (qt7 (qf0 (@PAs.pa _ _ _ (PAs.cons qa3 (PAs.cons qa3 (PAs.cons qa3 (PAs.cons qa3 (PAs.cons qa3 PAs.nil)))))))))) (PAs.cons (qi8 (pv 2) qa3 (qb8 qf6 (pv 4) (qt7 (@qd1 _ _ _ _ (@PAs.pa _ _ _ (PAs.cons qa3 (PAs.cons qa3 (PAs.cons qa3 (PAs.cons qa3 PAs.nil))))))))) PAs.nil)))))⟩)⟩ rfl rfl,?_⟩;refine seqE ⟨_,qi7 (i:=6) scNt.nd rfl (by first|left;rfl|right;rfl) ⟨qb8 ql6 (pv 6) (PEb.go ⟨(@qd1 _ _ _ _ (@PAs.pa _ _ _ (PAs.cons (qi8 (pv 2) qa3 (qb8 qf6 (pv 4) (qt7 (qT3 qa3 qa3 qa3 (qb8 qf9 (pv 5) qa3))))) (PAs.cons (qi8 (pv 2) qa3 (qb8 qf6 (pv 4) (qt7 (qT3 qa3 qa3 qa3 (xh5 qU1 qa3))))) (PAs.cons (qi8 (pv 2) qa3 (qb8 qf6 (pv 4) (qt7 qJ4))) PAs.nil)))))⟩)⟩ rfl rfl,?_⟩;refine seqE ⟨_,qi7 (i:=6) scNt.nd rfl (by first|left;rfl|right;rfl) ⟨qb8 ql6 (pv 6) (PEb.go ⟨(@qd1 _ _ _ _ (@PAs.pa _ _ _ (PAs.cons (qi8 (pv 2) qa3 (qb8 qf6 (pv 4) (qt7 (qT3 qa3 qa3 qj1 qa3)))) (PAs.cons (qi8 (pv 2) qa3 (qb8 qf6 (pv 4) (qt7 (qT3 qa3 qb7 qa3 qa3)))) (PAs.cons (qi8 (pv 2) qa3 (qb8 qf6 (pv 4) (qt7 qb7))) PAs.nil)))))⟩)⟩ rfl rfl,?_⟩;refine qi4 ⟨_,⟨qb0 (pxN qe4 (pv 6) (pcN GD hr hD FD.kp bD (qa0 (pv 0) (qa0 (qa7 qa9 (by rfl) B.len ZJ (qa0 (pv 6) qa1)) qa1))))⟩,?_⟩;obtain⟨pa,pb,jY,hpr⟩:=id hP;have kJ:LsAt (λa=>a=pp) H:=by intro a z;cases z;exact⟨_,jY⟩
  have s0:=Same.refl H;obtain⟨bs,h0,h1,h2⟩:=id hR;have lb:(bs.map V.ref).length=rows.length:=by rw[Zb];exact h1
  have hR:DatX (era (λa=>a=pp) H) (.ref rp) (.tuple (rows.map dR)):=by
   obtain⟨bs,h0,h1,h2⟩:=hR.mono (xp0 kJ);exact .tup h0 (DatsX.of (qp1 h1 h2))
  have hl:rows.length<=800:=by lia
  have lr:(rows.map dR).length+1<=sizeLine:=by rw[Zb];exact ZX (qh4 (by lia))
  have len9:∀ds,PyData.tuple (rows.map dR)=.tuple ds->ds.length<=900:=λds e=>by
   injection e with e
   rw[<- e,Zb];lia
  refine⟨_,rfl,t,_,rfl,SqT.of ht,rfl,_,_,rfl,_,_,rfl,_,_,rfl,rfl,?_⟩;refine⟨_,rfl,rp,_,rfl,.inr (SqT.of h0),?_⟩;rw[lb];dsimp only [qh3];refine qk3 (σ':=[some (.ref pp),some (.ref t),some (.int (n:Nat)),some (.int (tp:Nat)),some (.ref rp),some (.int ((rows.length:Nat):Int)),none]) rfl ?_;refine qg7 (xg9 (p:=λa=>a=pp) (R:=NoT) ?y0 ?l0 _ λD1 H1 b1=>?_)
  case l0=>show 11<=100;decide
  case y0=>exact⟨qc7 qP3 (qC8 λ_ _ _ e=>nomatch e),qc7 (qb3 _) (qC8 λ_ _ _ e=>nomatch e),qc7 (q49 _) (qC8 λ_ _ _ e=>nomatch e),qc7 (qf7 _) (qC8 λ_ _ _ e=>nomatch e),qc7 (qE9 kJ .nil (by decide)) (qC8 λ_ _ _ e=>nomatch e),qc7 (qn4 kJ .nil (by decide)) (qC8 λ_ _ _ e=>nomatch e),qc7 (xg7 kJ) (qC8 λ_ _ _ e=>nomatch e),qc7 (qw8 kJ (qb1 rfl (.int _)) (qb1 rfl (.int _))) (qC8 λ_ _ _ e=>nomatch e),qc7 (qT4 kJ (qb1 rfl (.int _)) (qb1 rfl (.int _)) (qb1 rfl (hR.same (qb4 s0))) (qn4 kJ .nil (by decide))) (qC8 λ_ _ _ e=>nomatch e),qc7 (qE9 kJ (.cons (qb1 rfl (.int _)) (.cons (qb1 rfl (.int _)) (.cons (qb1 rfl (hR.same (qb4 s0))) .nil))) (by show 3<=sizeLine;decide)) (qC8 λ_ _ _ e=>nomatch e),qc7 (qi9 kJ (qb1 rfl (.int _)) (qb1 rfl (.int _)) (xg8 kJ (qb1 rfl (hR.same (qb4 s0))))) (qg8 (λ_ e=>nomatch e) λn' tp' rows' e0 e1 e2=>nomatch e2),trivial⟩
  have b1:Bag (λa=>a=pp) NoT H 11 D1 H1:=b1;have s1:=b1.same;have jM:=kJ.mono s1;refine qk3 (σ':=[some (.ref pp),some (.ref t),some (.int (n:Nat)),some (.int (tp:Nat)),some (.ref rp),some (.int ((rows.length:Nat):Int)),some (.ref D1)]) rfl ?_;refine qg7 (qr0 b1 rfl ?y1 ?l1 _ λD2 H2 b2=>?_)
  case l1=>show 17<=100;decide
  case y1=>exact⟨qc7 (qi9 jM (qb3 _) (qb1 rfl (.int _)) (qb1 rfl (hR.same (qb4 s1)))) (qg8 len9 λn' tp' rows' e0 e1 e2=>xB1 e0),qc7 (qi9 jM (qZ6 _) (qb3 _) (qn4 jM .nil (by decide))) (qg8 (λds e=>by cases e;decide) λn' tp' rows' e0 e1 e2=>nomatch e0),qc7 (qi9 jM (q49 _) (qb3 _) (qn4 jM .nil (by decide))) (qg8 (λds e=>by cases e;decide) λn' tp' rows' e0 e1 e2=>nomatch e0),qc7 (qi9 jM (qf7 _) (qb3 _) (qn4 jM .nil (by decide))) (qg8 (λds e=>by cases e;decide) λn' tp' rows' e0 e1 e2=>nomatch e0),qc7 (qi9 jM (qb1 rfl (.int _)) (xg6 rfl) (qb1 rfl (hR.same (qb4 s1)))) (qg8 len9 λn' tp' rows' e0 e1 e2=>xH9 e1 e2),qc7 (qi9 jM (qb1 rfl (.int _)) (qZ6 _) (qb1 rfl (hR.same (qb4 s1)))) (qg8 len9 λn' tp' rows' e0 e1 e2=>nomatch e1),trivial⟩
  have b2:Bag (λa=>a=pp) NoT H 17 D2 H2:=b2;have s2:=b2.same;have jI:=kJ.mono s2;refine qk3 (σ':=[some (.ref pp),some (.ref t),some (.int (n:Nat)),some (.int (tp:Nat)),some (.ref rp),some (.int ((rows.length:Nat):Int)),some (.ref D2)]) rfl ?_;refine qg7 (qr0 b2 rfl ?y2 ?l2 _ λD3 H3 b3=>?_)
  case l2=>show 21<=100;decide
  case y2=>exact⟨qc7 (qi9 jI (qb1 rfl (.int _)) qP3 (qb1 rfl (hR.same (qb4 s2)))) (qg8 len9 λn' tp' rows' e0 e1 e2=>nomatch e1),qc7 (qi9 jI (qb1 rfl (.int _)) (q49 _) (qb1 rfl (hR.same (qb4 s2)))) (qg8 len9 λn' tp' rows' e0 e1 e2=>nomatch e1),qc7 (qi9 jI (qb1 rfl (.int _)) (q49 _) (qn4 jI .nil (by decide))) (qg8 (λds e=>by cases e;decide) λn' tp' rows' e0 e1 e2=>nomatch e1),qc7 (qi9 jI (qb3 _) (xg6 rfl) (qm4 jI (qb1 rfl (hR.same (qb4 s2))) (qt8 jI (qT4 jI (qb3 _) (qb3 _) (qb3 _) (qb3 _))) lr)) (xB2 hl),trivial⟩
  have b3:Bag (λa=>a=pp) NoT H 21 D3 H3:=b3;have s3:=b3.same;have jR:=kJ.mono s3;refine qk3 (σ':=[some (.ref pp),some (.ref t),some (.int (n:Nat)),some (.int (tp:Nat)),some (.ref rp),some (.int ((rows.length:Nat):Int)),some (.ref D3)]) rfl ?_;refine qg7 (qr0 b3 rfl ?y3 ?l3 _ λD4 H4 b4=>?_)
  case l3=>show 24<=100;decide
  case y3=>exact⟨qc7 (qi9 jR (qb1 rfl (.int _)) (qb3 _) (qm4 jR (qb1 rfl (hR.same (qb4 s3))) (qt8 jR (qi9 jR (qb3 _) (qb3 _) (qb3 _))) lr)) (qt9 hl λr e c=>by exact absurd (xu0 e c) (by decide)),qc7 (qi9 jR (qb1 rfl (.int _)) (qb3 _) (qm4 jR (qb1 rfl (hR.same (qb4 s3))) (qt8 jR (qn4 jR (.cons (qb3 _) (.cons (qb3 _) (.cons (qb3 _) (.cons (qb3 _) (.cons (qb3 _) .nil))))) (by decide))) lr)) (qt9 hl λr e c=>absurd (xu0 e c) (by decide)),qc7 (qi9 jR (qb1 rfl (.int _)) (qb3 _) (qm4 jR (qb1 rfl (hR.same (qb4 s3))) (qt8 jR (qE9 jR (.cons (qb3 _) (.cons (qb3 _) (.cons (qb3 _) (.cons (qb3 _) .nil)))) (by decide))) lr)) (qt9 hl λr e c=>nomatch e),trivial⟩
  have b4:Bag (λa=>a=pp) NoT H 24 D4 H4:=b4;have s4:=b4.same;have jX:=kJ.mono s4;refine qk3 (σ':=[some (.ref pp),some (.ref t),some (.int (n:Nat)),some (.int (tp:Nat)),some (.ref rp),some (.int ((rows.length:Nat):Int)),some (.ref D4)]) rfl ?_;refine qg7 (qr0 b4 rfl ?y4 ?l4 _ λD5 H5 b5=>?_)
  case l4=>show 27<=100;decide
  case y4=>exact⟨qc7 (qi9 jX (qb1 rfl (.int _)) (qb3 _) (qm4 jX (qb1 rfl (hR.same (qb4 s4))) (qt8 jX (qT4 jX (qb3 _) (qb3 _) (qb3 _) (xg6 rfl))) lr)) (qt9 hl λr e c=>xI0 e c),qc7 (qi9 jX (qb1 rfl (.int _)) (qb3 _) (qm4 jX (qb1 rfl (hR.same (qb4 s4))) (qt8 jX (qT4 jX (qb3 _) (qb3 _) (qb3 _) (qZ6 _))) lr)) (qt9 hl λr e c=>xB3 e (x:=.int (-1)) (by simp) λ_ z=>nomatch z),qc7 (qi9 jX (qb1 rfl (.int _)) (qb3 _) (qm4 jX (qb1 rfl (hR.same (qb4 s4))) (qt8 jX qP3) lr)) (qt9 hl λr e c=>nomatch e),trivial⟩
  have b5:Bag (λa=>a=pp) NoT H 27 D5 H5:=b5;have s5:=b5.same;have kF:=kJ.mono s5;refine qk3 (σ':=[some (.ref pp),some (.ref t),some (.int (n:Nat)),some (.int (tp:Nat)),some (.ref rp),some (.int ((rows.length:Nat):Int)),some (.ref D5)]) rfl ?_;refine qg7 (qr0 b5 rfl ?y5 ?l5 _ λD6 H6 b6=>?_)
  case l5=>show 30<=100;decide
  case y5=>exact⟨qc7 (qi9 kF (qb1 rfl (.int _)) (qb3 _) (qm4 kF (qb1 rfl (hR.same (qb4 s5))) (qt8 kF (qT4 kF (qb3 _) (qb3 _) (q49 _) (qb3 _))) lr)) (qt9 hl λr e c=>xB3 e (x:=.bool false) (by simp) λ_ z=>nomatch z),qc7 (qi9 kF (qb1 rfl (.int _)) (qb3 _) (qm4 kF (qb1 rfl (hR.same (qb4 s5))) (qt8 kF (qT4 kF (qb3 _) (qf7 _) (qb3 _) (qb3 _))) lr)) (qt9 hl λr e c=>xB3 e (x:=.str "1") (by simp) λ_ z=>nomatch z),qc7 (qi9 kF (qb1 rfl (.int _)) (qb3 _) (qm4 kF (qb1 rfl (hR.same (qb4 s5))) (qt8 kF (qf7 _)) lr)) (qt9 hl λr e c=>nomatch e),trivial⟩
  have b6:Bag (λa=>a=pp) NoT H 30 D6 H6:=b6;have s6:=b6.same;have vL:=kJ.mono s6;refine qk3 (σ':=[some (.ref pp),some (.ref t),some (.int (n:Nat)),some (.int (tp:Nat)),some (.ref rp),some (.int ((rows.length:Nat):Int)),some (.ref D6)]) rfl ?_;obtain⟨xs6,H60,_,hn6,t6,hD6,lx6,_⟩:=id b6;have hP6:PurseAt H6 pp:=hP.same s6;refine⟨_,rfl,_,rfl,_,rfl,D6,_,rfl,.inl (SqL.of hD6),pp,30,by rw[lx6];rfl,hP6,by decide,by decide,λi H7 hi b7 hP7=>?_⟩;obtain⟨xs,x,d,e1,e2,e3,e4,e5⟩:=qZ8 b6 jY b7 hi;exact⟨D6,xs,(i:Int),x,rfl,rfl,SqL.of e1,qe3 e2,q x d H7 (λb o e n=>b7 b o (s6 _ _ e) n) hP7 e3 e4 e5⟩
end
end Pr
namespace L2
open PySem PySem.Spec PyProof.Rows
section
variable {X:Cx}
theorem xp2:MtR X "str.upper" (λx xs H Q=>∃a:Str,x=.str a/\xs=[]/\(Txt.upper a).length<=sizeLine/\Q (.str (Txt.upper a)) H):=by
 intro j8 s σ H x xs v us Q I rx rv h;obtain⟨a,rfl,rfl,hl,q⟩:=h;obtain⟨t,rfl⟩:=rx;cases rv.zero;exact SC.upper (by unfold Builtin.Str.tooLong;exact Zk (Nat.not_lt.mpr hl)) ⟨.str _,H,I.tok _,⟨_,rfl⟩,q⟩
end
section
variable {p:Addr->Prop}{H0:Hp}{σ:St}
theorem qP5 {H:Hp}:∀{xs:List V}{ds:List PyData}{k:Nat}{d:PyData},DatsX H xs ds->ds[k]?=some d->∃x,xs[k]?=some x/\DatX H x d
 |_,_,0,_,.cons h _,e=>⟨_,rfl,by cases e;exact h⟩
 |_,_,k+1,_,.cons _ r,e=>qP5 (k:=k) r e
theorem xp3 {K:PySem.W.Frag}{ta:TE}{a:List PyData}{d:PyData}(k:Nat) (ya:Yd p H0 σ ta (.tuple a)) (hk:a[k]?=some d):Yd p H0 σ (tOp (rIxT K) ta (tC (.int (k:Nat)))) d:=λH s Q q=>ya H s _ λv1 H1 s1 d1=>by
 obtain⟨c1,xs,rfl,h1,r1⟩:=qt6 d1;obtain⟨x,e1,e2⟩:=qP5 r1 hk;exact⟨c1,xs,_,x,rfl,rfl,SqT.of (era_at.mp h1).2,qe3 e1,q x H1 s1 e2⟩
theorem xM2 {K:PySem.W.Frag}{ta:TE}{x:Str}(ya:Yd p H0 σ ta (.str x)) (hl:(Txt.upper x).length<=sizeLine):Yd p H0 σ (tBM0 K "str" (λx xs H Q=>∃a:Str,x=.str a/\xs=[]/\(Txt.upper a).length<=sizeLine/\Q (.str (Txt.upper a)) H) ta) (.str (Txt.upper x)):=λH s Q q=>ya H s _ λv1 H1 s1 d1=>by
 cases d1;exact⟨rfl,x,rfl,rfl,hl,q _ _ s1 (.str _)⟩
theorem xM3 {ta:TE}{i j:Int}(ya:Yd p H0 σ ta (.int i)):Yd p H0 σ (tOp rEq ta (tC (.int j))) (.bool (decide (V.int i=V.int j))):=λH s Q q=>ya H s _ λv1 H1 s1 d1=>by
 cases d1;exact⟨rfl,q _ _ s1 (.bl _)⟩
theorem xI1 {i j:Int}(h:CPow i j):Yd p H0 σ (tOp (rI CPow λi j=>.int (i^j.toNat)) (tC (.int i)) (tC (.int j))) (.int (i^j.toNat)):=λH s Q q=>⟨i,j,rfl,rfl,h,q _ _ (Same.refl _) (.int _)⟩
theorem xp4 {K:PySem.W.Frag}{te:TE}{i:Nat}{rest:TS}{k:Ends}{H:Hp}{D:Addr}{xs:List V}(e:σ[i]?=some (some (.ref D))) (hD:H D=some (.lst xs)) (h:te σ H λv H2=>qQ3 (.ref D) [v] H2 λ_ H'=>rest k σ H'):tSeq (xC2 (tBM K "list" qQ3 (tVar i) (qz0 te tNil))) rest k σ H:=⟨_,e,.inl ⟨rfl,_,SqL.of hD⟩,h⟩
theorem xp5 {R:PyData->Prop}{ts:List TE}{i k:Nat}{D:Addr}{H2:Hp}(b:Bag p R H0 k D H2) (e:σ[i]?=some (some (.ref D))) (y:Yls H2 σ (Hs p R) ts) (hl:k+ts.length<=100) (Q:VK) (q:∀D H',Same H2 H'->H2 D=none->Bag p R H0 (k+ts.length) D H'->Q (.ref D) H') :
  tOp rCat (tVar i) (tLst (tAll ts)) σ H2 Q:=by
 refine⟨_,e,qZ0 qv7 (Same.refl _) y _ λvs H3 s3 l3 r3=>⟨by rw[l3];exact ZX (qh4 (by lia)),λE hE=>?_⟩⟩;obtain⟨xs,hx,lx,nx⟩:=qZ7 b s3 l3 r3 hE;refine⟨D,E,xs,vs,rfl,rfl,hx,qa2,by rw[lx,l3];exact ZX (qh4 (by lia)),λG hG=>q G _ ((s3.trans (qb2 hE)).trans (qb2 hG)) ?_ (nx G hG)⟩;cases e:H2 G with
 |none=>rfl
 |some o=>rw[(s3.trans (qb2 hE)) _ _ e] at hG;cases hG
theorem Bag.more {R:PyData->Prop}{k:Nat}{D:Addr}{H H':Hp}(b:Bag p R H0 k D H) (s:Same H H'):Bag p R H0 k D H':=by
 obtain⟨xs,H1,s1,hn,s2,hD,lx,hx⟩:=b;exact⟨xs,H1,s1,hn,s2.trans s,s _ _ hD,lx,hx⟩
theorem xB4 {R:PyData->Prop}{k:Nat}{pp D:Addr}{H H':Hp}{o:HO}(b:Bag (λa=>a=pp) R H0 k D H) (hpp:H0 pp=some o) (but:∀b o,H b=some o->b≠pp->H' b=some o):D≠pp/\Bag (λa=>a=pp) R (era (λa=>a=D) H') k D H':=by
 obtain⟨xs,H1,s1,hn,s2,hD,lx,hx⟩:=b;have ne:D≠pp:=λz=>by rw[z,s1 _ _ hpp] at hn;cases hn
 refine⟨ne,⟨xs,era (λa=>a=D) H',Same.refl _,?_,qq9,but _ _ hD ne,lx,λx h=>?_⟩⟩
 ·cases e:era (λa=>a=D) H' D with
  |none=>rfl
  |some o=>exact absurd rfl (era_at.mp e).1
 ·obtain⟨d,h1,h2⟩:=hx x h;refine⟨d,h1.same λa u e=>?_,h2⟩;obtain⟨n1,e1⟩:=era_at.mp e;exact era_at.mpr ⟨n1,era_at.mpr ⟨(λz=>by rw[z,hn] at e1;cases e1),but _ _ (s2 _ _ e1) n1⟩⟩
end
end L2
namespace Pr
open PySem L2 Qf
inductive Flt:PyData->Prop
 |non:Flt .none
 |bl (b:Bool):Flt (.bool b)
 |int {i:Int}(h:Atm (.int i)):Flt (.int i)
 |str {x:Str}(h:Atm (.str x)) (k:PyData.strOk x=true):Flt (.str x)
def Flts:List PyData->Prop
 |[]=>True
 |d::ds=>Flt d/\Flts ds
structure OkS (d:PyData):Prop where
 thn:Thn d
 atm:Atm d
 mix:d.hasDict=true->NoL d=true
 dep:d.depth<=60
 nds:nod d<=1000
theorem Flt.all {d:PyData}(h:Flt d):Atm d/\nod d=1/\d.hasDict=false/\d.depth=0:=by
 cases h with
 |non=>exact⟨trivial,rfl,rfl,rfl⟩
 |bl b=>exact⟨trivial,rfl,rfl,rfl⟩
 |int h=>exact⟨h,rfl,rfl,rfl⟩
 |str h k=>exact⟨h,rfl,rfl,rfl⟩
theorem Flts.all:∀{ds:List PyData},Flts ds->Atms ds/\nods ds=ds.length/\PyData.hasDictAll ds=false/\PyData.depthAll ds=0
 |[],_=>⟨trivial,rfl,rfl,rfl⟩
 |d::ds,⟨h,r⟩=>by
  obtain⟨a1,a2,a3,a4⟩:=h.all;obtain⟨b1,b2,b3,b4⟩:=Flts.all r;refine⟨⟨a1,b1⟩,?_,?_,?_⟩
  ·show nod d+nods ds=ds.length+1;lia
  ·show (d.hasDict||PyData.hasDictAll ds)=false;rw[a3,b3];rfl
  ·show max d.depth (PyData.depthAll ds)=0;rw[a4,b4];rfl
theorem qC0 {d:PyData}(h:Flt d):OkS d:=by
 obtain⟨a1,a2,a3,a4⟩:=h.all;refine⟨?_,a1,(λz=>by rw[a3] at z;cases z),by lia,by lia⟩;cases h<;>exact⟨(λ_ e=>nomatch e),(λ_ _ e=>nomatch e)⟩
theorem qe0 {ds:List PyData}(h:Flts ds) (l:ds.length<=50):OkS (.tuple ds):=by
 obtain⟨b1,b2,b3,b4⟩:=h.all;refine⟨⟨(λes e=>by cases e;lia),(λx es e=>by cases e;cases h.1 with|str _ k=>exact k)⟩,b1,(λz=>by rw[show (PyData.tuple ds).hasDict=false from b3] at z;cases z),?_,?_⟩
 ·show PyData.depthAll ds+1<=60;lia
 ·show nods ds+1<=1000;lia
theorem qT5 {ds:List PyData}(h:Flts ds) (l:ds.length<=50):OkS (.list ds):=by
 obtain⟨b1,b2,b3,b4⟩:=h.all;refine⟨⟨(λes e=>nomatch e),(λx es e=>nomatch e)⟩,b1,(λz=>by rw[show (PyData.list ds).hasDict=false from b3] at z;cases z),?_,?_⟩
 ·show PyData.depthAll ds+1<=60;lia
 ·show nods ds+1<=1000;lia
theorem xp6:OkS (.dict []):=⟨⟨(λ_ e=>nomatch e),(λ_ _ e=>nomatch e)⟩,rfl,λ_=>rfl,by decide,by decide⟩
theorem xM4:OkS (.tuple [.list [.str "x"]]):=⟨⟨(λes e=>by cases e;decide),(λx es e=>nomatch e)⟩,⟨⟨by show _<=80;decide +kernel,trivial⟩,trivial⟩,(λz=>by cases z),by decide,by decide⟩
theorem qy3:∀{a b:List PyData},Flts a->Flts b->Flts (a++b)
 |[],_,_,h=>h
 |_::_,_,h,g=>⟨h.1,qy3 h.2 g⟩
theorem qu0:∀(k:Nat){a:List PyData},Flts a->Flts (a.drop k)
 |0,_,h=>h
 |_+1,[],_=>trivial
 |k+1,_::_,h=>qu0 k h.2
theorem ql3 {x:Nat}(h:x<1000):Flt (.int (x:Nat)):=.int ⟨ZK (qZ2 h) (by decide),qZ3 h⟩
theorem qn2 {x:Str}(h:(PyData.shown (.str x)).length<=80) (k:PyData.strOk x=true):Flt (.str x):=.str h k
theorem xB5:Flt (.int (-1)):=.int (by constructor<;>decide +kernel)
theorem xB6:Flt (.int ((10:Int)^Int.toNat 59)):=.int (by constructor<;>decide +kernel)
abbrev dsS (s:Stp):List PyData:=.str (qg0 s)::(qf1 s).map λn:Nat=>PyData.int (n:Int)
theorem qT6 (s:Stp):qg0 s = "gone" \/ qg0 s = "plain" \/ qg0 s = "same":=by
 cases s
 ·exact .inl rfl
 ·exact .inr (.inl rfl)
 ·exact .inr (.inr rfl)
theorem qJ3 (s:Stp):Flt (.str (qg0 s)):=by rcases qT6 s with h|h|h<;>rw[h]<;>exact qn2 (by decide +kernel) (by decide +kernel)
theorem xI2 (s:Stp):Flt (.str (Txt.upper (qg0 s))):=by rcases qT6 s with h|h|h<;>rw[h]<;>exact qn2 (by decide +kernel) (by decide +kernel)
theorem xI3 (s:Stp):(Txt.upper (qg0 s)).length<=sizeLine:=by
 have h:(Txt.upper (qg0 s)).length<=80:=by rcases qT6 s with h|h|h<;>rw[h]<;>decide +kernel
 exact ZK h (by decide)
theorem qP6 {s:Stp}(h:∀x∈qf1 s,x<1000):Flts (dsS s):=by
 refine⟨qJ3 s,?_⟩;cases s with
 |gone k=>exact⟨ql3 (h k (by simp[qf1])),trivial⟩
 |plain k=>exact⟨ql3 (h k (by simp[qf1])),trivial⟩
 |same k j=>exact⟨ql3 (h k (by simp[qf1])),ql3 (h j (by simp[qf1])),trivial⟩
theorem xu1 (s:Stp):2<=(dsS s).length/\(dsS s).length<=3:=by cases s<;>simp[qf1]
theorem xI4 (s:Stp):∃k:Nat,(dsS s)[1]?=some (.int (k:Nat))/\(qf4 s)[1]?=some (.int (k:Nat)):=by cases s<;>exact⟨_,rfl,rfl⟩
theorem qT7 {k:Nat}(h:k<=50):k<=sizeLine:=ZK h (by decide)
section
variable {P:Program}{w:World}{K:PySem.W.Frag}{mg:Str->Option Value}{base:Heap}
abbrev nNs:List Str:=["_law_pot_here", "_law_telling_here", "_law_steps_here", "_law_many", "_law_k", "_law_j", "_law_some", "_law_step"]
theorem scNs:FnScope nNs ["_law_pot_here", "_law_telling_here", "_law_steps_here"] (qa4 qG8):=qe9
def spNs:Sp:=λvs H Q _=>∃(pp t l:Addr) (n tp:Nat) (rows:List Row) (ss:List Stp),vs=[.ref pp,.ref t,.ref l]/\PurseAt H pp/\TellAt H t n tp rows/\rows.length<=100/\StepsL H l ss/\l≠pp/\Few ss/\ss.length<=1000/\∀v d H',But pp H H'->PurseAt H' pp->DatX (era (λa=>a=pp) H') v d->OkS d->Q v H'
theorem xM5 {f fD:Addr}{fd fdD:FuncData}(F:Fun K "_law_no_step" "_law_no_step" qG8 f fd) (B:Blt mg) (C:Blt2 mg)
  (hD:mg "_law_digit" = some (.ref fD)) (FD:Fun K "_law_digit" "_law_digit" qw2 fD fdD) (bD:Binds K fdD ["_law_pot_here", "_law_many"] []):FnOk P w K mg base CX0 2 f fd ["_law_pot_here", "_law_telling_here", "_law_steps_here"] spNs:=by
 have GD:FnOk P w K mg base CX0 1 fD fdD ["_law_pot_here", "_law_many"] qv2:=qt0 FD;refine F.ok scNs (λvs H Q E h=>?_) (λcdv A outer s H vs Q E hr h=>?_)
 ·obtain⟨pp,t,l,n,tp,rows,ss,rfl,_⟩:=h
  rfl
 ·obtain⟨pp,t,l,n,tp,rows,ss,rfl,hP,⟨rp,ht,hR⟩,hl1,hS,nlp,few,k8,q⟩:=h;refine seqE ⟨_,⟨psN 3 scNs.nd (qa7 qa9 (by rfl) B.len ZJ (qa0 (pxN qh8 (pv 1) qa3) qa1))⟩,?_⟩;refine seqE ⟨_,⟨psN 4 scNs.nd (pcN GD hr hD FD.kp bD (qa0 (pv 0) (qa0 (qb8 qf9 (pv 3) qa3) qa1)))⟩,?_⟩;refine seqE ⟨_,⟨psN 5 scNs.nd (pcN GD hr hD FD.kp bD (qa0 (pv 0) (qa0 (qb8 qf9 (pv 3) qa3) qa1)))⟩,?_⟩;refine seqE ⟨_,qi7 (i:=6) scNs.nd rfl (by first|left;rfl|right;rfl) ⟨(@qd1 _ _ _ _ (@PAs.pa _ _ _ (PAs.cons (qi8 qb7 (pv 4) (pv 5)) (PAs.cons (qi8 qb7 (pv 5) (pv 4)) (PAs.cons (qw7 qb7 (pv 4)) (PAs.cons (qw7 qb7 (pv 4)) (PAs.cons (qw7 qb7 (pv 3)) (PAs.cons (qw7 qb7 (xh5 qU1 qa3)) (PAs.cons (qi8 qb7 qa3 qa3) PAs.nil)))))))))⟩ rfl rfl,?_⟩;refine seqE ⟨_,qi7 (i:=6) scNs.nd rfl (by first|left;rfl|right;rfl) ⟨qb8 ql6 (pv 6) (@PEb.go _ _ _ ⟨(@qd1 _ _ _ _ (@PAs.pa _ _ _ (PAs.cons qJ4 (PAs.cons qa3 (PAs.cons qj1 (PAs.cons qb7 (PAs.cons (@qd1 _ _ _ _ (@PAs.pa _ _ _ PAs.nil)) (PAs.cons (qf0 (@PAs.pa _ _ _ PAs.nil)) (PAs.cons qG2 (PAs.cons (qt7 qb7) (PAs.cons (qi8 qb7 qa3 qa3) (PAs.cons (qw7 qb7 qa3) (PAs.cons (qT3 qb7 qa3 qa3 qa3) PAs.nil)))))))))))))⟩)⟩ rfl rfl,?_⟩;refine seqE ⟨_,qi7 (i:=6) scNs.nd rfl (by first|left;rfl|right;rfl) ⟨qb8 ql6 (pv 6) (@PEb.go _ _ _ ⟨(@qd1 _ _ _ _ (@PAs.pa _ _ _ (PAs.cons (qw7 qb7 qb7) (PAs.cons (qw7 qb7 qJ4) (PAs.cons (qw7 qb7 qa3) (PAs.cons (qw7 qa3 qb7) (PAs.cons (qw7 qb7 (qb8 xq3 qa3 qa3)) (PAs.cons (@qd1 _ _ _ _ (@PAs.pa _ _ _ (PAs.cons qb7 (PAs.cons qa3 PAs.nil)))) PAs.nil))))))))⟩)⟩ rfl rfl,?_⟩;refine seqE ⟨_,⟨qd3 (PEb.go (qA2 ZI ZS ZT qe5 ⟨pv 6⟩ (.cons ⟨(qt7 (@qd1 _ _ _ _ (@PAs.pa _ _ _ (PAs.cons qb7 PAs.nil))))⟩ .nil rfl)))⟩,?_⟩;refine xK4 ⟨_,⟨qf3 (qc4 (q84 hr) (pv 2) (qd1 qa1) (qc6 _)) (StI.go (.cons ⟨psN 7 scNs.nd (pxN qe4 (pv 2) (pcN GD hr hD FD.kp bD (qa0 (pv 0) (qa0 (qa7 qa9 (by rfl) B.len ZJ (qa0 (pv 2) qa1)) qa1))))⟩
   (.cons (qi7 (i:=6) scNs.nd rfl (by first|left;rfl|right;rfl) ⟨qb8 ql6 (pv 6) (@PEb.go _ _ _ ⟨(@qd1 _ _ _ _ (@PAs.pa _ _ _ (PAs.cons (qd5 qw0 (by rfl) B.list Y5 (qa0 (pv 7) qa1)) (PAs.cons (qb8 qf6 (pv 7) (qt7 qa3)) (PAs.cons (qk4 qv5 (pv 7) (qn9 qa3) qn8) (PAs.cons (qb8 qf6 (qt7 (xD1 PySem.F.plainAttrs_str PySem.F.slot_str_upper PySem.F.type_str_upper xp2 (pxN qh8 (pv 7) qa3))) (qk4 qv5 (pv 7) (qn9 qa3) qn8)) (PAs.cons (pxN qh8 (pv 7) qa3) PAs.nil)))))))⟩)⟩ rfl rfl)
   (.one ⟨qf3 (qc4 qC1 (pxN qh8 (pv 7) qa3) qa3 (qc6 _)) (qa8 (PSb.go ⟨qd3 (PEb.go (qA2 ZI ZS ZT qe5 ⟨pv 6⟩ (.cons ⟨(qb8 qf6 (qw7 (pxN qh8 (pv 7) qa3) (qm5 xh6 (pxN qh8 (pv 7) qa3) qa3 (qc6 _))) (qk4 qv5 (pv 7) (qn9 qa3) qn8))⟩ .nil rfl)))⟩)) qb5⟩)))) qb5⟩,?_⟩
  refine qi4 ⟨_,⟨qb0 (pxN qe4 (pv 6) (pcN GD hr hD FD.kp bD (qa0 (pv 0) (qa0 (qa7 qa9 (by rfl) B.len ZJ (qa0 (pv 6) qa1)) qa1))))⟩,?_⟩;obtain⟨bs,h0,h1,h2⟩:=id hR;have lb:(bs.map V.ref).length=rows.length:=by rw[Zb];exact h1
  have f0:Flt (.int 0):=ql3 (x:=0) (by decide);have f1:Flt (.int 1):=ql3 (x:=1) (by decide);have f7:Flt (.int 7):=ql3 (x:=7) (by decide);have wG:Flt (.str "gone"):=qn2 (by decide +kernel) (by decide +kernel);have wS:Flt (.str "same"):=qn2 (by decide +kernel) (by decide +kernel);have wP:Flt (.str "plain"):=qn2 (by decide +kernel) (by decide +kernel);have wO:Flt (.str "other"):=qn2 (by decide +kernel) (by decide +kernel);have w0:Flt (.str "0"):=qn2 (by decide +kernel) (by decide +kernel);have fm:Flt (.int ((rows.length:Nat):Int)):=ql3 (by lia);have cp:CPow 10 59:=⟨by decide,by decide,by decide⟩;refine⟨_,rfl,t,_,2,.ref rp,rfl,rfl,SqT.of ht,rfl,rp,_,rfl,.inr (SqT.of h0),?_⟩;rw[lb];dsimp only [qh3];refine qk3 (σ':=[some (.ref pp),some (.ref t),some (.ref l),some (.int ((rows.length:Nat):Int)),none,none,none,none]) rfl ?_;refine qg7 ⟨_,rfl,_,rfl,_,_,rfl,rfl,pp,rows.length+1,rfl,hP,by lia,by lia,λk H1 hk b1 hP1=>?_⟩;refine qk3 (σ':=[some (.ref pp),some (.ref t),some (.ref l),some (.int ((rows.length:Nat):Int)),some (.int (k:Nat)),none,none,none]) rfl ?_;refine qg7 ⟨_,rfl,_,rfl,_,_,rfl,rfl,pp,rows.length+2,rfl,hP1,by lia,by lia,λj H2 hj b2 hP2=>?_⟩;refine qk3 (σ':=[some (.ref pp),some (.ref t),some (.ref l),some (.int ((rows.length:Nat):Int)),some (.int (k:Nat)),some (.int (j:Nat)),none,none]) rfl ?_;have fk:Flt (.int ((k:Nat):Int)):=ql3 (by lia);have fj:Flt (.int ((j:Nat):Int)):=ql3 (by lia);have bt2:But pp H H2:=b1.trans b2;obtain⟨pa,pb,jY,hpr⟩:=id hP2;have jI:LsAt (λa=>a=pp) H2:=by intro a z;cases z;exact⟨_,jY⟩
  refine qg7 (xg9 (p:=λa=>a=pp) (R:=OkS) ?y0 ?l0 _ λD1 H3 b3=>?_)
  case l0=>show 7<=100;decide
  case y0=>exact⟨qc7 (qi9 jI (qf7 _) (qb1 rfl (.int _)) (qb1 rfl (.int _))) (qe0 ⟨wS,fk,fj,trivial⟩ (ZB rfl)),qc7 (qi9 jI (qf7 _) (qb1 rfl (.int _)) (qb1 rfl (.int _))) (qe0 ⟨wS,fj,fk,trivial⟩ (ZB rfl)),qc7 (qw8 jI (qf7 _) (qb1 rfl (.int _))) (qe0 ⟨wP,fk,trivial⟩ (ZB rfl)),qc7 (qw8 jI (qf7 _) (qb1 rfl (.int _))) (qe0 ⟨wG,fk,trivial⟩ (ZB rfl)),qc7 (qw8 jI (qf7 _) (qb1 rfl (.int _))) (qe0 ⟨wG,fm,trivial⟩ (ZB rfl)),qc7 (qw8 jI (qf7 _) (qZ6 _)) (qe0 ⟨wP,xB5,trivial⟩ (ZB rfl)),qc7 (qi9 jI (qf7 _) (qb3 _) (qb3 _)) (qe0 ⟨wS,f0,f0,trivial⟩ (ZB rfl)),trivial⟩
  have b3:Bag (λa=>a=pp) OkS H2 7 D1 H3:=b3;have jR:=jI.mono b3.same;refine qk3 (σ':=[some (.ref pp),some (.ref t),some (.ref l),some (.int ((rows.length:Nat):Int)),some (.int (k:Nat)),some (.int (j:Nat)),some (.ref D1),none]) rfl ?_;refine qg7 (qr0 b3 rfl ?y1 ?l1 _ λD2 H4 b4=>?_)
  case l1=>show 18<=100;decide
  case y1=>exact⟨qc7 qP3 (qC0 .non),qc7 (qb3 _) (qC0 f7),qc7 (q49 _) (qC0 (.bl _)),qc7 (qf7 _) (qC0 wG),qc7 (qE9 jR .nil (by decide)) (qT5 trivial (ZB rfl)),qc7 (qn4 jR .nil (by decide)) (qe0 trivial (ZB rfl)),qc7 (xg7 jR) xp6,qc7 (qt8 jR (qf7 _)) (qe0 ⟨wG,trivial⟩ (ZB rfl)),qc7 (qi9 jR (qf7 _) (qb3 _) (qb3 _)) (qe0 ⟨wG,f0,f0,trivial⟩ (ZB rfl)),qc7 (qw8 jR (qf7 _) (qb3 _)) (qe0 ⟨wS,f1,trivial⟩ (ZB rfl)),qc7 (qT4 jR (qf7 _) (qb3 _) (qb3 _) (qb3 _)) (qe0 ⟨wS,f1,f0,f0,trivial⟩ (ZB rfl)),trivial⟩
  have b4:Bag (λa=>a=pp) OkS H2 18 D2 H4:=b4;have jX:=jI.mono b4.same;refine qk3 (σ':=[some (.ref pp),some (.ref t),some (.ref l),some (.int ((rows.length:Nat):Int)),some (.int (k:Nat)),some (.int (j:Nat)),some (.ref D2),none]) rfl ?_;refine qg7 (qr0 b4 rfl ?y2 ?l2 _ λD3 H5 b5=>?_)
  case l2=>show 24<=100;decide
  case y2=>exact⟨qc7 (qw8 jX (qf7 _) (qf7 _)) (qe0 ⟨wG,w0,trivial⟩ (ZB rfl)),qc7 (qw8 jX (qf7 _) qP3) (qe0 ⟨wG,.non,trivial⟩ (ZB rfl)),qc7 (qw8 jX (qf7 _) (qb3 _)) (qe0 ⟨wO,f0,trivial⟩ (ZB rfl)),qc7 (qw8 jX (qb3 _) (qf7 _)) (qe0 ⟨f0,wG,trivial⟩ (ZB rfl)),qc7 (qw8 jX (qf7 _) (xI1 cp)) (qe0 ⟨wP,xB6,trivial⟩ (ZB rfl)),qc7 (qE9 jX (.cons (qf7 _) (.cons (qb3 _) .nil)) (ZB rfl)) (qT5 ⟨wG,f0,trivial⟩ (ZB rfl)),trivial⟩
  have b5:Bag (λa=>a=pp) OkS H2 24 D3 H5:=b5;refine qk3 (σ':=[some (.ref pp),some (.ref t),some (.ref l),some (.int ((rows.length:Nat):Int)),some (.int (k:Nat)),some (.int (j:Nat)),some (.ref D3),none]) rfl ?_;have ls:=xt9 jI b5;obtain⟨xs5,H50,s50,n50,t50,hD5,l50,_⟩:=id b5;refine xp4 rfl hD5 ((qt8 ls (qE9 ls (.cons (qf7 _) .nil) (by decide))) H5 (Same.refl _) _ λv6 H6 s6 d6=>?_);obtain⟨xs6,e6,l6,b6⟩:=xh0 b5 s6 d6 xM4;refine⟨D3,xs6,v6,rfl,rfl,e6,by rw[l6];decide,?_⟩;have nD3:H2 D3=none:=by
   cases e:H2 D3 with
   |none=>rfl
   |some o=>rw[s50 _ _ e] at n50;cases n50
  have S7:Same H2 (upd H6 D3 (.lst (xs6++[v6]))):=xE7 ((b5.same).trans s6) nD3;generalize upd H6 D3 (.lst (xs6++[v6]))=H7 at b6 S7 ⊢;clear e6 l6 hD5 s6 d6 ls t50 l50 s50 n50 b5 jX b4 jR b3;have bt7:But pp H H7:=λb o e n=>S7 _ _ (bt2 b o e n);have hP7:PurseAt H7 pp:=hP2.same S7;refine⟨λσ' H'=>∃D m v7 Hb o,σ'=[some (.ref pp),some (.ref t),some (.ref l),some (.int ((rows.length:Nat):Int)),some (.int (k:Nat)),some (.int (j:Nat)),some (.ref D),v7]/\Bag (λa=>a=pp) OkS Hb m D H'/\Hb pp=some o/\0<m/\m<=50/\But pp H H'/\PurseAt H' pp,?_,?_⟩
  ·refine⟨_,rfl,(by show 0<=sizeLine;decide),λe he=>?_⟩;have S8:=S7.trans (qb2 (o:=.lst []) he);have b8:=b6.more (qb2 (o:=.lst []) he);have bt8:But pp H (upd H7 e (.lst [])):=λb o z n=>qc5 (bt7 b o z n) he;have hP8:PurseAt (upd H7 e (.lst [])) pp:=hP7.same (qb2 he);have hS8:StepsL (upd H7 e (.lst [])) l ss:=by
    obtain⟨pa',pb',hpe',_⟩:=id hP;exact hS.but bt8 nlp hpe' (λu z=>nomatch z)
   refine⟨dSs ss,.list [],hS8.data,.lst qa2 .nil,xe9 ss,rfl,qZ5 ss,_,rfl,?_⟩;generalize upd H7 e (.lst [])=H8 at S8 b8 bt8 hP8 hS8 ⊢;have een:PyData.eqv (dSs ss) (.list [])=ss.isEmpty:=by
    cases ss with
    |nil=>rfl
    |cons a l=>simp[dSs,PyData.eqv,PyData.eqvAll]
   rw[een];obtain⟨pa8,pb8,hpe8,_⟩:=id hP8;refine ite2 (λhc=>?_) (λhc=>⟨D3,25,_,H2,_,rfl,b8,jY,by decide,by decide,bt8,hP8⟩);have ne:ss≠[]:=λz=>by rw[z] at hc;simp at hc
   have kE:=Y3.mpr ne;obtain⟨cs,hc0,vX,kK⟩:=id hS8;refine⟨_,rfl,_,rfl,_,rfl,l,_,rfl,.inl (SqL.of hc0),pp,ss.length,by rw[Zb,vX];rfl,hP8,kE,by lia,λi H9 hi b9 hP9=>?_⟩;have vR:cs[i]?=some (cs[i]'(by lia)):=by simp[show i<cs.length by lia]
   have hsi:ss[i]?=some ss[i]:=by simp[hi]
   have hb8:=kK i _ _ vR hsi;have vC:=b9 _ _ hb8 (qp9 hb8 hpe8 (λz=>nomatch z));have fw:∀x∈qf1 ss[i],x<1000:=few _ (Yu hi);refine⟨l,_,(i:Int),.ref (cs[i]'(by lia)),rfl,rfl,SqL.of (b9 _ _ hc0 nlp),qe3 (by rw[Zd,vR];rfl),?_⟩;generalize cs[i]'(by lia)=sb at vC ⊢;generalize ss[i]=st at vC fw;obtain⟨nD,b10⟩:=xB4 b8 jY b9;obtain⟨pa9,pb9,hpe9,_⟩:=id hP9;have k6:LsAt (λa=>a=pp) H9:=by intro a z;cases z;exact⟨_,hpe9⟩
   have jT:DatX (era (λa=>a=pp) H9) (.ref sb) (.tuple (dsS st)):=DatX.of (qm3 (s:=st) (qB9 k6 (Same.refl _) vC));have fs:=qP6 fw;obtain⟨dl1,dl2⟩:=xu1 st;obtain⟨k1,e1,vE⟩:=xI4 st;have bt9:But pp H H9:=bt8.trans b9;dsimp only [qh3];refine qk3 (σ':=[some (.ref pp),some (.ref t),some (.ref l),some (.int ((rows.length:Nat):Int)),some (.int (k:Nat)),some (.int (j:Nat)),some (.ref D3),some (.ref sb)]) rfl ?_;refine qg7 (xp5 b10 rfl ?y3 ?l3 _ λD4 H10 s10 n10 b11=>?_)
   case l3=>show 30<=100;decide
   case y3=>exact⟨qc7 (xg8 k6 (qb1 rfl jT)) (qT5 fs (by lia)),qc7 (qm4 k6 (qb1 rfl jT) (qt8 k6 (qb3 _)) (qT7 (show _+1<=50 by lia))) (qe0 (qy3 fs ⟨f0,trivial⟩) (by rw[Zj];show _+1<=50;lia)),qc7 (qT2 (k:=1) k6 (qb1 rfl jT) (by lia)) (qe0 (qu0 1 fs) (by rw[YB];lia)),qc7 (qm4 k6 (qt8 k6 (xM2 (xp3 0 (qb1 rfl jT) rfl) (xI3 _))) (qT2 (k:=1) k6 (qb1 rfl jT) (by lia)) (qT7 (by rw[YB];show 1+_<=50;lia))) (qe0 (qy3 (a:=[_]) ⟨xI2 _,trivial⟩ (qu0 1 fs)) (by rw[Zj,YB];show 1+_<=50;lia)),qc7 (xp3 0 (qb1 rfl jT) rfl) (qC0 (qJ3 _)),trivial⟩
   have b11:Bag (λa=>a=pp) OkS (era (λa=>a=D3) H9) 30 D4 H10:=b11;have hpb:era (λa=>a=D3) H9 pp=some (.lst [.int pa9,.int pb9]):=era_at.mpr ⟨Yn nD,hpe9⟩;refine qk3 (σ':=[some (.ref pp),some (.ref t),some (.ref l),some (.int ((rows.length:Nat):Int)),some (.int (k:Nat)),some (.int (j:Nat)),some (.ref D4),some (.ref sb)]) rfl ?_;refine⟨_,rfl,sb,_,1,.int (k1:Nat),rfl,rfl,SqT.of (s10 _ _ vC),qe3 (j:=1) vE,_,_,rfl,rfl,_,rfl,?_⟩;refine ite2 (λhc=>?_) (λhc=>⟨D4,30,_,_,_,rfl,b11,hpb,by decide,by decide,λb o e n=>s10 _ _ (bt9 b o e n),hP9.same s10⟩);have ls:=xt9 (show LsAt (λa=>a=pp) (era (λa=>a=D3) H9) by intro a z;cases z;exact⟨_,hpb⟩) b11;obtain⟨xs11,H110,_,n110,t110,hD11,l11,_⟩:=id b11;have jT:DatX (era (λa=>a=pp\/a=D4) H10) (.ref sb) (.tuple (dsS st)):=DatX.of (qm3 (s:=st) (qB9 ls (Same.refl _) (s10 _ _ vC)));refine⟨_,rfl,.inl ⟨rfl,_,SqL.of hD11⟩,(qm4 ls (qw8 ls (xp3 0 (qb1 rfl jT) rfl) (xM3 (xp3 1 (qb1 rfl jT) e1))) (qT2 (k:=2) ls (qb1 rfl jT) (by lia)) (qT7 (by rw[YB];show 2+_<=50;lia))) H10 (Same.refl _) _ λv12 H12 s12 d12=>?_⟩;obtain⟨xs,e12,l12,b12⟩:=xh0 b11 s12 d12 (qe0 (qy3 (a:=[_,_]) ⟨qJ3 _,.bl _,trivial⟩ (qu0 2 fs)) (by rw[Zj,YB];show 2+_<=50;lia));have S12:Same H9 (upd H12 D4 (.lst (xs++[v12]))):=xE7 (s10.trans s12) n10;exact⟨D4,xs,v12,rfl,rfl,e12,by rw[l12];decide,D4,31,_,_,_,rfl,b12,hpb,by decide,by decide,λb o e n=>S12 _ _ (bt9 b o e n),hP9.same S12⟩
  ·rintro σ' H' ⟨D,m,v7,Hb,o,rfl,bg,hb,m0,m1,bt,hp⟩;obtain⟨xs,H60,_,hn,t6,hD6,lx,_⟩:=id bg;refine⟨_,rfl,_,rfl,_,rfl,D,_,rfl,.inl (SqL.of hD6),pp,m,by rw[lx];rfl,hp,m0,by lia,λi H7 hi b7 hP7=>?_⟩;obtain⟨xs,x,d,e1,e2,e3,e4⟩:=qZ8 bg hb b7 hi;exact⟨D,xs,(i:Int),x,rfl,rfl,SqL.of e1,qe3 e2,q x d H7 (bt.trans b7) hP7 e3 e4⟩
end
theorem qu1 {H H1 H2:Hp}{p:Addr}(s:Same H H1) (hp:H p=none) (b:But p H1 H2):Same H H2:=λc o e=>b _ _ (s _ _ e) (qa5 e hp)
theorem none_of {H H1:Hp}{a:Addr}(s:Same H H1) (h:H1 a=none):H a=none:=by
 cases e:H a with
 |none=>rfl
 |some o=>rw[s _ _ e] at h;cases h
theorem qZ9 {H:Hp}{t:Addr}{n tp:Nat}{rows:List Row}(h:TellAt H t n tp rows):DatX H (.ref t) (qq3 n tp rows):=DatX.of (xb2 h)
theorem qy4 {n tp:Nat}{rows:List Row}(c:qh7 n tp rows):Bnd (qq3 n tp rows):=λd0 d1 ds e=>by
 unfold qq3 at e;injection e with e
 injection e with _ e
 injection e with _ e
 injection e with e _
 injection e with e
 rw[<- e,Zb];exact c.2.2.1
section
variable {P:Program}{w:World}{K:PySem.W.Frag}{mg:Str->Option Value}{base:Heap}
abbrev nLaw:List Str:=["_law_script", "_law_k", "_law_pot_here", "_law_telling_here", "_law_steps_here", "_law_turn", "_law_thing", "_law_broken", "_law_step"]
theorem scLaw:FnScope nLaw ["_law_script"] (qa4 lLaw):=qe9
def xp7 (K:PySem.W.Frag):Sp:=λvs H Q _=>∃(a:Addr) (ns:List Int),vs=[.ref a]/\SqL K H a (ns.map V.int)/\ns.length<=63/\∀H',Q (.bl true) H'
theorem xI5 {f fP fD fT fL fN fI fO fR fS fM:Addr}{fd fdP fdD fdT fdL fdN fdI fdO fdR fdS fdM:FuncData}(F:Fun K "law" "law" lLaw f fd) (B:Blt mg) (C:Blt2 mg)
  (hP:mg "_law_pot" = some (.ref fP)) (FP:Fun K "_law_pot" "_law_pot" lPot fP fdP) (bP:Binds K fdP ["_law_script", "_law_k"] [])
  (hD:mg "_law_digit" = some (.ref fD)) (FD:Fun K "_law_digit" "_law_digit" qw2 fD fdD) (bD:Binds K fdD ["_law_pot_here", "_law_many"] [])
  (hT:mg "_law_telling" = some (.ref fT)) (FT:Fun K "_law_telling" "_law_telling" qs0 fT fdT) (bT:Binds K fdT ["_law_pot_here", "_law_n", "_law_most"] []) (GT:FnOk P w K mg base CX0 3 fT fdT ["_law_pot_here", "_law_n", "_law_most"] spTl)
  (hL:mg "_law_steps" = some (.ref fL)) (FL:Fun K "_law_steps" "_law_steps" qL9 fL fdL) (bL:Binds K fdL ["_law_telling_here"] []) (GL:FnOk P w K mg base CX0 7 fL fdL ["_law_telling_here"] spLs)
  (hN:mg "_law_no_step" = some (.ref fN)) (FN:Fun K "_law_no_step" "_law_no_step" qG8 fN fdN) (bN:Binds K fdN ["_law_pot_here", "_law_telling_here", "_law_steps_here"] [])
  (hI:mg "_law_is_one" = some (.ref fI)) (FI:Fun K "_law_is_one" "_law_is_one" qM0 fI fdI) (bI:Binds K fdI ["_law_steps_here", "_law_thing"] [])
  (hO:mg "_law_done" = some (.ref fO)) (FO:Fun K "_law_done" "_law_done" xj5 fO fdO) (bO:Binds K fdO ["_law_telling_here", "_law_step"] []) (GO:FnOk P w K mg base CX0 10 fO fdO ["_law_telling_here", "_law_step"] spDn)
  (hR:mg "_law_no_telling" = some (.ref fR)) (FR:Fun K "_law_no_telling" "_law_no_telling" qG9 fR fdR) (bR:Binds K fdR ["_law_pot_here", "_law_telling_here"] [])
  (hS:mg "_law_listed" = some (.ref fS)) (FS:Fun K "_law_listed" "_law_listed" qH0 fS fdS) (bS:Binds K fdS ["_law_telling_here"] []) (GS:FnOk P w K mg base CX0 8 fS fdS ["_law_telling_here"] spLi)
  (hM:mg "_law_made_one" = some (.ref fM)) (FM:Fun K "_law_made_one" "_law_made_one" qx4 fM fdM) (bM:Binds K fdM ["_law_telling_here"] []) (GM:FnOk P w K mg base CX0 17 fM fdM ["_law_telling_here"] spLi) :
  FnOk P w K mg base CX0 18 f fd ["_law_script"] (xp7 K):=by
 have GP:FnOk P w K mg base CX0 1 fP fdP ["_law_script", "_law_k"] (xF3 K):=xF4 FP B C;have GD:FnOk P w K mg base CX0 1 fD fdD ["_law_pot_here", "_law_many"] qv2:=qt0 FD;have GN:FnOk P w K mg base CX0 2 fN fdN ["_law_pot_here", "_law_telling_here", "_law_steps_here"] spNs:=xM5 FN B C hD FD bD;have GI:FnOk P w K mg base CX0 1 fI fdI ["_law_steps_here", "_law_thing"] spI1:=xL9 FI C;have GR:FnOk P w K mg base CX0 2 fR fdR ["_law_pot_here", "_law_telling_here"] spNt:=xM1 FR B C hD FD bD;refine F.ok scLaw (λvs H Q E h=>?_) (λcdv A outer s H vs Q E hr h=>?_)
 ·obtain⟨a,ns,rfl,_⟩:=h
  rfl
 ·obtain⟨a,ns,rfl,hSq,j9,q⟩:=h;have jE:Room 1 _:=hr.mono (by decide);have kC:Room 2 _:=hr.mono (by decide);have hr3:Room 3 _:=hr.mono (by decide);have hr7:Room 7 _:=hr.mono (by decide);have hr8:Room 8 _:=hr.mono (by decide);have hr10:Room 10 _:=hr.mono (by decide);refine seqE ⟨_,⟨ql5 Yb rfl (qk0 (by rfl) B.range (qa0 (qa7 (qJ6 rfl) (by rfl) B.max XD (qa0 qa3 (qa0 (qa7 (q62 rfl) (by rfl) B.min PyProof.Rows.boot_min (qa0 qa3 (qa0 (qa7 qa9 (by rfl) B.len ZJ (qa0 (pv 0) qa1)) qa1))) qa1))) qa1)) (pgN 1 scLaw.nd)
    (StI.go (.cons ⟨psN 2 scLaw.nd (pcN GP jE hP FP.kp bP (qa0 (pv 0) (qa0 (pv 1) qa1)))⟩
    (.cons ⟨psN 3 scLaw.nd (pcN GT hr3 hT FT.kp bT (qa0 (pv 2) (qa0 (pcN GD jE hD FD.kp bD (qa0 (pv 2) (qa0 qa3 qa1))) (qa0 qa3 qa1))))⟩
    (.cons ⟨psN 4 scLaw.nd (pcN GL hr7 hL FL.kp bL (qa0 (pv 3) qa1))⟩
    (.cons ⟨ql5 Yb rfl (qk0 (by rfl) B.range (qa0 qa3 qa1)) (pgN 5 scLaw.nd)
     (StI.go (.cons ⟨psN 6 scLaw.nd (pcN GN kC hN FN.kp bN (qa0 (pv 2) (qa0 (pv 3) (qa0 (pv 4) qa1))))⟩
     (.consI ⟨qf3 (PW.pt (xp8 (qe7 (qe1 (pcN GI jE hI FI.kp bI (qa0 (pv 4) (qa0 (pv 6) qa1))))) (q54 (qc4 qw6 (pcN GO hr10 hO FO.kp bO (qa0 (pv 3) (qa0 (pv 6) qa1))) qb7 (qc6 _))))) qf8 qb5⟩
     (.cons ⟨psN 7 scLaw.nd (pcN GR kC hR FR.kp bR (qa0 (pv 2) (qa0 (pv 3) qa1)))⟩
     (.cons ⟨qf3 (PW.pt (qk9 (qc4 qw6 (pcN GS hr8 hS FS.kp bS (qa0 (pv 7) qa1)) qb7 (qc6 _)) (qj0 (qc4 qw6 (pcN GM hr hM FM.kp bM (qa0 (pv 7) qa1)) qb7 (qc6 _))))) qf8 qb5⟩
     (.one ⟨qf3 (qc4 qw6 (pcN GO hr10 hO FO.kp bO (qa0 (pv 7) (qa0 (pv 6) qa1))) qb7 (qc6 _)) qf8 qb5⟩))))))⟩
    (.consI ⟨qf3 (qc4 (q84 hr) (pv 4) (@qd1 _ _ _ _ qa1) (qc6 _)) (StI.go (.cons ⟨psN 8 scLaw.nd (pxN qe4 (pv 4) (pcN GD jE hD FD.kp bD (qa0 (pv 2) (qa0 (qa7 qa9 (by rfl) B.len ZJ (qa0 (pv 4) qa1)) qa1))))⟩
     (.one ⟨qf3 (qc4 qw6 (pcN GO hr10 hO FO.kp bO (qa0 (pv 3) (qa0 (pv 8) qa1))) qb7 (qc6 _)) qf8 qb5⟩))) qb5⟩
    (.one ⟨qf3 (PW.pt (qk9 (qc4 qw6 (pcN GS hr8 hS FS.kp bS (qa0 (pv 3) qa1)) qb7 (qc6 _)) (qj0 (qc4 qw6 (pcN GM hr hM FM.kp bM (qa0 (pv 3) qa1)) qb7 (qc6 _))))) qf8 qb5⟩)))))))⟩,?_⟩
  refine qi4 ⟨_,⟨qb0 qj1⟩,?_⟩;refine⟨_,rfl,a,_,rfl,.inl hSq,_,_,rfl,_,_,rfl,_,rfl,?_,?_,qy7 (λi σ H2=>(i:Int)<=12/\Same H H2/\∃v1 v2 v3 v4 v5 v6 v7 v8,σ=[some (.ref a),v1,v2,v3,v4,v5,v6,v7,v8]) ⟨by decide,Same.refl _,none,none,none,none,none,none,none,none,rfl⟩ ?_ ?_⟩
  ·split<;>(try split)<;>lia
  ·split<;>(try split)<;>lia
  ·rintro i σ H2 hi ⟨i1,s2,v1,v2,v3,v4,v5,v6,v7,v8,rfl⟩;have hi':(i:Int)<12:=by
    revert hi;split<;>(try split)<;>lia
   refine⟨_,rfl,_,rfl,a,_,ns,rfl,s2.seq hSq,j9,by lia,by lia,λH3 p s3 hpn jR=>?_⟩;have hpH:=none_of s2 hpn;refine⟨_,rfl,_,rfl,p,13,rfl,jR,by decide,by decide,λn H4 hn b4 jX=>?_⟩;have S4:Same H H4:=qu1 (s2.trans s3) hpH b4;refine⟨p,n,12,rfl,jX,by lia,by decide,by decide,λH5 t tp rows b5 kF hT5 tok vU=>?_⟩;have S5:Same H H5:=qu1 S4 hpH b5;refine⟨_,rfl,t,n,tp,rows,rfl,hT5,tok,λH6 l s6 hln st6=>?_⟩;have hT6:=hT5.mono s6.tups;have vL:=kF.same s6;have S6:=S5.trans s6;have nlp:l≠p:=by
    obtain⟨a',b',e,_⟩:=kF;exact (qa5 e hln).symm
   have few:=xA6 tok;have hcnt:(srt (qd8 tp rows)).length<=1000:=by
    rw[(qj4 _).length_eq];unfold qd8;rw[Zj,Zj];have a1:=qY2 rows;have a2:=qO5 rows;have a3:=qY3 tp rows;have a4:rows.length*rows.length<=12*12:=W4 (by lia) (by lia);lia
   have kO:∀s,s∈srt (qd8 tp rows)<->s∈qd8 tp rows:=λs=>(qj4 _).mem_iff;generalize srt (qd8 tp rows)=ss at st6 few hcnt kO;have hIs:∀{d:PyData},qC7 tp rows d->∃s∈ss,d=dS s:=λ⟨s,h1,h2⟩=>⟨s,(kO s).mpr h1,h2⟩;have een:PyData.eqv (dSs ss) (.list [])=ss.isEmpty:=by
    cases ss with
    |nil=>rfl
    |cons a l=>simp[dSs,PyData.eqv,PyData.eqvAll]
   have isT:IsTl (qq3 n tp rows):=⟨n,tp,rows,rfl,tok⟩;refine⟨_,rfl,by decide,by decide,qy7 (λj σ H'=>Same H H'/\PurseAt H' p/\TellAt H' t n tp rows/\StepsL H' l ss/\∃v1 v5 v6 v7 v8,σ=[some (.ref a),v1,some (.ref p),some (.ref t),some (.ref l),v5,v6,v7,v8]) ⟨S6,vL,hT6,st6,_,_,_,_,_,rfl⟩ ?_ ?_⟩
   ·rintro j σ H7 hj ⟨S7,k6,hT7,st7,v1,v5,v6,v7,v8,rfl⟩;obtain⟨pa7,pb7,hpe7,_⟩:=id k6;refine⟨_,rfl,_,rfl,_,rfl,p,t,l,n,tp,rows,ss,rfl,k6,hT7,by lia,st7,nlp,few,hcnt,λv d H8 b8 hp8 dx ok=>?_⟩;have S8:Same H H8:=qu1 S7 hpH b8;have vS:=hT7.mono (b8.tups hpe7 (λu z=>nomatch z));have st8:=st7.but b8 nlp hpe7 (λu z=>nomatch z);refine⟨λσ' H'=>Same H8 H'/\∃v5,σ'=[some (.ref a),v1,some (.ref p),some (.ref t),some (.ref l),v5,some v,v7,v8],?_,?_⟩
    ·refine⟨_,rfl,_,rfl,l,ss,v,d,rfl,st8,few,hcnt,⟨dx.same qq9,ok.atm,ok.mix,ok.dep,ok.nds⟩,λb H9 hb s9=>⟨_,rfl,?_⟩⟩;cases b with
     |true=>exact iteF (iteF ⟨s9,_,rfl⟩)
     |false=>
      have no:¬qC7 tp rows d:=λz=>Bool.noConfusion (hb (hIs z));refine iteT ⟨_,rfl,_,rfl,_,v,_,d,rfl,qZ9 (vS.mono s9.tups),qy4 tok,(dx.same qq9).same s9,ok.thn,(λz=>absurd isT z),λn' tp' rows' e _=>?_⟩;obtain⟨rfl,rfl,rfl⟩:=qA6 e;refine⟨λz=>absurd z no,λ_ H10 s10=>⟨rfl,_,rfl,?_⟩⟩;rw[Zi rfl];exact iteF ⟨s9.trans s10,_,rfl⟩
    ·rintro σ' H9 ⟨s9,v5',rfl⟩;have hp9:=hp8.same s9;have hT9:=vS.mono s9.tups;obtain⟨pa9,pb9,hpe9,_⟩:=id hp9;refine⟨_,rfl,_,rfl,p,t,n,tp,rows,rfl,hp9,hT9,tok,by lia,λv' d' HA bA hpA dx' bn no=>?_⟩;have SA:Same H HA:=qu1 (S8.trans s9) hpH bA;have hTA:=hT9.mono (bA.tups hpe9 (λu z=>nomatch z));have stA:=(st8.same s9).but bA nlp hpe9 (λu z=>nomatch z);have dxA:=(dx.same (qb4 s9)).same (qT1 (λ_ z=>z) bA);refine⟨_,rfl,v',d',rfl,dx'.same qq9,bn,(λz=>absurd z no),λ_ HB sB=>⟨rfl,_,rfl,?_⟩⟩;rw[Zi rfl];refine iteF ⟨_,rfl,v',d',rfl,(dx'.same qq9).same sB,bn,(λz=>absurd z no),λ_ HC sC=>⟨rfl,_,rfl,?_⟩⟩;rw[Zi rfl];have sAC:=sB.trans sC;refine iteF ⟨_,rfl,_,rfl,v',v,d',d,rfl,(dx'.same qq9).same sAC,bn,(dxA.same qq9).same sAC,ok.thn,λ_ HD sD=>⟨rfl,_,rfl,?_⟩,λn' tp' rows' e tok'=>absurd ⟨n',tp',rows',e,tok'⟩ no⟩;rw[Zi rfl];have sAD:=sAC.trans sD;exact iteF ⟨SA.trans sAD,hpA.same sAD,hTA.mono sAD.tups,stA.same sAD,_,_,_,_,_,rfl⟩
   ·rintro σ H7 ⟨S7,k6,hT7,st7,v1,v5,v6,v7,v8,rfl⟩;obtain⟨pa7,pb7,hpe7,_⟩:=id k6;refine⟨λσ' H'=>Same H H'/\TellAt H' t n tp rows/\∃v8,σ'=[some (.ref a),v1,some (.ref p),some (.ref t),some (.ref l),v5,v6,v7,v8],?_,?_⟩
    ·refine⟨_,rfl,(by show 0<=sizeLine;decide),λe he=>?_⟩;have se:=qb2 (o:=.lst []) he;have st8:=st7.same se;have hp8:=k6.same se;have vS:=hT7.mono se.tups;refine⟨dSs ss,.list [],st8.data,.lst qa2 .nil,xe9 ss,rfl,qZ5 ss,_,rfl,?_⟩;generalize upd H7 e (.lst [])=H8 at se st8 hp8 vS ⊢;have S8:=S7.trans se;rw[een];refine ite2 (λhc=>?_) (λhc=>⟨S8,vS,_,rfl⟩);have ne:ss≠[]:=λz=>by rw[z] at hc;simp at hc
     have kE:=Y3.mpr ne;obtain⟨cs,hc0,vX,kK⟩:=id st8;obtain⟨pa8,pb8,hpe8,_⟩:=id hp8;refine⟨_,rfl,_,rfl,_,rfl,l,_,rfl,.inl (SqL.of hc0),p,ss.length,by rw[Zb,vX];rfl,hp8,kE,by lia,λi H9 hi b9 hp9=>?_⟩;have vR:cs[i]?=some (cs[i]'(by lia)):=by simp[show i<cs.length by lia]
     have hsi:ss[i]?=some ss[i]:=by simp[hi]
     have hb8:=kK i _ _ vR hsi;have vC:=b9 _ _ hb8 (qp9 hb8 hpe8 (λz=>nomatch z));have hT9:=vS.mono (b9.tups hpe8 (λu z=>nomatch z));have S9:Same H H9:=qu1 S8 hpH b9;have fw:∀x∈qf1 ss[i],x<1000:=few _ (Yu hi);have jO:qC7 tp rows (dS ss[i]):=⟨_,(kO _).mp (Yu hi),rfl⟩;refine⟨l,_,(i:Int),.ref (cs[i]'(by lia)),rfl,rfl,SqL.of (b9 _ _ hc0 nlp),qe3 (by rw[Zd,vR];rfl),?_⟩;generalize cs[i]'(by lia)=sb at vC ⊢;generalize ss[i]=st at vC fw jO;have th:Thn (dS st):=(qe0 (qP6 fw) (ZK (xu1 st).2 (by decide))).thn;refine⟨_,rfl,_,rfl,_,_,_,_,rfl,qZ9 hT9,qy4 tok,DatX.of (qm3 vC),th,(λz=>absurd isT z),λn' tp' rows' e _=>?_⟩;obtain⟨rfl,rfl,rfl⟩:=qA6 e;refine⟨λ_ H10 s10=>⟨rfl,_,rfl,?_⟩,λz=>absurd jO z⟩;rw[Zi rfl];exact iteF ⟨S9.trans s10,hT9.mono s10.tups,_,rfl⟩
    ·rintro σ' H8 ⟨S8,vS,v8',rfl⟩;refine⟨_,rfl,_,_,rfl,qZ9 vS,qy4 tok,(λ_ H9 s9=>⟨rfl,_,rfl,?_⟩),λz=>absurd isT z⟩;rw[Zi rfl];refine iteF ⟨_,rfl,_,_,rfl,qZ9 (vS.mono s9.tups),qy4 tok,(λ_ H10 s10=>⟨rfl,_,rfl,?_⟩),λz=>absurd isT z⟩;rw[Zi rfl];exact iteF ⟨by lia,(S8.trans s9).trans s10,_,_,_,_,_,_,_,_,rfl⟩
  ·rintro σ H2 ⟨i1,s2,v1,v2,v3,v4,v5,v6,v7,v8,rfl⟩;exact q H2
end
def qg1 (K:PySem.W.Frag) (x:Str) (st:Stmt):Prop:=∃(f:Addr) (fd:FuncData),PySem.W.nsIn K mainGlobals x=some (some (.ref f))/\Fun K x x st f fd
theorem d_mk {K:PySem.W.Frag}{x:Str}{st:Stmt}{f:Addr}{od an:Option Addr}{sl:Array (Option Value)}{oc kV dc pm cd ct:Value}(a:PySem.W.nsIn K mainGlobals x=some (some (.ref f)))
  (l:K.lookup f=some ⟨oc,od,.func (PySem.W.fnOf x x (qj7 st) (qh2 st) (qa4 st) .none kV dc pm an cd ct),sl⟩) (c:PySem.W.codeIn K cd x=true) (k:PySem.W.keepIn K (.ref f)=true):qg1 K x st:=⟨f,_,a,q77 l c k⟩
def qc8 (K:PySem.W.Frag) (x:Str):Prop:=PySem.W.nsIn K mainGlobals x=some none
def q00 (K:PySem.W.Frag) (C:Addr) (m qn:Str) (st:Stmt):Prop:=∃(f:Addr) (fd:FuncData),PySem.W.findIn K (.ref C) m=some (some (.ref f))/\PySem.W.isFn K (.ref f)=true/\Fun K m qn st f fd
theorem m_mk {K:PySem.W.Frag}{C:Addr}{m qn:Str}{st:Stmt}{f:Addr}{od an:Option Addr}{sl:Array (Option Value)}{oc kV dc pm cd ct:Value}(a:PySem.W.findIn K (.ref C) m=some (some (.ref f))) (i:PySem.W.isFn K (.ref f)=true)
  (l:K.lookup f=some ⟨oc,od,.func (PySem.W.fnOf m qn (qj7 st) (qh2 st) (qa4 st) .none kV dc pm an cd ct),sl⟩) (c:PySem.W.codeIn K cd qn=true) (k:PySem.W.keepIn K (.ref f)=true):q00 K C m qn st:=⟨f,_,a,i,q77 l c k⟩
theorem e_mk {K:PySem.W.Frag}{C:Addr}(hga:PySem.W.findIn K (.ref C) "__getattribute__" = some (some (.builtin "BaseException.__getattribute__"))) (hgt:PySem.W.findIn K (.ref C) "__getattr__" = some none)
  (ha:PySem.W.findIn K (.ref C) "__class__" = some (some (.builtin "object.__class__"))) (hn:PySem.W.specialIn K (.builtin "object.__class__") "__get__" = some (some (.builtin "getset_descriptor.__get__")))
  (htk:PySem.W.takesIn K (.builtin "object.__class__")=some true) (hm:PySem.W.mroIn K C (.type "object")=some true) (hb:PySem.W.mroIn K C (.type "BaseException")=some true){x:_}(hc:PySem.W.clsIn K C=some x):ExcCls K C:=⟨hga,hgt,ha,hn,htk,hm,hb,by rw[hc];rfl⟩
def kitC (K:PySem.W.Frag) (c T S E o0 o1 o2 o3 o4 o5:Addr) (b0 b1:Bool):Bool:=PySem.W.excIn K c bmV "ValueError.__new__" && decide (PySem.W.kitOne K (.ref c) (.type "ValueError")=some true/\PySem.W.kitAny K (.ref c) [.ref o0,.ref o1,.ref o2,.ref o3,.ref o4,.ref o5]=some false/\PySem.W.kitOne K (.ref c) (.ref S)=some b0/\PySem.W.kitOne K (.ref c) (.ref T)=some b1/\PySem.W.exmOne K (.ref c) (.ref E)=some true)
def xM6 (K:PySem.W.Frag) (T S E o0 o1 o2 o3 o4 o5:Addr):Bool:=kitC K T T S E o0 o1 o2 o3 o4 o5 false true&&kitC K S T S E o0 o1 o2 o3 o4 o5 true false
theorem xh2 {K:PySem.W.Frag}{c T S E o0 o1 o2 o3 o4 o5:Addr}{b0 b1:Bool}(h:kitC K c T S E o0 o1 o2 o3 o4 o5 b0 b1=true) (ec:ExcCls K c):Kin2 K c T S o0 o1 o2 o3 o4 o5 b0 b1/\PySem.W.excIn K c bmV "ValueError.__new__" = true/\PySem.W.exmOne K (.ref c) (.ref E)=some true:=by
 obtain⟨h1,h2⟩:=XU.mp h;obtain⟨h2,h3,h4,h5,h6⟩:=ZU h2;exact⟨⟨ec,h2,h3,h4,h5⟩,h1,h6⟩
theorem xI6 {l:PySem.W.OpenLaw}{w:World}{K:PySem.W.Frag}{h:Heap}{mg:Str->Option Value}{fa fL C0 X0 X1 X2 X3 X4 X5 X6 X7 X8:Addr}(X:K.In h) (G:h.Ns mainGlobals mg) (hfa:mg "law" = some (.ref fa)){odL anL:Option Addr}{slL:Array (Option Value)}{ocL kVL dcL pmL cdL ctL:Value}{t0 t1 t2 t3:Tok}
  (aL:PySem.W.nsIn K mainGlobals "law" = some (some (.ref fL))) (lL:K.lookup fL=some ⟨ocL,odL,.func (PySem.W.fnOf "law" "law" (qj7 lLaw) (qh2 lLaw) (qa4 lLaw) .none kVL dcL pmL anL cdL ctL),slL⟩) (cL:PySem.W.codeIn K cdL "law" = true) (kL:PySem.W.keepIn K (.ref fL)=true)
  (g0:PySem.W.nsIn K mainGlobals "FIRST" = some (some (.int 2 t0))) (g1:PySem.W.nsIn K mainGlobals "FULL" = some (some (.int 1 t1))) (g2:PySem.W.nsIn K mainGlobals "GREATEST_SIZE" = some (some (.int 12 t2))) (g3:PySem.W.nsIn K mainGlobals "EMPTY" = some (some (.int 0 t3)))
  (d0:qg1 K "is_whole" qp8) (d1:qg1 K "is_plain" qD8) (d2:qg1 K "depths_of" qR1) (d3:qg1 K "end_rows" sEnd) (d4:qg1 K "places_as_ended" qG4) (d5:qg1 K "renumbered" qn3) (d6:qg1 K "shape_of" qx3) (d7:qg1 K "is_size" qR2) (d8:qg1 K "is_number" qm8) (d9:qg1 K "is_row" sRow) (d10:qg1 K "are_rows" qG7) (d11:qg1 K "is_telling" qm9) (d12:qg1 K "want_telling" ql0) (d13:qg1 K "same_steps" xa0) (d14:qg1 K "plain_steps" qz9) (d15:qg1 K "gone_steps" xa1) (d16:qg1 K "steps_of" qn0) (d17:qg1 K "is_step" qo3) (d18:qg1 K "number_behind" xj4) (d19:qg1 K "stepped" qp0) (d20:qg1 K "one_telling" xa2) (d21:qg1 K "_law_pot" lPot) (d22:qg1 K "_law_digit" qw2) (d23:qg1 K "_law_row" qD9) (d24:qg1 K "_law_depths" xa3) (d25:qg1 K "_law_telling" qs0) (d26:qg1 K "_law_steps" qL9) (d27:qg1 K "_law_no_step" qG8) (d28:qg1 K "_law_no_telling" qG9) (d29:qg1 K "_law_word" qR3) (d30:qg1 K "_law_done" xj5) (d31:qg1 K "_law_listed" qH0) (d32:qg1 K "_law_made_one" qx4) (d33:qg1 K "_law_is_one" qM0)
  (z0:qc8 K "isinstance") (z1:qc8 K "int") (z2:qc8 K "bool") (z3:qc8 K "tuple") (z4:qc8 K "list") (z5:qc8 K "set") (z6:qc8 K "len") (z7:qc8 K "all") (z8:qc8 K "any") (z9:qc8 K "enumerate") (z10:qc8 K "range") (z11:qc8 K "max") (z12:qc8 K "min") (z13:qc8 K "abs") (z14:qc8 K "repr") (z15:qc8 K "str") (z16:qc8 K "sorted") (z17:qc8 K "ValueError") (z18:qc8 K "sum")
  (ac0:PySem.W.nsIn K mainGlobals "Book" = some (some (.ref C0))) (cl0:Cls K C0) (mk0:PySem.W.makesIn K C0=true) (kc0:PySem.W.keepIn K (.ref C0)=true) (na0_0:NoAttr K C0 "kept") (na0_1:NoAttr K C0 "numbers") (md0_0:q00 K C0 "__init__" "Book.__init__" qG5) (md0_1:q00 K C0 "number_for" "Book.number_for" qV8) (md0_2:q00 K C0 "numbers_for" "Book.numbers_for" qG6)
  (xn0:PySem.W.nsIn K mainGlobals "NoTelling" = some (some (.ref X0)))
  (xn1:PySem.W.nsIn K mainGlobals "NoStep" = some (some (.ref X1)))
  (xn2:PySem.W.nsIn K mainGlobals "FloorError" = some (some (.ref X2)))
  (xn3:PySem.W.nsIn K mainGlobals "NoAddress" = some (some (.ref X3)))
  (xn4:PySem.W.nsIn K mainGlobals "NoCell" = some (some (.ref X4)))
  (xn5:PySem.W.nsIn K mainGlobals "NoFloor" = some (some (.ref X5)))
  (xn6:PySem.W.nsIn K mainGlobals "NoNumber" = some (some (.ref X6)))
  (xn7:PySem.W.nsIn K mainGlobals "NoShape" = some (some (.ref X7)))
  (xn8:PySem.W.nsIn K mainGlobals "NoText" = some (some (.ref X8)))
  (xc0:ExcCls K X0)
  (xc1:ExcCls K X1)
  (xk:xM6 K X0 X1 X2 X3 X4 X5 X6 X7 X8=true) :
  ∃fd:FuncData,(∀(s:Shared) (v:Value),BindsTo s fd ⟨[v],[]⟩ [("_law_script",v)])/\∀base:Heap,K.In base->base.Ns mainGlobals mg->FnOk l.prog w K mg base CX0 18 fa fd ["_law_script"] (xp7 K):=by
 have e:=hfa.symm.trans (Zq X G aL);cases e;have nn:∀{x:Str},qc8 K x->mg x=none:=λz=>PySem.W.mg_none_of X G z;have B:Blt mg:=⟨nn z0,nn z1,nn z2,nn z3,nn z4,nn z5,nn z6,nn z7,nn z8,nn z9,nn z10,nn z11,nn z12⟩;have C:Blt2 mg:=⟨nn z13,nn z14,nn z15⟩;have T:Cst mg:=⟨⟨t0,Zq X G g0⟩,⟨t1,Zq X G g1⟩,⟨t2,Zq X G g2⟩⟩;have FL:=q77 (st:=lLaw) lL cL kL;obtain⟨f0,fd0,a0,F0⟩:=d0;have h0:=Zq X G a0;have b0:=F0.binds (ps:=["thing"]) λ_ _ _ _ _ _ us hl=>match us,hl with|[_],_=>rfl
 obtain⟨f1,fd1,a1,F1⟩:=d1;have h1:=Zq X G a1;have b1:=F1.binds (ps:=["row"]) λ_ _ _ _ _ _ us hl=>match us,hl with|[_],_=>rfl
 obtain⟨f2,fd2,a2,F2⟩:=d2;have h2:=Zq X G a2;have b2:=F2.binds (ps:=["rows"]) λ_ _ _ _ _ _ us hl=>match us,hl with|[_],_=>rfl
 obtain⟨f3,fd3,a3,F3⟩:=d3;have h3:=Zq X G a3;have b3:=F3.binds (ps:=["rows", "number", "ended"]) λ_ _ _ _ _ _ us hl=>match us,hl with|[_,_,_],_=>rfl
 obtain⟨f4,fd4,a4,F4⟩:=d4;have h4:=Zq X G a4;have b4:=F4.binds (ps:=["rows", "top"]) λ_ _ _ _ _ _ us hl=>match us,hl with|[_,_],_=>rfl
 obtain⟨f5,fd5,a5,F5⟩:=d5;have h5:=Zq X G a5;have b5:=F5.binds (ps:=["row", "numbers"]) λ_ _ _ _ _ _ us hl=>match us,hl with|[_,_],_=>rfl
 obtain⟨f6,fd6,a6,F6⟩:=d6;have h6:=Zq X G a6;have b6:=F6.binds (ps:=["n", "top", "rows"]) λ_ _ _ _ _ _ us hl=>match us,hl with|[_,_,_],_=>rfl
 obtain⟨f7,fd7,a7,F7⟩:=d7;have h7:=Zq X G a7;have b7:=F7.binds (ps:=["thing"]) λ_ _ _ _ _ _ us hl=>match us,hl with|[_],_=>rfl
 obtain⟨f8,fd8,a8,F8⟩:=d8;have h8:=Zq X G a8;have b8:=F8.binds (ps:=["thing", "many"]) λ_ _ _ _ _ _ us hl=>match us,hl with|[_,_],_=>rfl
 obtain⟨f9,fd9,a9,F9⟩:=d9;have h9:=Zq X G a9;have b9:=F9.binds (ps:=["thing", "before"]) λ_ _ _ _ _ _ us hl=>match us,hl with|[_,_],_=>rfl
 obtain⟨f10,fd10,a10,F10⟩:=d10;have h10:=Zq X G a10;have b10:=F10.binds (ps:=["thing"]) λ_ _ _ _ _ _ us hl=>match us,hl with|[_],_=>rfl
 obtain⟨f11,fd11,a11,F11⟩:=d11;have h11:=Zq X G a11;have b11:=F11.binds (ps:=["thing"]) λ_ _ _ _ _ _ us hl=>match us,hl with|[_],_=>rfl
 obtain⟨f12,fd12,a12,F12⟩:=d12;have h12:=Zq X G a12;have b12:=F12.binds (ps:=["telling"]) λ_ _ _ _ _ _ us hl=>match us,hl with|[_],_=>rfl
 obtain⟨f13,fd13,a13,F13⟩:=d13;have h13:=Zq X G a13;have b13:=F13.binds (ps:=["rows"]) λ_ _ _ _ _ _ us hl=>match us,hl with|[_],_=>rfl
 obtain⟨f14,fd14,a14,F14⟩:=d14;have h14:=Zq X G a14;have b14:=F14.binds (ps:=["rows"]) λ_ _ _ _ _ _ us hl=>match us,hl with|[_],_=>rfl
 obtain⟨f15,fd15,a15,F15⟩:=d15;have h15:=Zq X G a15;have b15:=F15.binds (ps:=["top", "rows"]) λ_ _ _ _ _ _ us hl=>match us,hl with|[_,_],_=>rfl
 obtain⟨f16,fd16,a16,F16⟩:=d16;have h16:=Zq X G a16;have b16:=F16.binds (ps:=["telling"]) λ_ _ _ _ _ _ us hl=>match us,hl with|[_],_=>rfl
 obtain⟨f17,fd17,a17,F17⟩:=d17;have h17:=Zq X G a17;have b17:=F17.binds (ps:=["telling", "thing"]) λ_ _ _ _ _ _ us hl=>match us,hl with|[_,_],_=>rfl
 obtain⟨f18,fd18,a18,F18⟩:=d18;have h18:=Zq X G a18;have b18:=F18.binds (ps:=["rows", "step"]) λ_ _ _ _ _ _ us hl=>match us,hl with|[_,_],_=>rfl
 obtain⟨f19,fd19,a19,F19⟩:=d19;have h19:=Zq X G a19;have b19:=F19.binds (ps:=["telling", "step"]) λ_ _ _ _ _ _ us hl=>match us,hl with|[_,_],_=>rfl
 obtain⟨f20,fd20,a20,F20⟩:=d20;have h20:=Zq X G a20;have b20:=F20.binds (ps:=["telling"]) λ_ _ _ _ _ _ us hl=>match us,hl with|[_],_=>rfl
 obtain⟨f21,fd21,a21,F21⟩:=d21;have h21:=Zq X G a21;have b21:=F21.binds (ps:=["_law_script", "_law_k"]) λ_ _ _ _ _ _ us hl=>match us,hl with|[_,_],_=>rfl
 obtain⟨f22,fd22,a22,F22⟩:=d22;have h22:=Zq X G a22;have b22:=F22.binds (ps:=["_law_pot_here", "_law_many"]) λ_ _ _ _ _ _ us hl=>match us,hl with|[_,_],_=>rfl
 obtain⟨f23,fd23,a23,F23⟩:=d23;have h23:=Zq X G a23;have b23:=F23.binds (ps:=["_law_pot_here", "_law_rows"]) λ_ _ _ _ _ _ us hl=>match us,hl with|[_,_],_=>rfl
 obtain⟨f24,fd24,a24,F24⟩:=d24;have h24:=Zq X G a24;have b24:=F24.binds (ps:=["_law_rows"]) λ_ _ _ _ _ _ us hl=>match us,hl with|[_],_=>rfl
 obtain⟨f25,fd25,a25,F25⟩:=d25;have h25:=Zq X G a25;have b25:=F25.binds (ps:=["_law_pot_here", "_law_n", "_law_most"]) λ_ _ _ _ _ _ us hl=>match us,hl with|[_,_,_],_=>rfl
 obtain⟨f26,fd26,a26,F26⟩:=d26;have h26:=Zq X G a26;have b26:=F26.binds (ps:=["_law_telling_here"]) λ_ _ _ _ _ _ us hl=>match us,hl with|[_],_=>rfl
 obtain⟨f27,fd27,a27,F27⟩:=d27;have h27:=Zq X G a27;have b27:=F27.binds (ps:=["_law_pot_here", "_law_telling_here", "_law_steps_here"]) λ_ _ _ _ _ _ us hl=>match us,hl with|[_,_,_],_=>rfl
 obtain⟨f28,fd28,a28,F28⟩:=d28;have h28:=Zq X G a28;have b28:=F28.binds (ps:=["_law_pot_here", "_law_telling_here"]) λ_ _ _ _ _ _ us hl=>match us,hl with|[_,_],_=>rfl
 obtain⟨f29,fd29,a29,F29⟩:=d29;have h29:=Zq X G a29;have b29:=F29.binds (ps:=["_law_e"]) λ_ _ _ _ _ _ us hl=>match us,hl with|[_],_=>rfl
 obtain⟨f30,fd30,a30,F30⟩:=d30;have h30:=Zq X G a30;have b30:=F30.binds (ps:=["_law_telling_here", "_law_step"]) λ_ _ _ _ _ _ us hl=>match us,hl with|[_,_],_=>rfl
 obtain⟨f31,fd31,a31,F31⟩:=d31;have h31:=Zq X G a31;have b31:=F31.binds (ps:=["_law_telling_here"]) λ_ _ _ _ _ _ us hl=>match us,hl with|[_],_=>rfl
 obtain⟨f32,fd32,a32,F32⟩:=d32;have h32:=Zq X G a32;have b32:=F32.binds (ps:=["_law_telling_here"]) λ_ _ _ _ _ _ us hl=>match us,hl with|[_],_=>rfl
 obtain⟨f33,fd33,a33,F33⟩:=d33;have h33:=Zq X G a33;have b33:=F33.binds (ps:=["_law_steps_here", "_law_thing"]) λ_ _ _ _ _ _ us hl=>match us,hl with|[_,_],_=>rfl
 obtain⟨mf0_0,mfd0_0,ma0_0,mi0_0,MF0_0⟩:=md0_0;have me0_0:Meth K C0 "__init__" mf0_0:=⟨ma0_0,mi0_0,MF0_0.kp⟩;have mb0_0:=MF0_0.binds (ps:=["self"]) λ_ _ _ _ _ _ us hl=>match us,hl with|[_],_=>rfl
 obtain⟨mf0_1,mfd0_1,ma0_1,mi0_1,MF0_1⟩:=md0_1;have me0_1:Meth K C0 "number_for" mf0_1:=⟨ma0_1,mi0_1,MF0_1.kp⟩;have mb0_1:=MF0_1.binds (ps:=["self", "row"]) λ_ _ _ _ _ _ us hl=>match us,hl with|[_,_],_=>rfl
 obtain⟨mf0_2,mfd0_2,ma0_2,mi0_2,MF0_2⟩:=md0_2;have me0_2:Meth K C0 "numbers_for" mf0_2:=⟨ma0_2,mi0_2,MF0_2.kp⟩;have mb0_2:=MF0_2.binds (ps:=["self", "rows"]) λ_ _ _ _ _ _ us hl=>match us,hl with|[_,_],_=>rfl
 have mm0:Mk K C0 mf0_0:=⟨mk0,ma0_0,mi0_0,kc0⟩;refine⟨PySem.W.fnOf "law" "law" (qj7 lLaw) (qh2 lLaw) (qa4 lLaw) .none kVL dcL pmL anL cdL ctL,λs v=>.of_eq rfl,λbase _ _=>?_⟩;have hso:mg "sorted" = none:=nn z16;have hem0:∃t,mg "EMPTY" = some (.int 0 t):=⟨t3,Zq X G g3⟩;obtain⟨xk0,xk1⟩:=XU.mp xk;obtain⟨kT,eT,mT⟩:=xh2 xk0 xc0;obtain⟨kS,eS,mS⟩:=xh2 xk1 xc1;have XT:Kx K mg X0 X1 X2 X3 X4 X5 X6 X7 X8:=⟨Zq X G xn0,Zq X G xn1,Zq X G xn2,Zq X G xn3,Zq X G xn4,Zq X G xn5,Zq X G xn6,Zq X G xn7,Zq X G xn8,nn z17⟩;have XF:Kf K X0 X1 X2:=⟨eT,eS,mT,mS⟩;have gSize:FnOk l.prog w K mg base CX0 2 _ _ _ _:=xw5 F7 B T h0 F0 b0;have gNum:FnOk l.prog w K mg base CX0 2 _ _ _ _:=xa6 F8 B T h0 F0 b0;have gRow:FnOk l.prog w K mg base CX0 3 _ _ _ _:=xE6 F9 B h8 F8 b8 gNum;have gRows:FnOk l.prog w K mg base CX0 4 _ _ _ _:=xw8 F10 B h9 F9 b9 gRow;have gTell:FnOk l.prog w K mg base CX0 5 _ _ _ _:=q27 F11 B h7 F7 b7 gSize h10 F10 b10 gRows h8 F8 b8 gNum h2 F2 b2;have gTell2:FnOk l.prog w K mg base CX0 5 _ _ _ qu6:=qR7 F11 B h7 F7 b7 gSize h10 F10 b10 gRows h8 F8 b8 gNum h2 F2 b2;have gSize3:FnOk l.prog w K mg base CX0 2 _ _ _ qS1:=xk3 F7 B T h0 F0 b0;have gNum3:FnOk l.prog w K mg base CX0 2 _ _ _ qs3:=q28 F8 B T h0 F0 b0;have gRow3:FnOk l.prog w K mg base CX0 3 _ _ _ xb4:=xx3 F9 B h8 F8 b8 gNum3;have gRows3:FnOk l.prog w K mg base CX0 4 _ _ _ qS2:=xk4 F10 B h9 F9 b9 gRow3;have gTellNo:FnOk l.prog w K mg base CX0 5 _ _ _ qH7:=xb6 F11 B h7 F7 b7 gSize3 h10 F10 b10 gRows3 h8 F8 b8 gNum3 h2 F2 b2;have gTell3:FnOk l.prog w K mg base CX0 5 _ _ _ qu7:=qS3 gTell2 gTellNo;have gWant:FnOk l.prog w K mg base CX0 6 _ _ _ _:=xd6 F12 h11 F11 b11 gTell;have gW3:FnOk l.prog w K mg base (CX1 l.prog w) 6 _ _ _ (qt5 X0):=xf0 F12 XT.t eT h11 F11 b11 gTell3;have gPl:∀d,FnOk l.prog w K mg base CX0 (d+2) _ _ _ (qH4 d):=λd=>qM3 F4 B T h3 F3 b3 d;have gSa:FnOk l.prog w K mg base CX0 1 _ _ _ _:=xy6 F13 B;have gPs:FnOk l.prog w K mg base CX0 3 _ _ _ _:=xd7 F14 B T h1 F1 b1;have gGo:FnOk l.prog w K mg base CX0 1 _ _ _ _:=xy7 F15 B T;have gSt:FnOk l.prog w K mg base CX0 7 _ _ _ _:=q36 F16 hso h12 F12 b12 gWant h13 F13 b13 gSa h14 F14 b14 gPs h15 F15 b15 gGo;have gIs:FnOk l.prog w K mg base CX0 8 _ _ _ _:=xe6 F17 B C h0 F0 b0 h16 F16 b16 gSt;have gSd:FnOk l.prog w K mg base CX0 9 _ _ _ _:=q41 F19 B T h12 F12 b12 gWant h17 F17 b17 gIs h18 F18 b18 h5 F5 b5;have TB:BookIn K mg C0:=⟨cl0,na0_0,na0_1,Zq X G ac0⟩;have gBN:FnOk l.prog w K mg base CX0 4 _ _ _ (xA2 C0):=xH1 MF0_2 B T hem0 TB me0_1 MF0_1 mb0_1 h5 F5 b5 h1 F1 b1;have gSO:FnOk l.prog w K mg base CX0 15 _ _ _ _:=xK7 F6 B T hem0 h4 F4 b4 h3 F3 b3 h5 F5 b5;have gOne:FnOk l.prog w K mg base CX0 16 _ _ _ _:=xA5 F20 TB h12 F12 b12 gWant mm0 MF0_0 mb0_0 me0_2 MF0_2 mb0_2 gBN h6 F6 b6 gSO;have gSt3:FnOk l.prog w K mg base (CX1 l.prog w) 7 _ _ _ (qP2 X0):=xt5 gSt (λt n tp rows H Q E hT tok k=>⟨t,n,tp,rows,rfl,hT,tok,λH' q s _ _=>k _ _ s⟩) (qS8 F16 h12 F12 b12 gW3);have gOne3:FnOk l.prog w K mg base (CX1 l.prog w) 16 _ _ _ (qP2 X0):=xt5 gOne (λt n tp rows H Q E hT tok k=>⟨t,n,tp,rows,rfl,hT,tok,λH' q s _ _=>k _ _ s⟩) (xf1 F20 h12 F12 b12 gW3);have gIs3:FnOk l.prog w K mg base CX0 8 _ _ _ qB7:=q44 F17 B C h0 F0 b0 h16 F16 b16 gSt;have gSd3:FnOk l.prog w K mg base (CX1 l.prog w) 9 _ _ _ (qS9 X0 X1):=xo4 gSd (xo3 F19 XT.s eS h12 F12 b12 gW3 h17 F17 b17 gIs3);have gWd:∀x,FnOkH l.prog w K mg base 1 x _ _ _ (qB8 X0 X1 x):=λx=>xo6 F29 B C (nn z18) XT kT kS;have gDn:FnOk l.prog w K mg base CX0 10 _ _ _ spDn:=xL5 F30 XT.fe XF h19 F19 b19 gSd3 h29 F29 b29 gWd;have gLi:FnOk l.prog w K mg base CX0 8 _ _ _ spLi:=xL6 F31 XT.fe XF h16 F16 b16 gSt3 h29 F29 b29 gWd;have gMo:FnOk l.prog w K mg base CX0 17 _ _ _ spLi:=xL7 F32 XT.fe XF h20 F20 b20 gOne3 h29 F29 b29 gWd;have gTl:FnOk l.prog w K mg base CX0 3 _ _ _ _:=xL8 F25 B h22 F22 b22 h23 F23 b23 h24 F24 b24;have gLs:FnOk l.prog w K mg base CX0 7 _ _ _ _:=xM0 F26 B hso;exact xI5 FL B C h21 F21 b21 h22 F22 b22 h25 F25 b25 gTl h26 F26 b26 gLs h27 F27 b27 h33 F33 b33 h30 F30 b30 gDn h28 F28 b28 h31 F31 b31 gLi h32 F32 b32 gMo
theorem walk {l:PySem.W.OpenLaw}{q:Program}{loose:List Str}{XP:(Str->Option Value)->Heap->Prop}{YP:World->Heap->Prop}{d:DefRec}{K:Params->PySem.W.Frag}(hn:l.most=some 63) (hdf:d.params.defaults=[])
  (hY:∀(w:World) (h:Heap),YP w h->(K w.params).In h)
  (F:∀(w:World) (mg:Str->Option Value) (fa:Addr) (h:Heap),(K w.params).In h->h.Ns mainGlobals mg->mg d.name=some (.ref fa) ->
   ∃fd:FuncData,(∀(s:Shared) (u:Value),BindsTo s fd ⟨[u],[]⟩ [("_law_script",u)])/\∀base:Heap,(K w.params).In base->base.Ns mainGlobals mg->FnOk l.prog w (K w.params) mg base CX0 18 fa fd ["_law_script"] (xp7 (K w.params))) :
  PySem.W.WalkO q loose XP YP l.row.toRowW d [] (λf vs=>PySem.call f vs):=
 L2.xv0 (n:=63) (k:=18) (x:= "_law_script") (CX:=λ_=>CX0) (sp:=λw=>xp7 (K w.params)) hn (by decide) hdf ⟨rfl,by decide,by decide,rfl⟩ hY F (λ_ _ a ns hl _ hS=>⟨a,ns,rfl,hS,hl,λ_=>rfl⟩) λ_ _ _ _ _ z=>z
end Pr
open PySem PySem.W PyProof.Rows
set_option maxRecDepth 100000 in
set_option maxHeartbeats 0 in
theorem PySem.Challenge.cw_quarterfold_k23_no_steps_no_tellings_holds : PySem.Challenge.rw_quarterfold_k23_no_steps_no_tellings.Holds := by
 w_on;o_law
 refine holds_open (q:=Hd.q0) (loose:=[]) (Xt:=Hd.X0) (XP:=XL Hd.q0 []) (YP:=Hook.says (kHook Hd.K0 Hd.as0 Hd.as_K)) (N:=Hd.N0) Hd.xI7
  (Hook.of (kHook Hd.K0 Hd.as0 Hd.as_K)) (Hook.keeps (kHook Hd.K0 Hd.as0 Hd.as_K)) (λs e=>xl_of s (XU.mp e).1) XL.keeps
  (by rfl) (by rfl) (by rfl) (λs e=>recFacts_of (XU.mp e).2)
  (by rfl) (by first|assumption|decide +kernel) (by decide +kernel) ⟨rfl,rfl,rfl,rfl,rfl,by decide +kernel⟩ ?hw ?hc
 case hw=>w_witness2
 k_fill
 refine Pr.walk (l:=PySem.Challenge.rw_quarterfold_k23_no_steps_no_tellings) rfl rfl (λw h Y=>PySem.W.kIn_of Y) ?F
 case F=>
  intro w mg fa h KX G hmg;refine' Pr.xI6 KX G hmg ?aL ?lL ?cL ?kL ?gc0 ?gc1 ?gc2 ?gc3 ?d0 ?d1 ?d2 ?d3 ?d4 ?d5 ?d6 ?d7 ?d8 ?d9 ?d10 ?d11 ?d12 ?d13 ?d14 ?d15 ?d16 ?d17 ?d18 ?d19 ?d20 ?d21 ?d22 ?d23 ?d24 ?d25 ?d26 ?d27 ?d28 ?d29 ?d30 ?d31 ?d32 ?d33 ?z0 ?z1 ?z2 ?z3 ?z4 ?z5 ?z6 ?z7 ?z8 ?z9 ?z10 ?z11 ?z12 ?z13 ?z14 ?z15 ?z16 ?z17 ?z18 ?ac0 ?cl0 ?mk0 ?kc0 ?na0_0 ?na0_1 ?md0_0 ?md0_1 ?md0_2 ?xn0 ?xn1 ?xn2 ?xn3 ?xn4 ?xn5 ?xn6 ?xn7 ?xn8 ?xc0 ?xc1 ?xk
  (case aL=>k_is);(case lL=>k_is);(case cL=>k_is);(case kL=>k_is)
  (case gc0=>k_is)
  (case gc1=>k_is)
  (case gc2=>k_is)
  (case gc3=>k_is)
  (case z0=>unfold Pr.qc8;k_is)
  (case z1=>unfold Pr.qc8;k_is)
  (case z2=>unfold Pr.qc8;k_is)
  (case z3=>unfold Pr.qc8;k_is)
  (case z4=>unfold Pr.qc8;k_is)
  (case z5=>unfold Pr.qc8;k_is)
  (case z6=>unfold Pr.qc8;k_is)
  (case z7=>unfold Pr.qc8;k_is)
  (case z8=>unfold Pr.qc8;k_is)
  (case z9=>unfold Pr.qc8;k_is)
  (case z10=>unfold Pr.qc8;k_is)
  (case z11=>unfold Pr.qc8;k_is)
  (case z12=>unfold Pr.qc8;k_is)
  (case z13=>unfold Pr.qc8;k_is)
  (case z14=>unfold Pr.qc8;k_is)
  (case z15=>unfold Pr.qc8;k_is)
  (case z16=>unfold Pr.qc8;k_is)
  (case z17=>unfold Pr.qc8;k_is)
  (case z18=>unfold Pr.qc8;k_is)
  (case ac0=>k_is)
  (case cl0=>refine' ⟨?pa,?pb,?pc,?pd⟩;(case pa=>k_is);(case pb=>k_is);(case pc=>k_is);(case pd=>k_is))
  (case mk0=>k_is);(case kc0=>k_is)
  (case na0_0=>unfold L2.NoAttr;k_is)
  (case na0_1=>unfold L2.NoAttr;k_is)
  (case md0_0=>refine' Pr.m_mk ?qa ?qi ?ql ?qc ?qk;(case qa=>k_is);(case qi=>k_is);(case ql=>k_is);(case qc=>k_is);(case qk=>k_is))
  (case md0_1=>refine' Pr.m_mk ?qa ?qi ?ql ?qc ?qk;(case qa=>k_is);(case qi=>k_is);(case ql=>k_is);(case qc=>k_is);(case qk=>k_is))
  (case md0_2=>refine' Pr.m_mk ?qa ?qi ?ql ?qc ?qk;(case qa=>k_is);(case qi=>k_is);(case ql=>k_is);(case qc=>k_is);(case qk=>k_is))
  (case xn0=>k_is)
  (case xn1=>k_is)
  (case xn2=>k_is)
  (case xn3=>k_is)
  (case xn4=>k_is)
  (case xn5=>k_is)
  (case xn6=>k_is)
  (case xn7=>k_is)
  (case xn8=>k_is)
  (case xc0=>refine' Pr.e_mk ?q1 ?q2 ?q3 ?q4 ?q5 ?q6 ?q7 ?q8;(case q1=>k_is);(case q2=>k_is);(case q3=>k_is);(case q4=>k_is);(case q5=>k_is);(case q6=>k_is);(case q7=>k_is);(case q8=>k_is))
  (case xc1=>refine' Pr.e_mk ?q1 ?q2 ?q3 ?q4 ?q5 ?q6 ?q7 ?q8;(case q1=>k_is);(case q2=>k_is);(case q3=>k_is);(case q4=>k_is);(case q5=>k_is);(case q6=>k_is);(case q7=>k_is);(case q8=>k_is))
  (case xk=>kernel_rfl)
  all_goals (refine' Pr.d_mk ?qa ?ql ?qc ?qk;(case qa=>k_is);(case ql=>k_is);(case qc=>k_is);(case qk=>k_is))
