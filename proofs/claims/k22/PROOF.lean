import PyProof.Rows.All
import Wide.All
import OpenK.AllK
import Wide.FinOn
import Lean
import PyProof.EqAt
import PyProof.EqKinds
import PyProof.TupleCall
import Open.Row
import PySem.SetOps
import PyProof.SetRoads
import PyProof.Rows.SetFrom
import PyProof.FactsAll.subtypes_4
import PyProof.WalksMore
import OpenK.KOwn
import PyProof.NeData
import PyProof.ReprRoads
import PyProof.Rows.SortRunsK
import PyProof.Rows.SortShellK
import PyProof.Rows.SortKeyStr
import PyProof.Rows.SortWalk
import PyProof.Rows.StrInSeq
import PyProof.P3Eq
import PyProof.DictKinds
import PyProof.StrOps
import PyProof.WalksEnum
import PyProof.EnumMake
import PyProof.Rows.EnumRows
import KE.KTryMore
import KE.KIntText
import KE.KDictList
import PyProof.ConsumeS
import PyProof.ListRange
import PyProof.ListMulRoad
import PyProof.CompUse
import PyProof.CompFree
import PyProof.DictUpdate
import PyProof.Rows.TupDisplay
import PyProof.DictWalks
import PyProof.TupleOfGen
import PyProof.ReprBulk
import PySem.Challenge.RW_quarterfold_k22_whole_steps_lead_to_one
set_option Elab.async false
set_option linter.all false
set_option maxRecDepth 100000
set_option maxHeartbeats 8000000
def Za:=@PySem.wpAny_bind
def Zb:=@List.getElem?_map
def Zc:=@List.getElem?_eq_getElem
def Zd:=@Nat.le_refl
def Ze:=@List.length_map
def Zf:=@PySem.Heap.get?_push_of_some
def Zg:=@PySem.wpAny_pure
def Zh:=@List.getElem?_append_left
def Zi:=@List.getElem?_append_right
def Zj:=@Option.map_eq_some_iff
def Zk:=@if_neg
def Zl:=@decide_eq_true
def Zm:=@List.mem_of_getElem?
def Zn:=@List.mem_cons_of_mem
def Zo:=@PySem.Heap.get?_push_size
def Zp:=@if_pos
def Zq:=@decide_eq_false
def Zr:=@List.length_append
def Zs:=@PySem.Heap.lt_size
def Zt:=@PyProof.Rows.wpS_bind
def Zu:=@List.mem_cons_self
def Zv:=@Option.some.inj
def Zw:=@PySem.W.mg_of
def Zx:=@List.getD_eq_getElem?_getD
def Zy:=@Bool.false_eq_true
def Zz:=@PyProof.Rows.wpS_pure
def ZA:=@Nat.ne_of_lt
def ZB:=@List.mem_cons
def ZC:=@List.map_cons
def ZD:=@Bool.false_ne_true
def ZE:=@Nat.zero_le
def ZF:=@List.size_toArray
def ZG:=@PyProof.Rows.boot_tuple
def ZH:=@List.mem_range
def ZI:=@of_decide_eq_true
def ZJ:=@List.length_cons
def ZK:=@List.mem_iff_getElem
def ZL:=@Nat.le_trans
def ZM:=@PySem.boot_len
def ZN:=@getElem?_pos
def ZO:=@Array.getElem?_eq_some_iff
def ZP:=@List.mem_filter
def ZQ:=@Array.getElem?_eq_getElem
def ZR:=@List.mem_map
def ZS:=@PyProof.Rows.KeyOrd.kle_trans
def ZT:=@Array.length_toList
def ZU:=@List.mem_append_right
def ZV:=@Nat.lt_of_lt_of_le
def ZW:=@List.map_append
def ZX:=@List.length_take
def ZY:=@PySem.wpAny_callSpecial?_slot
def ZZ:=@PyProof.Rows.KeyOrd.kle_of_klt
def Z0:=@PySem.F.plainAttrs_list
def Z1:=@PyProof.Rows.boot_isinstance
def Z2:=@PySem.PassesOwn.never
def Z3:=@Array.toList_append
def Z4:=@PySem.F.slot_list_append
def Z5:=@PySem.F.type_list_append
def Z6:=@List.mem_append
def Z7:=@PySem.wpAny_newObj_type
def Z8:=@if_false
def Z9:=@Array.getElem?_toList
def Yb:=@List.getElem?_eq_none
def Yc:=@List.getElem?_range
def Yd:=@List.foldl_cons
def Ye:=@List.append_assoc
def Yg:=@PySem.wpAny_holding
def Yh:=@PyProof.Rows.slot_tuple_getitem
def Yi:=@List.filterMap_cons
def Yj:=@List.map_congr_left
def Yk:=@Nat.not_lt_zero
def Yl:=@Nat.lt_succ_of_lt
def Ym:=@List.map_map
def Yn:=@Bool.eq_iff_iff
def Yo:=@Array.getElem?_setIfInBounds
def Yp:=@PySem.wpAny_call_entry
def Yq:=@PySem.Heap.SameBut.update
def Yr:=@List.length_filter_le
def Ys:=@PySem.wpAny_truthy_bool
def Yt:=@congrArg
def Yu:=@Bool.eq_false_iff
def Yv:=@Array.size_map
def Yw:=@PySem.W.kia_one
def Yx:=@Ne.symm
def Yy:=@Nat.lt_succ_self
def Yz:=@List.lookup_cons
def YA:=@List.take_of_length_le
def YB:=@beq_eq_false_iff_ne
def YC:=@List.getElem_of_mem
def YD:=@PyProof.Rows.F.plain_set_update_loop
def YE:=@PySem.wpAny_setState_of
def YF:=@List.take_append_drop
def YG:=@PySem.Heap.size_push
def YH:=@List.getElem?_take_of_lt
def YI:=@List.take_append_getElem
def YJ:=@List.nodup_cons
def YK:=@Nat.pow_succ
def YL:=@PyProof.Rows.KeyOrd.kle_refl
def YM:=@List.range_succ
def YN:=@PySem.F.slot_dict_keyiterator_next
def YO:=@of_decide_eq_false
def YQ:=@List.all_eq_true
def YR:=@List.getElem_mem
def YS:=@List.take_length
def YT:=@Nat.lt_irrefl
def YU:=@List.map_eq_nil_iff
def YV:=@PySem.wpAny_field
def YW:=@List.cons.injEq
def YX:=@List.pairwise_iff_getElem
def YY:=@List.length_singleton
def YZ:=@PySem.F.slot_enumerate_next
def Y0:=@PySem.wpAny_mono
def Y1:=@beq_iff_eq
def Y2:=@Nat.lt_of_le_of_lt
def Y3:=@List.filter_cons
def Y4:=@decide_eq_decide
def Y5:=@Nat.le_add_right
def Y6:=@Nat.le_of_lt
def Y7:=@PyProof.Rows.wpS_forRange
def Y8:=@forall_congr'
def Y9:=@PySem.sizeLine_eq
def Xa:=@PySem.wpAny_typeNameOfWhole_keyiter
def Xb:=@Int.toNat_natCast
def Xc:=@List.ext_getElem?
def Xd:=@Nat.le_of_lt_succ
def Xe:=@List.length_range
def Xf:=@Nat.two_pow_pos
def Xg:=@PyProof.Rows.callWith_type1
def Xh:=@PyProof.Rows.boot_list
def Xi:=@Int.ofNat.inj
def Xj:=@PySem.tupleKind_room_in1
def Xk:=@PySem.wpAny_rule
def Xl:=@List.pairwise_cons
def Xm:=@PySem.F.slot_tuple_iterator_next
def Xn:=@Array.getElem?_map
def Xo:=@PySem.Heap.get?_update_self
def Xp:=@List.cons_lt_cons_iff
def Xq:=@PySem.wpAny_passesOwn
def Xr:=@PySem.codeAny_builtin
def Xs:=@if_true
def Xu:=@Bool.not_eq_true'
def Xv:=@Array.toList_extract
def Xw:=@List.take_succ_eq_append_getElem
def Xx:=@PySem.Heap.get?_push_ne
def Xy:=@PySem.lookup_relabel_local
def Xz:=@List.nodup_append
def XA:=@PySem.Around.under_plainId
def XB:=@Option.isSome_iff_exists
def XC:=@List.any_cons
def XD:=@Nat.mul_assoc
def XE:=@Bool.not_true
def XF:=@PyProof.Rows.wpS_modify
def XG:=@PySem.wpAny_typeNameOf_keyiter
def XH:=@PySem.mem_of_lookup
def XI:=@List.reverse_append
def XJ:=@List.length_pos_iff
def XM:=@List.replicate_succ
def XN:=@decide_eq_false_iff_not
def XO:=@List.any_eq_true
def XQ:=@PySem.wpAny_pyIter_tuple
def XR:=@Int.emod_lt_of_pos
def XS:=@PySem.wpAny_setField_rec
def XT:=@List.filter_append
def XU:=@Array.getElem?_eq_none
def XV:=@List.append_nil
def XW:=@List.find?_cons
def XX:=@PySem.wpAny_ite_split
def XY:=@PySem.wpAny_attempt
def XZ:=@PyProof.Rows.boot_max
def X1:=@PySem.wpAny_pyIter_list
def X2:=@Array.toList_push
def X4:=@decide_eq_true_eq
def X5:=@List.idxOf_lt_length_of_mem
def X6:=@PySem.wpAny_dictEntries
def X7:=@Sum.inl.inj
def X8:=@List.mem_append_left
def X9:=@Array.toList_setIfInBounds
def Wa:=@Array.perm_iff_toList_perm
def Wb:=@List.pairwise_append
def Wc:=@Array.toList_reverse
def Wd:=@List.not_lt
def We:=@Nat.mul_le_mul
def Wf:=@Nat.le_of_not_lt
def Wg:=@Nat.mul_comm
def Wh:=@Nat.sub_self
def Wi:=@beq_self_eq_true
def Wj:=@PySem.Heap.size_update
def Wk:=@List.drop_eq_getElem_cons
def Wl:=@PyProof.Rows.F.entry_set_update_loop
def Wm:=@PySem.Paired.length
def Wn:=@PySem.F.args_tuple_add_2
def Wo:=@Array.size_setIfInBounds
def Wp:=@PyProof.Rows.wpS_mono
def Wq:=@PyProof.Rows.KeyOrd.klt_of_klt_of_kle
def Wr:=@PySem.AutoSeq1.wpAny_loadPart'
def Ws:=@Int.emod_nonneg
def Wt:=@Nat.le_antisymm
def Wu:=@PySem.wpAny_Call_Name_kw
def Wv:=@Nat.mod_lt
def Ww:=@PySem.Obj.data_mapFields
def Wx:=@Nat.add_sub_cancel
def Wy:=@Nat.le_succ
def Wz:=@PySem.F.entry_tuple_add
def WA:=@Nat.mul_one
def WB:=@PySem.F.args_enumerate_next_1
def WC:=@PyProof.Rows.boot_range
def WD:=@List.any_eq_false
def WE:=@Nat.le_of_eq
def WF:=@PySem.codeAny_mono
def WG:=@PySem.F.slot_tuple_add
def WH:=@PySem.wpAny_typeOf
def WI:=@Bool.and_false
def WJ:=@List.map_nil
def WK:=@Nat.div_div_eq_div_mul
def WL:=@List.reverse_perm
def WM:=@Nat.zero_add
def WN:=@PySem.F.entry_enumerate_next
def WO:=@PySem.wpAny_pyIter_enum
def WP:=@Nat.lt_trichotomy
def WQ:=@PySem.F.slot_dict_get
def WR:=@PyProof.Rows.KeyOrd.not_klt_of_kle
def WS:=@PySem.wpAny_isOneOf_keyiter
def WT:=@PyProof.Rows.boot_all
def WU:=@List.getElem?_toArray
def WV:=@List.length_drop
def WW:=@Bool.and_eq_true
def WX:=@List.eq_nil_iff_forall_not_mem
def WY:=@Int.natCast_ediv
def WZ:=@PyProof.Rows.wpS_get
def W0:=@Nat.add_mul
def W1:=@Nat.one_mul
def W2:=@List.mem_of_mem_take
def W3:=@PySem.codeAny_call_builtin
def W4:=@List.getElem?_zipIdx
def W5:=@Nat.pow_le_pow_right
def W6:=@Nat.pow_pos
def W7:=@List.eq_nil_of_length_eq_zero
def W8:=@PySem.wpAny_execs_nil
def W9:=@Option.map_some
def Va:=@List.forIn_cons
def Vb:=@and_congr_right
def Vc:=@PySem.F.slot_dict_setdefault
def Vd:=@PySem.W.plainGet_of
def Ve:=@Array.getElem?_push
def Vf:=@List.IsPrefix.trans
def Vg:=@List.getD_cons_zero
def Vh:=@List.getD_cons_succ
def Vi:=@Nat.ne_of_gt
def Vj:=@Nat.lt_trans
def Vk:=@Nat.add_zero
def Vl:=@Nat.succ_pos
def Vm:=@PyProof.Rows.boot_enumerate
def Vn:=@LawfulMonad.pure_bind
def Vo:=@List.mem_filterMap
def Vp:=@PySem.Calls.spliced_cons
def Vq:=@List.nodup_nil
def Vr:=@Array.foldl_toList
def Vs:=@List.getElem?_drop
def Vt:=@List.zip_cons_cons
def Vu:=@PySem.wpAny_setField
def Vv:=@List.prefix_append
def Vw:=@PySem.wpAny_fieldsOf
def Vx:=@List.map_inj_right
def Vy:=@and_true
def Vz:=@decide_eq_true_iff
def VA:=@Option.isSome_map
def VB:=@Nat.mul_add
def VC:=@Nat.le_succ_of_le
def VD:=@List.foldl_append
def VE:=@List.idxOf_append
def VF:=@PySem.plainId_quiet
def VG:=@Bool.and_self
def VH:=@Nat.mod_eq_of_lt
def VI:=@PyProof.Rows.wpS_lift
def VJ:=@List.not_mem_nil
def VL:=@List.mem_flatten
def VM:=@PySem.call_meetsIn
def VN:=@bind_congr
def VO:=@List.of_mem_zip
def VP:=@List.length_nil
def VQ:=@Nat.div_add_mod
def VR:=@Bool.or_eq_true
def VS:=@Bool.false_and
def VT:=@Bool.not_false
def VU:=@List.drop_drop
def VW:=@List.lt_irrefl
def VX:=@List.forIn_nil
def VY:=@List.map_id
def VZ:=@List.take_succ
def V0:=@Nat.div_one
def V1:=@or_comm
theorem gS_{α:Type}{l:List α}{i:Nat}{a:α}(h:l[i]?=some a):∃h:i<l.length,l[i]=a:=List.getElem?_eq_some_iff.mp h
namespace L2
open PySem
def qh8 (s:Stmt) (j:Nat):Stmt:=match s with
 |.ClassDef _ _ _ body _ _ _ _ _ _ _=>body.getD j (.Pass ⟨0,0,0,0⟩)
 |_=>.Pass ⟨0,0,0,0⟩
def qi7 (s:Stmt):Arguments:=match s with
 |.FunctionDef _ a _ _ _ _ _ _ _ _=>a
 |_=>{ posonlyargs:=[],args:=[],vararg:=none,kwonlyargs:=[],kw_defaults:=[],kwarg:=none,defaults:=[] }
def qh9 (s:Stmt):List Stmt:=match s with
 |.FunctionDef _ _ b _ _ _ _ _ _ _=>b
 |_=>[]
def qa4 (s:Stmt):Scope:=match s with
 |.FunctionDef _ _ _ _ _ _ sc _ _ _=>sc
 |_=>{ kind:=.function,names:=[],isGenerator:=false,isCoroutine:=false }
end L2
namespace Pr
open PySem
def top (i:Nat):Stmt:=PySem.Challenge.pw_quarterfold_k22_whole_steps_lead_to_one.main.body.getD i (.Pass ⟨0,0,0,0⟩)
end Pr
namespace Hd
open PySem PySem.W
abbrev pw:Program:=PySem.Challenge.pw_quarterfold_k22_whole_steps_lead_to_one
abbrev u0_:Value:=.str "quarterfold.rows" 239
abbrev u1_:Value:=.str "law_quarterfold_k22_whole_steps_lead_to_one" 468
abbrev u2_:Value:=.str "quarterfold.steps" 407
abbrev u3_:Value:=.str "quarterfold.tellings" 362
def kh (P:Params) (x:Str):Int:=PySem.PyData.keyHash P x
def oM (n q:Str) (st:Stmt) (m:Value) (c:Nat):Obj:=⟨.type "function",none,.func (fnOf n q (L2.qi7 st) (L2.qh9 st) (L2.qa4 st) .none .none .none m none (.ref c) .none),#[]⟩
def oF (n:Str) (st:Stmt) (m:Value) (c:Nat):Obj:=⟨.type "function",none,.func (fnOf n n (L2.qi7 st) (L2.qh9 st) (L2.qa4 st) .none .none .none m none (.ref c) .none),#[]⟩
def oT (n q:Str) (st:Stmt):Obj:=⟨.none,none,.func { fnOf n q (L2.qi7 st) (L2.qh9 st) (L2.qa4 st) .none .none .none .none none .none .none with globals:=0 },#[]⟩
def oC (n q:Str) (t1 t2 t3 l a r1 r2:Nat) (y z:Value) (r6 k t5:Nat):Obj:=⟨.type "code",none,.fields #[.str n t1,.str q t2,.str "/claim/cut.py" t3,.int l 0,.int a 0,.int 0 0,.int 0 0,.int 3 0,.ref r1,.bool true,.int 181 0,.ref r2,.none,y,z,.ref r6,.int k 0,.int l 0,.str "/claim/cut.py" t5],#[]⟩
abbrev e0_:PySem.Obj:=⟨.type "tuple",none,(.seq #[] 0),#[]⟩
abbrev e1_:PySem.Obj:=⟨.none,none,(.fields #[]),#[]⟩
abbrev e2_ (a:Array PySem.Value):PySem.Obj:=⟨.type "tuple",none,(.seq a 0),#[]⟩
abbrev e3_ (P:Params) (x:Str) (n:Tok) (v:Value):DictEntry:=⟨kh P x,.str x n,v⟩
def K0 (P:Params):Frag:=
(nat_lit 2,⟨.none,none,(.dict #[] 0),#[]⟩) ::
(nat_lit 3,⟨.type "dict",none,(.dict #[e3_ P "__name__" 165 (.str "law_quarterfold_k22_whole_steps_lead_to_one" 468),e3_ P "__doc__" 166 .none,e3_ P "__package__" 167 .none,e3_ P "__loader__" 168 (.builtin "__main__.__loader__#opaque"),e3_ P "__spec__" 169 .none,e3_ P "__annotations__" 170 (.ref 6),e3_ P "__builtins__" 171 (.ref 4),e3_ P "__file__" 173 (.str "/claim/cut.py" 172),e3_ P "__cached__" 174 .none,e3_ P "FloorError" 206 (.ref 24),e3_ P "NoTelling" 222 (.ref 37),e3_ P "NoStep" 238 (.ref 49),e3_ P "EMPTY" 242 (.int 0 241),e3_ P "FULL" 244 (.int 1 243),e3_ P "FIRST" 246 (.int 2 245),e3_ P "is_whole" 253 (.ref 58),e3_ P "is_plain" 260 (.ref 65),e3_ P "depths_of" 266 (.ref 70),e3_ P "end_rows" 276 (.ref 77),e3_ P "places_as_ended" 285 (.ref 84),e3_ P "renumbered" 291 (.ref 89),e3_ P "shape_of" 303 (.ref 96),e3_ P "Book" 350 (.ref 127),e3_ P "GREATEST_SIZE" 354 (.int 12 353),e3_ P "is_size" 361 (.ref 138),e3_ P "is_number" 371 (.ref 145),e3_ P "is_row" 377 (.ref 150),e3_ P "are_rows" 383 (.ref 155),e3_ P "is_telling" 393 (.ref 162),e3_ P "is_shape" 399 (.ref 167),e3_ P "want_telling" 406 (.ref 174),e3_ P "same_steps" 414 (.ref 179),e3_ P "plain_steps" 420 (.ref 184),e3_ P "gone_steps" 426 (.ref 189),e3_ P "steps_of" 435 (.ref 196),e3_ P "is_step" 441 (.ref 201),e3_ P "number_behind" 449 (.ref 208),e3_ P "stepped" 455 (.ref 213),e3_ P "one_telling" 467 (.ref 220),e3_ P "_law_pot" 478 (.ref 227),e3_ P "_law_digit" 487 (.ref 234),e3_ P "_law_row" 493 (.ref 239),e3_ P "_law_depths" 499 (.ref 244),e3_ P "_law_telling" 505 (.ref 249),e3_ P "_law_is_full" 519 (.ref 256),e3_ P "_law_full_cells" 525 (.ref 261),e3_ P "_law_meets" 535 (.ref 268),e3_ P "_law_has" 545 (.ref 275),e3_ P "_law_number" 551 (.ref 280),e3_ P "_law_shape" 561 (.ref 287),e3_ P "_law_ends" 571 (.ref 294),e3_ P "_law_in_order" 577 (.ref 299),e3_ P "_law_walked" 589 (.ref 306),e3_ P "_law_cells_stay" 598 (.ref 313),e3_ P "_law_right" 608 (.ref 320),e3_ P "law" 619 (.ref 327)] 56),#[]⟩) ::
(nat_lit 15,(e2_ #[.type "ValueError"])) ::
(nat_lit 22,e0_) ::
(nat_lit 23,⟨.type "dict",none,(.dict #[e3_ P "__module__" 196 (.str "quarterfold.errors" 187),e3_ P "__firstlineno__" 200 (.int 2 199),e3_ P "__static_attributes__" 201 (.ref 22),e3_ P "__weakref__" 203 (.ref 25),e3_ P "__doc__" 204 .none] 3),#[]⟩) ::
(nat_lit 24,⟨.type "type",none,(.cls ⟨"FloorError",[.type "ValueError"],[.ref 24,.type "ValueError",.type "Exception",.type "BaseException",.type "object"],23, "FloorError",true,[],[.ref 37,.ref 49],false,none,false⟩),#[some (.ref 15),none,some (.str "FloorError" 189),some (.str "FloorError" 197),some (.builtin "ValueError.__new__"),some (.bool true)]⟩) ::
(nat_lit 25,⟨.type "getset_descriptor",none,(.fields #[.str "__weakref__" 202,.ref 24,.builtin "ExceptionGroup.__weakref__",.none]),#[]⟩) ::
(nat_lit 28,(e2_ #[.ref 24])) ::
(nat_lit 35,e0_) ::
(nat_lit 36,⟨.type "dict",none,(.dict #[e3_ P "__module__" 214 (.str "quarterfold.errors" 187),e3_ P "__firstlineno__" 218 (.int 4 217),e3_ P "__static_attributes__" 219 (.ref 35),e3_ P "__doc__" 220 .none] 2),#[]⟩) ::
(nat_lit 37,⟨.type "type",none,(.cls ⟨"NoTelling",[.ref 24],[.ref 37,.ref 24,.type "ValueError",.type "Exception",.type "BaseException",.type "object"],36, "NoTelling",true,[],[],false,none,false⟩),#[some (.ref 28),none,some (.str "NoTelling" 207),some (.str "NoTelling" 215),some (.builtin "ValueError.__new__"),some (.bool true)]⟩) ::
(nat_lit 40,(e2_ #[.ref 24])) ::
(nat_lit 47,e0_) ::
(nat_lit 48,⟨.type "dict",none,(.dict #[e3_ P "__module__" 230 (.str "quarterfold.errors" 187),e3_ P "__firstlineno__" 234 (.int 6 233),e3_ P "__static_attributes__" 235 (.ref 47),e3_ P "__doc__" 236 .none] 2),#[]⟩) ::
(nat_lit 49,⟨.type "type",none,(.cls ⟨"NoStep",[.ref 24],[.ref 49,.ref 24,.type "ValueError",.type "Exception",.type "BaseException",.type "object"],48, "NoStep",true,[],[],false,none,false⟩),#[some (.ref 40),none,some (.str "NoStep" 223),some (.str "NoStep" 231),some (.builtin "ValueError.__new__"),some (.bool true)]⟩) ::
(nat_lit 52,e0_) ::
(nat_lit 54,(e2_ #[.str "thing" 250])) ::
(nat_lit 55,e0_) ::
(nat_lit 57,oC "is_whole" "is_whole" 247 248 249 12 1 52 53 (.ref 54) (.ref 55) 56 251 252) ::
(nat_lit 58,oF "is_whole" (Pr.top 8) u0_ 57) ::
(nat_lit 59,e0_) ::
(nat_lit 61,(e2_ #[.str "row" 257])) ::
(nat_lit 62,e0_) ::
(nat_lit 64,oC "is_plain" "is_plain" 254 255 256 14 1 59 60 (.ref 61) (.ref 62) 63 258 259) ::
(nat_lit 65,oF "is_plain" (Pr.top 9) u0_ 64) ::
(nat_lit 66,e0_) ::
(nat_lit 69,oC "depths_of" "depths_of" 261 262 263 16 1 66 67 .none .none 68 264 265) ::
(nat_lit 70,oF "depths_of" (Pr.top 10) u0_ 69) ::
(nat_lit 71,e0_) ::
(nat_lit 73,(e2_ #[.str "rows" 270,.str "number" 271,.str "ended" 272,.str "quarter" 273])) ::
(nat_lit 74,e0_) ::
(nat_lit 76,oC "end_rows" "end_rows" 267 268 269 21 3 71 72 (.ref 73) (.ref 74) 75 274 275) ::
(nat_lit 77,oF "end_rows" (Pr.top 11) u0_ 76) ::
(nat_lit 78,e0_) ::
(nat_lit 80,(e2_ #[.str "rows" 280,.str "top" 281,.str "ended" 282])) ::
(nat_lit 81,e0_) ::
(nat_lit 83,oC "places_as_ended" "places_as_ended" 277 278 279 27 2 78 79 (.ref 80) (.ref 81) 82 283 284) ::
(nat_lit 84,oF "places_as_ended" (Pr.top 12) u0_ 83) ::
(nat_lit 85,e0_) ::
(nat_lit 88,oC "renumbered" "renumbered" 286 287 288 31 2 85 86 .none .none 87 289 290) ::
(nat_lit 89,oF "renumbered" (Pr.top 13) u0_ 88) ::
(nat_lit 90,e0_) ::
(nat_lit 92,(e2_ #[.str "n" 295,.str "top" 296,.str "rows" 297,.str "numbers" 298,.str "told" 299,.str "place" 300])) ::
(nat_lit 93,e0_) ::
(nat_lit 95,oC "shape_of" "shape_of" 292 293 294 33 3 90 91 (.ref 92) (.ref 93) 94 301 302) ::
(nat_lit 96,oF "shape_of" (Pr.top 14) u0_ 95) ::
(nat_lit 104,e0_) ::
(nat_lit 106,(e2_ #[.str "self" 319])) ::
(nat_lit 107,e0_) ::
(nat_lit 109,oC "__init__" "Book.__init__" 316 317 318 42 1 104 105 (.ref 106) (.ref 107) 108 320 321) ::
(nat_lit 110,oM "__init__" "Book.__init__" (L2.qh8 (Pr.top 15) 0) u0_ 109) ::
(nat_lit 111,e0_) ::
(nat_lit 113,(e2_ #[.str "self" 326,.str "row" 327])) ::
(nat_lit 114,e0_) ::
(nat_lit 116,oC "number_for" "Book.number_for" 323 324 325 46 2 111 112 (.ref 113) (.ref 114) 115 328 329) ::
(nat_lit 117,oM "number_for" "Book.number_for" (L2.qh8 (Pr.top 15) 1) u0_ 116) ::
(nat_lit 118,e0_) ::
(nat_lit 120,(e2_ #[.str "self" 334,.str "rows" 335,.str "numbers" 336,.str "row" 337])) ::
(nat_lit 121,e0_) ::
(nat_lit 123,oC "numbers_for" "Book.numbers_for" 331 332 333 54 2 118 119 (.ref 120) (.ref 121) 122 338 339) ::
(nat_lit 124,oM "numbers_for" "Book.numbers_for" (L2.qh8 (Pr.top 15) 2) u0_ 123) ::
(nat_lit 125,(e2_ #[.str "kept" 341,.str "numbers" 342])) ::
(nat_lit 126,⟨.type "dict",none,(.dict #[e3_ P "__module__" 311 (.str "quarterfold.rows" 239),e3_ P "__firstlineno__" 315 (.int 40 314),e3_ P "__init__" 322 (.ref 110),e3_ P "number_for" 330 (.ref 117),e3_ P "numbers_for" 340 (.ref 124),e3_ P "__static_attributes__" 343 (.ref 125),e3_ P "__dict__" 345 (.ref 128),e3_ P "__weakref__" 347 (.ref 129),e3_ P "__doc__" 348 .none] 4),#[]⟩) ::
(nat_lit 127,⟨.type "type",none,(.cls ⟨"Book",[.type "object"],[.ref 127,.type "object"],126, "Book",true,[],[],false,none,false⟩),#[none,none,some (.str "Book" 304),some (.str "Book" 312),some (.builtin "object.__new__"),some (.bool true)]⟩) ::
(nat_lit 128,⟨.type "getset_descriptor",none,(.fields #[.str "__dict__" 344,.ref 127,.builtin "function.__dict__",.builtin "function.__dict__#set"]),#[]⟩) ::
(nat_lit 129,⟨.type "getset_descriptor",none,(.fields #[.str "__weakref__" 346,.ref 127,.builtin "ExceptionGroup.__weakref__",.none]),#[]⟩) ::
(nat_lit 132,e0_) ::
(nat_lit 134,(e2_ #[.str "thing" 358])) ::
(nat_lit 135,e0_) ::
(nat_lit 137,oC "is_size" "is_size" 355 356 357 61 1 132 133 (.ref 134) (.ref 135) 136 359 360) ::
(nat_lit 138,oF "is_size" (Pr.top 18) (.str "quarterfold.floors" 351) 137) ::
(nat_lit 139,e0_) ::
(nat_lit 141,(e2_ #[.str "thing" 367,.str "many" 368])) ::
(nat_lit 142,e0_) ::
(nat_lit 144,oC "is_number" "is_number" 364 365 366 64 2 139 140 (.ref 141) (.ref 142) 143 369 370) ::
(nat_lit 145,oF "is_number" (Pr.top 20) u3_ 144) ::
(nat_lit 146,e0_) ::
(nat_lit 149,oC "is_row" "is_row" 372 373 374 66 2 146 147 .none .none 148 375 376) ::
(nat_lit 150,oF "is_row" (Pr.top 21) u3_ 149) ::
(nat_lit 151,e0_) ::
(nat_lit 154,oC "are_rows" "are_rows" 378 379 380 70 1 151 152 .none .none 153 381 382) ::
(nat_lit 155,oF "are_rows" (Pr.top 22) u3_ 154) ::
(nat_lit 156,e0_) ::
(nat_lit 158,(e2_ #[.str "thing" 387,.str "n" 388,.str "top" 389,.str "rows" 390])) ::
(nat_lit 159,e0_) ::
(nat_lit 161,oC "is_telling" "is_telling" 384 385 386 72 1 156 157 (.ref 158) (.ref 159) 160 391 392) ::
(nat_lit 162,oF "is_telling" (Pr.top 23) u3_ 161) ::
(nat_lit 163,e0_) ::
(nat_lit 166,oC "is_shape" "is_shape" 394 395 396 79 1 163 164 .none .none 165 397 398) ::
(nat_lit 167,oF "is_shape" (Pr.top 24) u3_ 166) ::
(nat_lit 168,e0_) ::
(nat_lit 170,(e2_ #[.str "telling" 403])) ::
(nat_lit 171,e0_) ::
(nat_lit 173,oC "want_telling" "want_telling" 400 401 402 86 1 168 169 (.ref 170) (.ref 171) 172 404 405) ::
(nat_lit 174,oF "want_telling" (Pr.top 25) u3_ 173) ::
(nat_lit 175,e0_) ::
(nat_lit 178,oC "same_steps" "same_steps" 409 410 411 90 1 175 176 .none .none 177 412 413) ::
(nat_lit 179,oF "same_steps" (Pr.top 27) u2_ 178) ::
(nat_lit 180,e0_) ::
(nat_lit 183,oC "plain_steps" "plain_steps" 415 416 417 98 1 180 181 .none .none 182 418 419) ::
(nat_lit 184,oF "plain_steps" (Pr.top 28) u2_ 183) ::
(nat_lit 185,e0_) ::
(nat_lit 188,oC "gone_steps" "gone_steps" 421 422 423 100 2 185 186 .none .none 187 424 425) ::
(nat_lit 189,oF "gone_steps" (Pr.top 29) u2_ 188) ::
(nat_lit 190,e0_) ::
(nat_lit 192,(e2_ #[.str "telling" 430,.str "top" 431,.str "rows" 432])) ::
(nat_lit 193,e0_) ::
(nat_lit 195,oC "steps_of" "steps_of" 427 428 429 106 1 190 191 (.ref 192) (.ref 193) 194 433 434) ::
(nat_lit 196,oF "steps_of" (Pr.top 30) u2_ 195) ::
(nat_lit 197,e0_) ::
(nat_lit 200,oC "is_step" "is_step" 436 437 438 110 2 197 198 .none .none 199 439 440) ::
(nat_lit 201,oF "is_step" (Pr.top 31) u2_ 200) ::
(nat_lit 202,e0_) ::
(nat_lit 204,(e2_ #[.str "rows" 445,.str "step" 446])) ::
(nat_lit 205,e0_) ::
(nat_lit 207,oC "number_behind" "number_behind" 442 443 444 116 2 202 203 (.ref 204) (.ref 205) 206 447 448) ::
(nat_lit 208,oF "number_behind" (Pr.top 32) u2_ 207) ::
(nat_lit 209,e0_) ::
(nat_lit 212,oC "stepped" "stepped" 450 451 452 120 2 209 210 .none .none 211 453 454) ::
(nat_lit 213,oF "stepped" (Pr.top 33) u2_ 212) ::
(nat_lit 214,e0_) ::
(nat_lit 216,(e2_ #[.str "telling" 459,.str "n" 460,.str "top" 461,.str "rows" 462,.str "book" 463,.str "numbers" 464])) ::
(nat_lit 217,e0_) ::
(nat_lit 219,oC "one_telling" "one_telling" 456 457 458 129 1 214 215 (.ref 216) (.ref 217) 218 465 466) ::
(nat_lit 220,oF "one_telling" (Pr.top 34) u2_ 219) ::
(nat_lit 221,e0_) ::
(nat_lit 223,(e2_ #[.str "_law_script" 473,.str "_law_k" 474,.str "_law_cell" 475])) ::
(nat_lit 224,e0_) ::
(nat_lit 226,oC "_law_pot" "_law_pot" 470 471 472 136 2 221 222 (.ref 223) (.ref 224) 225 476 477) ::
(nat_lit 227,oF "_law_pot" (Pr.top 36) u1_ 226) ::
(nat_lit 228,e0_) ::
(nat_lit 230,(e2_ #[.str "_law_pot_here" 482,.str "_law_many" 483,.str "_law_digit_here" 484])) ::
(nat_lit 231,e0_) ::
(nat_lit 233,oC "_law_digit" "_law_digit" 479 480 481 141 2 228 229 (.ref 230) (.ref 231) 232 485 486) ::
(nat_lit 234,oF "_law_digit" (Pr.top 37) u1_ 233) ::
(nat_lit 235,e0_) ::
(nat_lit 238,oC "_law_row" "_law_row" 488 489 490 148 2 235 236 .none .none 237 491 492) ::
(nat_lit 239,oF "_law_row" (Pr.top 38) u1_ 238) ::
(nat_lit 240,e0_) ::
(nat_lit 243,oC "_law_depths" "_law_depths" 494 495 496 157 1 240 241 .none .none 242 497 498) ::
(nat_lit 244,oF "_law_depths" (Pr.top 39) u1_ 243) ::
(nat_lit 245,e0_) ::
(nat_lit 248,oC "_law_telling" "_law_telling" 500 501 502 162 3 245 246 .none .none 247 503 504) ::
(nat_lit 249,oF "_law_telling" (Pr.top 40) u1_ 248) ::
(nat_lit 250,e0_) ::
(nat_lit 252,(e2_ #[.str "_law_telling_here" 509,.str "_law_row_here" 510,.str "_law_column" 511,.str "_law_n" 512,.str "_law_number_here" 513,.str "_law_rows" 514,.str "_law_half" 515,.str "_law_place" 516])) ::
(nat_lit 253,e0_) ::
(nat_lit 255,oC "_law_is_full" "_law_is_full" 506 507 508 169 3 250 251 (.ref 252) (.ref 253) 254 517 518) ::
(nat_lit 256,oF "_law_is_full" (Pr.top 41) u1_ 255) ::
(nat_lit 257,e0_) ::
(nat_lit 260,oC "_law_full_cells" "_law_full_cells" 520 521 522 177 1 257 258 .none .none 259 523 524) ::
(nat_lit 261,oF "_law_full_cells" (Pr.top 42) u1_ 260) ::
(nat_lit 262,e0_) ::
(nat_lit 264,(e2_ #[.str "_law_box" 529,.str "_law_row_here" 530,.str "_law_column" 531,.str "_law_side" 532])) ::
(nat_lit 265,e0_) ::
(nat_lit 267,oC "_law_meets" "_law_meets" 526 527 528 180 4 262 263 (.ref 264) (.ref 265) 266 533 534) ::
(nat_lit 268,oF "_law_meets" (Pr.top 43) u1_ 267) ::
(nat_lit 269,e0_) ::
(nat_lit 271,(e2_ #[.str "_law_box" 539,.str "_law_row_here" 540,.str "_law_column" 541,.str "_law_side" 542])) ::
(nat_lit 272,e0_) ::
(nat_lit 274,oC "_law_has" "_law_has" 536 537 538 184 4 269 270 (.ref 271) (.ref 272) 273 543 544) ::
(nat_lit 275,oF "_law_has" (Pr.top 44) u1_ 274) ::
(nat_lit 276,e0_) ::
(nat_lit 279,oC "_law_number" "_law_number" 546 547 548 188 5 276 277 .none .none 278 549 550) ::
(nat_lit 280,oF "_law_number" (Pr.top 45) u1_ 279) ::
(nat_lit 281,e0_) ::
(nat_lit 283,(e2_ #[.str "_law_n" 555,.str "_law_boxes" 556,.str "_law_rows" 557,.str "_law_top" 558])) ::
(nat_lit 284,e0_) ::
(nat_lit 286,oC "_law_shape" "_law_shape" 552 553 554 199 2 281 282 (.ref 283) (.ref 284) 285 559 560) ::
(nat_lit 287,oF "_law_shape" (Pr.top 46) u1_ 286) ::
(nat_lit 288,e0_) ::
(nat_lit 290,(e2_ #[.str "_law_rows" 565,.str "_law_number_here" 566,.str "_law_found" 567,.str "_law_quarter" 568])) ::
(nat_lit 291,e0_) ::
(nat_lit 293,oC "_law_ends" "_law_ends" 562 563 564 203 3 288 289 (.ref 290) (.ref 291) 292 569 570) ::
(nat_lit 294,oF "_law_ends" (Pr.top 47) u1_ 293) ::
(nat_lit 295,e0_) ::
(nat_lit 298,oC "_law_in_order" "_law_in_order" 572 573 574 208 1 295 296 .none .none 297 575 576) ::
(nat_lit 299,oF "_law_in_order" (Pr.top 48) u1_ 298) ::
(nat_lit 300,e0_) ::
(nat_lit 302,(e2_ #[.str "_law_pot_here" 581,.str "_law_telling_here" 582,.str "_law_here" 583,.str "_law_found" 584,.str "_law_turn" 585,.str "_law_some" 586])) ::
(nat_lit 303,e0_) ::
(nat_lit 305,oC "_law_walked" "_law_walked" 578 579 580 216 2 300 301 (.ref 302) (.ref 303) 304 587 588) ::
(nat_lit 306,oF "_law_walked" (Pr.top 49) u1_ 305) ::
(nat_lit 307,e0_) ::
(nat_lit 309,(e2_ #[.str "_law_walked_here" 593,.str "_law_cells" 594,.str "_law_here" 595])) ::
(nat_lit 310,e0_) ::
(nat_lit 312,oC "_law_cells_stay" "_law_cells_stay" 590 591 592 225 1 307 308 (.ref 309) (.ref 310) 311 596 597) ::
(nat_lit 313,oF "_law_cells_stay" (Pr.top 50) u1_ 312) ::
(nat_lit 314,e0_) ::
(nat_lit 316,(e2_ #[.str "_law_walked_here" 602,.str "_law_due" 603,.str "_law_last" 604,.str "_law_here" 605])) ::
(nat_lit 317,e0_) ::
(nat_lit 319,oC "_law_right" "_law_right" 599 600 601 231 1 314 315 (.ref 316) (.ref 317) 318 606 607) ::
(nat_lit 320,oF "_law_right" (Pr.top 51) u1_ 319) ::
(nat_lit 321,e0_) ::
(nat_lit 323,(e2_ #[.str "_law_script" 612,.str "_law_k" 613,.str "_law_pot_here" 614,.str "_law_n" 615,.str "_law_walked_here" 616])) ::
(nat_lit 324,e0_) ::
(nat_lit 326,oC "law" "law" 609 610 611 242 1 321 322 (.ref 323) (.ref 324) 325 617 618) ::
(nat_lit 327,oF "law" (Pr.top 52) u1_ 326)::[]
def as0:List Addr:=[2,3,15,22,23,24,25,28,35,36,37,40,47,48,49,52,54,55,57,58,59,61,62,64,65,66,69,70,71,73,74,76,77,78,80,81,83,84,85,88,89,90,92,93,95,96,104,106,107,109,110,111,113,114,116,117,118,120,121,123,124,125,126,127,128,129,132,134,135,137,138,139,141,142,144,145,146,149,150,151,154,155,156,158,159,161,162,163,166,167,168,170,171,173,174,175,178,179,180,183,184,185,188,189,190,192,193,195,196,197,200,201,202,204,205,207,208,209,212,213,214,216,217,219,220,221,223,224,226,227,228,230,231,233,234,235,238,239,240,243,244,245,248,249,250,252,253,255,256,257,260,261,262,264,265,267,268,269,271,272,274,275,276,279,280,281,283,284,286,287,288,290,291,293,294,295,298,299,300,302,303,305,306,307,309,310,312,313,314,316,317,319,320,321,323,324,326,327]
def keep0:List Nat:=[1,2,3,5,6,7,8,9,10,11,12,13,14,15,17,18,20,21,22,23,24,25,27,28,29,30,31,32,33,34,36,37,38,39,40,41,42,43,44,45,46,47,48,49,50,51,52]
def N0:Nat:=4390
noncomputable def bx (P:Params) (a t l:Nat) (x:Str):List Obj:=[(e2_ #[.ref 24]),
⟨.type "builtin_function_or_method",none,(.fields #[.builtin "type.__prepare__",.type "type"]),#[]⟩,
⟨.type "dict",none,(.dict #[⟨kh P "__module__",.str "__module__" (t+7),.str "quarterfold.errors" 187⟩,⟨kh P "__qualname__",.str "__qualname__" (t+9),.str x (t+8)⟩,⟨kh P "__firstlineno__",.str "__firstlineno__" (t+11),.int l (t+10)⟩,⟨kh P "__static_attributes__",.str "__static_attributes__" (t+12),.ref (a+7)⟩] 4),#[]⟩,
e0_,
e1_,
⟨.type "code",none,(.fields #[.str x (t+2),.str x (t+3),.str "/claim/cut.py" (t+4),.int l 0,.int 0 0,.int 0 0,.int 0 0,.int 0 0,.ref (a+3),.bool false,.int 181 0,.ref (a+4),.none,.none,.none,.none,.int (t+5) 0,.int l 0,.str "/claim/cut.py" (t+6)]),#[]⟩,
⟨.type "frame",none,.plain,#[some (.ref (a+5)),some (.ref 3),some (.ref (a+2)),none,some (.str "quarterfold.errors" 187),none,some (.ref 0)]⟩,
e0_,
⟨.type "dict",none,(.dict #[⟨kh P "__module__",.str "__module__" (t+7),.str "quarterfold.errors" 187⟩,⟨kh P "__firstlineno__",.str "__firstlineno__" (t+11),.int l (t+10)⟩,⟨kh P "__static_attributes__",.str "__static_attributes__" (t+12),.ref (a+7)⟩,⟨kh P "__doc__",.str "__doc__" (t+13),.none⟩] 2),#[]⟩,
⟨.type "type",none,(.cls ⟨x,[.ref 24],[.ref (a+9),.ref 24,.type "ValueError",.type "Exception",.type "BaseException",.type "object"],(a+8),x,true,[],[],false,none,false⟩),#[some (.ref a),none,some (.str x t),some (.str x (t+8)),some (.builtin "ValueError.__new__"),some (.bool true)]⟩,
⟨.type "super",none,(.fields #[.ref (a+9),.ref (a+9),.ref (a+9)]),#[]⟩,
⟨.type "builtin_function_or_method",none,(.fields #[.builtin "object.__init_subclass__",.ref (a+9)]),#[]⟩]
noncomputable def ob (P:Params):List Obj:=[boot_o_0 P,boot_o_1 P,boot_o_2 P,⟨.type "dict",none,(.dict #[e3_ P "__name__" 165 (.str "quarterfold.steps" 407),e3_ P "__doc__" 166 .none,e3_ P "__package__" 167 .none,e3_ P "__loader__" 168 (.builtin "__main__.__loader__#opaque"),e3_ P "__spec__" 169 .none,e3_ P "__annotations__" 170 (.ref 6),e3_ P "__builtins__" 171 (.ref 4),e3_ P "__file__" 173 (.str "/claim/cut.py" 172),e3_ P "__cached__" 174 .none,e3_ P "FloorError" 206 (.ref 24),e3_ P "NoTelling" 222 (.ref 37),e3_ P "NoStep" 238 (.ref 49),e3_ P "EMPTY" 242 (.int 0 241),e3_ P "FULL" 244 (.int 1 243),e3_ P "FIRST" 246 (.int 2 245),e3_ P "is_whole" 253 (.ref 58),e3_ P "is_plain" 260 (.ref 65),e3_ P "depths_of" 266 (.ref 70),e3_ P "end_rows" 276 (.ref 77),e3_ P "places_as_ended" 285 (.ref 84),e3_ P "renumbered" 291 (.ref 89),e3_ P "shape_of" 303 (.ref 96),e3_ P "Book" 350 (.ref 127),e3_ P "GREATEST_SIZE" 354 (.int 12 353),e3_ P "is_size" 361 (.ref 138),e3_ P "is_number" 371 (.ref 145),e3_ P "is_row" 377 (.ref 150),e3_ P "are_rows" 383 (.ref 155),e3_ P "is_telling" 393 (.ref 162),e3_ P "is_shape" 399 (.ref 167),e3_ P "want_telling" 406 (.ref 174),e3_ P "same_steps" 414 (.ref 179),e3_ P "plain_steps" 420 (.ref 184),e3_ P "gone_steps" 426 (.ref 189),e3_ P "steps_of" 435 (.ref 196),e3_ P "is_step" 441 (.ref 201),e3_ P "number_behind" 449 (.ref 208),e3_ P "stepped" 455 (.ref 213),e3_ P "one_telling" 467 (.ref 220)] 39),#[]⟩,boot_o_4 P,boot_o_5 P,boot_o_6 P,boot_o_7 P,boot_o_8 P,boot_o_9 P,boot_o_10 P,e0_,⟨.none,none,(.fields #[.int 2 0,.int 0 0,.ref 20,.int 4 0,.int 0 0,.ref 33,.int 6 0,.int 0 0,.ref 45,.int 12 0,.int 0 0,.ref 57,.int 14 0,.int 0 0,.ref 64,.int 16 0,.int 0 0,.ref 69,.int 21 0,.int 0 0,.ref 76,.int 27 0,.int 0 0,.ref 83,.int 31 0,.int 0 0,.ref 88,.int 33 0,.int 0 0,.ref 95,.int 40 0,.int 0 0,.ref 102,.int 61 0,.int 0 0,.ref 137,.int 64 0,.int 0 0,.ref 144,.int 66 0,.int 0 0,.ref 149,.int 70 0,.int 0 0,.ref 154,.int 72 0,.int 0 0,.ref 161,.int 79 0,.int 0 0,.ref 166,.int 86 0,.int 0 0,.ref 173,.int 90 0,.int 0 0,.ref 178,.int 98 0,.int 0 0,.ref 183,.int 100 0,.int 0 0,.ref 188,.int 106 0,.int 0 0,.ref 195,.int 110 0,.int 0 0,.ref 200,.int 116 0,.int 0 0,.ref 207,.int 120 0,.int 0 0,.ref 212,.int 129 0,.int 0 0,.ref 219]),#[]⟩,⟨.type "code",none,(.fields #[.str "<module>" 182,.str "<module>" 183,.str "/claim/cut.py" 184,.int 1 0,.int 0 0,.int 0 0,.int 0 0,.int 0 0,.ref 11,.bool false,.int 181 0,.ref 12,.none,.none,.none,.none,.int 185 0,.int 1 0,.str "/claim/cut.py" 186]),#[]⟩,⟨.type "frame",none,.plain,#[some (.ref 13),some (.ref 3),some (.ref 3),none,some (.str "__main__" 164),none,some (.ref 0)]⟩,(e2_ #[.type "ValueError"]),⟨.type "builtin_function_or_method",none,(.fields #[.builtin "type.__prepare__",.type "type"]),#[]⟩,⟨.type "dict",none,(.dict #[e3_ P "__module__" 196 (.str "quarterfold.errors" 187),e3_ P "__qualname__" 198 (.str "FloorError" 197),e3_ P "__firstlineno__" 200 (.int 2 199),e3_ P "__static_attributes__" 201 (.ref 22)] 4),#[]⟩,e0_,e1_,⟨.type "code",none,(.fields #[.str "FloorError" 191,.str "FloorError" 192,.str "/claim/cut.py" 193,.int 2 0,.int 0 0,.int 0 0,.int 0 0,.int 0 0,.ref 18,.bool false,.int 181 0,.ref 19,.none,.none,.none,.none,.int 194 0,.int 2 0,.str "/claim/cut.py" 195]),#[]⟩,⟨.type "frame",none,.plain,#[some (.ref 20),some (.ref 3),some (.ref 17),none,some (.str "quarterfold.errors" 187),none,some (.ref 0)]⟩,e0_,⟨.type "dict",none,(.dict #[e3_ P "__module__" 196 (.str "quarterfold.errors" 187),e3_ P "__firstlineno__" 200 (.int 2 199),e3_ P "__static_attributes__" 201 (.ref 22),e3_ P "__weakref__" 203 (.ref 25),e3_ P "__doc__" 204 .none] 3),#[]⟩,⟨.type "type",none,(.cls ⟨"FloorError",[.type "ValueError"],[.ref 24,.type "ValueError",.type "Exception",.type "BaseException",.type "object"],23, "FloorError",true,[],[.ref 37,.ref 49],false,none,false⟩),#[some (.ref 15),none,some (.str "FloorError" 189),some (.str "FloorError" 197),some (.builtin "ValueError.__new__"),some (.bool true)]⟩,⟨.type "getset_descriptor",none,(.fields #[.str "__weakref__" 202,.ref 24,.builtin "ExceptionGroup.__weakref__",.none]),#[]⟩,⟨.type "super",none,(.fields #[.ref 24,.ref 24,.ref 24]),#[]⟩,⟨.type "builtin_function_or_method",none,(.fields #[.builtin "object.__init_subclass__",.ref 24]),#[]⟩]++(bx P 28 207 4 "NoTelling" ++ (bx P 40 223 6 "NoStep" ++ ([e0_,e1_,(e2_ #[.str "thing" 250]),e0_,oT "is_whole" "is_whole" (Pr.top 8),oC "is_whole" "is_whole" 247 248 249 12 1 52 53 (.ref 54) (.ref 55) 56 251 252,oF "is_whole" (Pr.top 8) u0_ 57,e0_,e1_,(e2_ #[.str "row" 257]),e0_,oT "is_plain" "is_plain" (Pr.top 9),oC "is_plain" "is_plain" 254 255 256 14 1 59 60 (.ref 61) (.ref 62) 63 258 259,oF "is_plain" (Pr.top 9) u0_ 64,e0_,e1_,oT "depths_of" "depths_of" (Pr.top 10),oC "depths_of" "depths_of" 261 262 263 16 1 66 67 .none .none 68 264 265,oF "depths_of" (Pr.top 10) u0_ 69,e0_,e1_,(e2_ #[.str "rows" 270,.str "number" 271,.str "ended" 272,.str "quarter" 273]),e0_,oT "end_rows" "end_rows" (Pr.top 11),oC "end_rows" "end_rows" 267 268 269 21 3 71 72 (.ref 73) (.ref 74) 75 274 275,oF "end_rows" (Pr.top 11) u0_ 76,e0_,e1_,(e2_ #[.str "rows" 280,.str "top" 281,.str "ended" 282]),e0_,oT "places_as_ended" "places_as_ended" (Pr.top 12),oC "places_as_ended" "places_as_ended" 277 278 279 27 2 78 79 (.ref 80) (.ref 81) 82 283 284,oF "places_as_ended" (Pr.top 12) u0_ 83,e0_,e1_,oT "renumbered" "renumbered" (Pr.top 13),oC "renumbered" "renumbered" 286 287 288 31 2 85 86 .none .none 87 289 290,oF "renumbered" (Pr.top 13) u0_ 88,e0_,e1_,(e2_ #[.str "n" 295,.str "top" 296,.str "rows" 297,.str "numbers" 298,.str "told" 299,.str "place" 300]),e0_,oT "shape_of" "shape_of" (Pr.top 14),oC "shape_of" "shape_of" 292 293 294 33 3 90 91 (.ref 92) (.ref 93) 94 301 302,oF "shape_of" (Pr.top 14) u0_ 95,e0_,⟨.type "builtin_function_or_method",none,(.fields #[.builtin "type.__prepare__",.type "type"]),#[]⟩,⟨.type "dict",none,(.dict #[e3_ P "__module__" 311 (.str "quarterfold.rows" 239),e3_ P "__qualname__" 313 (.str "Book" 312),e3_ P "__firstlineno__" 315 (.int 40 314),e3_ P "__init__" 322 (.ref 110),e3_ P "number_for" 330 (.ref 117),e3_ P "numbers_for" 340 (.ref 124),e3_ P "__static_attributes__" 343 (.ref 125)] 7),#[]⟩,e0_,⟨.none,none,(.fields #[.int 42 0,.int 4 0,.ref 109,.int 46 0,.int 4 0,.ref 116,.int 54 0,.int 4 0,.ref 123]),#[]⟩,⟨.type "code",none,(.fields #[.str "Book" 306,.str "Book" 307,.str "/claim/cut.py" 308,.int 40 0,.int 0 0,.int 0 0,.int 0 0,.int 0 0,.ref 100,.bool false,.int 181 0,.ref 101,.none,.none,.none,.none,.int 309 0,.int 40 0,.str "/claim/cut.py" 310]),#[]⟩,⟨.type "frame",none,.plain,#[some (.ref 102),some (.ref 3),some (.ref 99),none,some u0_,none,some (.ref 0)]⟩,e0_,e1_,(e2_ #[.str "self" 319]),e0_,oT "__init__" "Book.__init__" (L2.qh8 (Pr.top 15) 0),oC "__init__" "Book.__init__" 316 317 318 42 1 104 105 (.ref 106) (.ref 107) 108 320 321,oM "__init__" "Book.__init__" (L2.qh8 (Pr.top 15) 0) u0_ 109,e0_,e1_,(e2_ #[.str "self" 326,.str "row" 327]),e0_,oT "number_for" "Book.number_for" (L2.qh8 (Pr.top 15) 1),oC "number_for" "Book.number_for" 323 324 325 46 2 111 112 (.ref 113) (.ref 114) 115 328 329,oM "number_for" "Book.number_for" (L2.qh8 (Pr.top 15) 1) u0_ 116,e0_,e1_,(e2_ #[.str "self" 334,.str "rows" 335,.str "numbers" 336,.str "row" 337]),e0_,oT "numbers_for" "Book.numbers_for" (L2.qh8 (Pr.top 15) 2),oC "numbers_for" "Book.numbers_for" 331 332 333 54 2 118 119 (.ref 120) (.ref 121) 122 338 339,oM "numbers_for" "Book.numbers_for" (L2.qh8 (Pr.top 15) 2) u0_ 123,(e2_ #[.str "kept" 341,.str "numbers" 342]),⟨.type "dict",none,(.dict #[e3_ P "__module__" 311 (.str "quarterfold.rows" 239),e3_ P "__firstlineno__" 315 (.int 40 314),e3_ P "__init__" 322 (.ref 110),e3_ P "number_for" 330 (.ref 117),e3_ P "numbers_for" 340 (.ref 124),e3_ P "__static_attributes__" 343 (.ref 125),e3_ P "__dict__" 345 (.ref 128),e3_ P "__weakref__" 347 (.ref 129),e3_ P "__doc__" 348 .none] 4),#[]⟩,⟨.type "type",none,(.cls ⟨"Book",[.type "object"],[.ref 127,.type "object"],126, "Book",true,[],[],false,none,false⟩),#[none,none,some (.str "Book" 304),some (.str "Book" 312),some (.builtin "object.__new__"),some (.bool true)]⟩,⟨.type "getset_descriptor",none,(.fields #[.str "__dict__" 344,.ref 127,.builtin "function.__dict__",.builtin "function.__dict__#set"]),#[]⟩,⟨.type "getset_descriptor",none,(.fields #[.str "__weakref__" 346,.ref 127,.builtin "ExceptionGroup.__weakref__",.none]),#[]⟩,⟨.type "super",none,(.fields #[.ref 127,.ref 127,.ref 127]),#[]⟩,⟨.type "builtin_function_or_method",none,(.fields #[.builtin "object.__init_subclass__",.ref 127]),#[]⟩,e0_,e1_,(e2_ #[.str "thing" 358]),e0_,oT "is_size" "is_size" (Pr.top 18),oC "is_size" "is_size" 355 356 357 61 1 132 133 (.ref 134) (.ref 135) 136 359 360,oF "is_size" (Pr.top 18) (.str "quarterfold.floors" 351) 137,e0_,e1_,(e2_ #[.str "thing" 367,.str "many" 368]),e0_,oT "is_number" "is_number" (Pr.top 20),oC "is_number" "is_number" 364 365 366 64 2 139 140 (.ref 141) (.ref 142) 143 369 370,oF "is_number" (Pr.top 20) u3_ 144,e0_,e1_,oT "is_row" "is_row" (Pr.top 21),oC "is_row" "is_row" 372 373 374 66 2 146 147 .none .none 148 375 376,oF "is_row" (Pr.top 21) u3_ 149,e0_,e1_,oT "are_rows" "are_rows" (Pr.top 22),oC "are_rows" "are_rows" 378 379 380 70 1 151 152 .none .none 153 381 382,oF "are_rows" (Pr.top 22) u3_ 154,e0_,e1_,(e2_ #[.str "thing" 387,.str "n" 388,.str "top" 389,.str "rows" 390]),e0_,oT "is_telling" "is_telling" (Pr.top 23),oC "is_telling" "is_telling" 384 385 386 72 1 156 157 (.ref 158) (.ref 159) 160 391 392,oF "is_telling" (Pr.top 23) u3_ 161,e0_,e1_,oT "is_shape" "is_shape" (Pr.top 24),oC "is_shape" "is_shape" 394 395 396 79 1 163 164 .none .none 165 397 398,oF "is_shape" (Pr.top 24) u3_ 166,e0_,e1_,(e2_ #[.str "telling" 403]),e0_,oT "want_telling" "want_telling" (Pr.top 25),oC "want_telling" "want_telling" 400 401 402 86 1 168 169 (.ref 170) (.ref 171) 172 404 405,oF "want_telling" (Pr.top 25) u3_ 173,e0_,e1_,oT "same_steps" "same_steps" (Pr.top 27),oC "same_steps" "same_steps" 409 410 411 90 1 175 176 .none .none 177 412 413,oF "same_steps" (Pr.top 27) u2_ 178,e0_,e1_,oT "plain_steps" "plain_steps" (Pr.top 28),oC "plain_steps" "plain_steps" 415 416 417 98 1 180 181 .none .none 182 418 419,oF "plain_steps" (Pr.top 28) u2_ 183,e0_,e1_,oT "gone_steps" "gone_steps" (Pr.top 29),oC "gone_steps" "gone_steps" 421 422 423 100 2 185 186 .none .none 187 424 425,oF "gone_steps" (Pr.top 29) u2_ 188,e0_,e1_,(e2_ #[.str "telling" 430,.str "top" 431,.str "rows" 432]),e0_,oT "steps_of" "steps_of" (Pr.top 30),oC "steps_of" "steps_of" 427 428 429 106 1 190 191 (.ref 192) (.ref 193) 194 433 434,oF "steps_of" (Pr.top 30) u2_ 195,e0_,e1_,oT "is_step" "is_step" (Pr.top 31),oC "is_step" "is_step" 436 437 438 110 2 197 198 .none .none 199 439 440,oF "is_step" (Pr.top 31) u2_ 200,e0_,e1_,(e2_ #[.str "rows" 445,.str "step" 446]),e0_,oT "number_behind" "number_behind" (Pr.top 32),oC "number_behind" "number_behind" 442 443 444 116 2 202 203 (.ref 204) (.ref 205) 206 447 448,oF "number_behind" (Pr.top 32) u2_ 207,e0_,e1_,oT "stepped" "stepped" (Pr.top 33),oC "stepped" "stepped" 450 451 452 120 2 209 210 .none .none 211 453 454,oF "stepped" (Pr.top 33) u2_ 212,e0_,e1_,(e2_ #[.str "telling" 459,.str "n" 460,.str "top" 461,.str "rows" 462,.str "book" 463,.str "numbers" 464]),e0_,oT "one_telling" "one_telling" (Pr.top 34),oC "one_telling" "one_telling" 456 457 458 129 1 214 215 (.ref 216) (.ref 217) 218 465 466,oF "one_telling" (Pr.top 34) u2_ 219])))
noncomputable def hA (P:Params):Heap:=⟨⟨((((ob P).take 15).set 3 (boot_o_3 P)).set 12 (e1_))⟩,(boot_heap P).life⟩
noncomputable def h1 (P:Params):Heap:=⟨⟨((((ob P).take 132).set 3 (⟨.type "dict",none,(.dict #[e3_ P "__name__" 165 (.str "quarterfold.rows" 239),e3_ P "__doc__" 166 .none,e3_ P "__package__" 167 .none,e3_ P "__loader__" 168 (.builtin "__main__.__loader__#opaque"),e3_ P "__spec__" 169 .none,e3_ P "__annotations__" 170 (.ref 6),e3_ P "__builtins__" 171 (.ref 4),e3_ P "__file__" 173 (.str "/claim/cut.py" 172),e3_ P "__cached__" 174 .none,e3_ P "FloorError" 206 (.ref 24),e3_ P "NoTelling" 222 (.ref 37),e3_ P "NoStep" 238 (.ref 49),e3_ P "EMPTY" 242 (.int 0 241),e3_ P "FULL" 244 (.int 1 243),e3_ P "FIRST" 246 (.int 2 245),e3_ P "is_whole" 253 (.ref 58),e3_ P "is_plain" 260 (.ref 65),e3_ P "depths_of" 266 (.ref 70),e3_ P "end_rows" 276 (.ref 77),e3_ P "places_as_ended" 285 (.ref 84),e3_ P "renumbered" 291 (.ref 89),e3_ P "shape_of" 303 (.ref 96),e3_ P "Book" 350 (.ref 127)] 23),#[]⟩)).set 12 (⟨.none,none,(.fields #[.int 2 0,.int 0 0,.ref 20,.int 4 0,.int 0 0,.ref 33,.int 6 0,.int 0 0,.ref 45,.int 12 0,.int 0 0,.ref 57,.int 14 0,.int 0 0,.ref 64,.int 16 0,.int 0 0,.ref 69,.int 21 0,.int 0 0,.ref 76,.int 27 0,.int 0 0,.ref 83,.int 31 0,.int 0 0,.ref 88,.int 33 0,.int 0 0,.ref 95,.int 40 0,.int 0 0,.ref 102]),#[]⟩))⟩,(boot_heap P).life⟩
noncomputable def h2 (P:Params):Heap:=⟨⟨(ob P)⟩,(boot_heap P).life⟩
noncomputable def bd:List Stmt:=behindTheImports pw
noncomputable def ev:Env:={ scope:=pw.main.scope,locals:=mainNs,globals:=mainNs,cells:=[],code:=.ref 13,frame:=some 14 }
noncomputable def cE:Code:=.body bd ev
noncomputable abbrev sh (h:Params->Heap) (k:Nat) (w:World) (os:OsState):Shared:=⟨h w.params,Array.mk [],boot_drawn,k,os⟩
noncomputable abbrev fr:List Frame:=[topFrame ⟨0,0,0,0⟩]
theorem pre0 (w:World) (os:OsState):topGo treeTable pw w 11 (some (.ref 6)) 12 (sh boot_heap boot_toks w os) (topStub pw)=some (sh hA 187 w os,⟨denote treeTable cE,cE,⟨0,0,0,0⟩,fr⟩):=by kernel_rfl
theorem blk0 (w:World) (os:OsState):segRun treeTable pw w 11 (some (.ref 6)) 1 1 (sh hA 187 w os) (blockOf bd ev cE ⟨0,0,0,0⟩ fr)=some (.next,sh hA 187 w os,cE,⟨0,0,0,0⟩):=by kernel_rfl
theorem qx8 {tb:String->Option Builtin}{p:Program}{w:World}{n₀:Nat}{ann:Option Value}{env:Env}{q:Pos}{n N j:Nat}{s s' r:Shared}{l:List Stmt}{c:Code}{pos p':Pos}(h:segRun tb p w n₀ ann 1 n s (piecesOf (l.take j) env c pos [topFrame q])=some (.next,s',c,p'))
  (k:topRun tb p w n₀ ann N s' (restOf (l.drop j) env c p' [topFrame q])=some r):topRun tb p w n₀ ann (n+N) s (restOf l env c pos [topFrame q])=some r:=by
 have:=piece_app (l:=l.take j) (rest:=l.drop j) h k
 rwa [YF] at this
theorem xh4 {p q:Program}{loose:List Str}{Xt:Shared->Bool}{α:Type}{Yf:Shared->α}{Ya:World->α}{N:Nat}{g0:Bool}{H₀:Params->Heap}{gs₀:Array GenState}{d₀:Drawn}{k₀ m₀ M N2:Nat}{ann:Option Value}{Z:World->OsState->Shared}{T:Thread}
  (open_:∀w:World,(fencedOpening treeTable p w N).map (λs=>(s.heap,s.gens,s.drawn,s.toks))=some (H₀ w.params,gs₀,d₀,k₀))
  (size:∀w:World,((H₀ w.params).isNs mainGlobals&&gs₀.size==0,(H₀ w.params).objs.size,(H₀ w.params).nsMap mainGlobals "__annotations__")=(true,m₀,ann))
  (run:∀(w:World) (os:OsState) (r:Shared),topRun treeTable p w m₀ ann N2 (Z w os) T=some r->topRun treeTable p w m₀ ann M ⟨H₀ w.params,gs₀,d₀,k₀,os⟩ (topStub p)=some r) (le:Nat.ble M N=true)
  (fin:∀(w:World) (os:OsState),(topRun treeTable p w m₀ ann N2 (Z w os) T).map (λs=>(staticsOk (importedModules p.main.body) (H₀ w.params) s.heap&&namesBound p s.heap&&gensDone s&&laidKept (H₀ w.params) s.heap,openSeen q loose (importedModules p.main.body) Xt g0 s,Yf s))=some (true,openGood q loose,Ya w)):LeftO p q loose Xt Yf Ya N g0:=λw=>by
 obtain⟨⟨h,gs,d,k,os⟩,e,e'⟩:=Zj.mp (open_ w);obtain⟨rfl,rfl,rfl,rfl⟩:h=H₀ w.params/\gs=gs₀/\d=d₀/\k=k₀:=by simpa using e'
 obtain⟨z1,z2,z3⟩:_/\_/\_:=by simpa only [Prod.mk.injEq] using size w
 obtain⟨r,hr,e2⟩:=Zj.mp (fin w os);obtain⟨l1,l2,l3⟩:_/\_/\_:=by simpa only [Prod.mk.injEq] using e2
 have r1:=topRun_mono (N-M) _ _ _ _ (run w os r hr);rw[show M+(N-M)=N by have:=Nat.le_of_ble_eq_true le;lia] at r1;have t:topFrom treeTable p w N ⟨H₀ w.params,gs,d,k,os⟩=some r:=by
  unfold topFrom;dsimp only;rw[z1,z2,z3,r1];show (match staticsOk (importedModules p.main.body) (H₀ w.params) r.heap&&namesBound p r.heap&&gensDone r&&laidKept (H₀ w.params) r.heap with|true=>_|false=>_)=_;rw[l1]
 unfold openEnds;rw[e];show (topFrom treeTable p w N ⟨H₀ w.params,gs,d,k,os⟩).map _=_;rw[t];show some (_,_)=some (_,_);rw[l2,l3]
theorem seg1 (w:World) (os:OsState):segRun treeTable pw w 11 (some (.ref 6)) 1 1202 (sh hA 187 w os) (piecesOf (bd.take 16) ev cE ⟨0,0,0,0⟩ fr)=some (.next,sh h1 351 w os,cE,⟨40,0,58,22⟩):=by kernel_rfl
theorem seg2 (w:World) (os:OsState):segRun treeTable pw w 11 (some (.ref 6)) 1 509 (sh h1 351 w os) (piecesOf ((bd.drop 16).take 19) ev cE ⟨40,0,58,22⟩ fr)=some (.next,sh h2 468 w os,cE,⟨129,0,134,47⟩):=by kernel_rfl
theorem run0 (w:World) (os:OsState) (r:Shared) (h:topRun treeTable pw w 11 (some (.ref 6)) 582 (sh h2 468 w os) (restOf ((bd.drop 16).drop 19) ev cE ⟨129,0,134,47⟩ fr)=some r):topRun treeTable pw w 11 (some (.ref 6)) (12+(1+(1202+(509+582)))) (sh boot_heap boot_toks w os) (topStub pw)=some r:=go_top (pre0 w os) (piece_block (blk0 w os) (qx8 (seg1 w os) (qx8 (seg2 w os) h)))
theorem opn0:opening pw=plainProg pw.main.scope.names:=by kernel_rfl
theorem fen0 (s:Shared):fenceModules? pw s=some s:=by kernel_rfl
def q0:Program:={ pw with main:={ pw.main with body:=keep0.map Pr.top } }
theorem as_K:∀P,as0=(K0 P).map (·.1):=λ_=>by kernel_rfl
abbrev X0:Shared->Bool:=λs=>xlAt q0 [] s&&recOk (RowW.records (OpenRow.toRowW (OpenLaw.row PySem.Challenge.rw_quarterfold_k22_whole_steps_lead_to_one))) s
set_option maxHeartbeats 0 in
theorem fin0 (w:World) (os:OsState):(topRun treeTable pw w 11 (some (.ref 6)) 582 (sh h2 468 w os) (restOf ((bd.drop 16).drop 19) ev cE ⟨129,0,134,47⟩ fr)).map (λs=>(staticsOk (importedModules pw.main.body) (boot_heap w.params) s.heap&&namesBound pw s.heap&&gensDone s&&laidKept (boot_heap w.params) s.heap,openSeen q0 [] (importedModules pw.main.body) X0 true s,Hook.obs (kHook Hd.K0 Hd.as0 Hd.as_K) s))=some (true,openGood q0 [],Hook.val (kHook Hd.K0 Hd.as0 Hd.as_K) w):=by kernel_rfl
theorem xH8:LeftO pw q0 [] X0 (Hook.obs (kHook Hd.K0 Hd.as0 Hd.as_K)) (Hook.val (kHook Hd.K0 Hd.as0 Hd.as_K)) N0:=xh4 (boot_open opn0 rfl fen0) (λw=>by kernel_rfl) run0 (by rfl) fin0
end Hd
namespace L2
open PySem PySem.Spec PyProof.Rows
abbrev Key:=Sum Int Str
def qQ9:Key->Value->Bool
 |.inl k,v=>Value.isInt k v
 |.inr x,v=>Value.isStrOf x v
def keyH (w:World):Key->Int
 |.inl k=>hashInt k
 |.inr x=>hashStr w x
theorem qd8:∀{k:Key}{v:Value},qQ9 k v=true->(∃i t,k=Sum.inl i/\v=Value.int i t)\/(∃x t,k=Sum.inr x/\v=Value.str x t)
 |.inl i,v,h=>by
  obtain⟨t,e⟩:=Value.isInt_shape (k:=i) (v:=v) h;exact .inl ⟨i,t,rfl,e⟩
 |.inr x,v,h=>by
  obtain⟨t,e⟩:=Value.isStrOf_shape (x:=x) (v:=v) h;exact .inr ⟨x,t,rfl,e⟩
theorem q47 (i:Int) (t:Tok):qQ9 (.inl i) (.int i t)=true:=by simp[qQ9,Value.isInt]
theorem q48 (x:Str) (t:Tok):qQ9 (.inr x) (.str x t)=true:=by simp[qQ9,Value.isStrOf]
theorem xz8 (a b:Int):decide ((Sum.inl a:Key)=Sum.inl b)=(a==b):=by
 by_cases e:a=b
 ·subst e;simp
 ·have h:¬(Sum.inl a:Key)=Sum.inl b:=λq=>e (X7 q);rw[Zq h];exact (YB.mpr e).symm
theorem xz9 (a b:Str):decide ((Sum.inr a:Key)=Sum.inr b)=decide (a=b):=by
 by_cases e:a=b
 ·subst e;simp
 ·have h:¬(Sum.inr a:Key)=Sum.inr b:=λq=>e (Sum.inr.inj q);rw[Zq h,Zq e]
theorem xA0 (a:Int) (b:Str):decide ((Sum.inl a:Key)=Sum.inr b)=false:=Zq (λq=>nomatch q)
theorem xA1 (a:Str) (b:Int):decide ((Sum.inr a:Key)=Sum.inl b)=false:=Zq (λq=>nomatch q)
def qc6 (prog:Program) (w:World):PySem.KeyKind prog w Key where
 is:=qQ9
 hash:=keyH w
 inj:=λv a b ha hb=>by
  rcases qd8 ha with ⟨i,t,rfl,rfl⟩|⟨x,t,rfl,rfl⟩
  ·rcases qd8 hb with ⟨j,u,rfl,e⟩|⟨y,u,rfl,e⟩
   ·injection e with e1 _;rw[e1]
   ·exact nomatch e
  ·rcases qd8 hb with ⟨j,u,rfl,e⟩|⟨y,u,rfl,e⟩
   ·exact nomatch e
   ·injection e with e1 _;rw[e1]
 byValue:=λk v h=>by
  rcases qd8 h with ⟨i,t,rfl,rfl⟩|⟨x,t,rfl,rfl⟩<;>rfl
 pyHash:=λhv h=>by
  rcases qd8 hv with ⟨i,t,rfl,rfl⟩|⟨x,t,rfl,rfl⟩
  ·exact wpAny_pyHash_int h
  ·exact wpAny_pyHash_str h
 eqBool:=λhu hv h=>by
  rcases qd8 hu with ⟨i,t,rfl,rfl⟩|⟨x,t,rfl,rfl⟩
  ·rcases qd8 hv with ⟨j,u,rfl,rfl⟩|⟨y,u,rfl,rfl⟩
   ·rw[xz8] at h;exact wpAny_eqBool_int h
   ·rw[xA0] at h;exact SeqAt.EqAt.int_str i t y u _ _ _ _ h
  ·rcases qd8 hv with ⟨j,u,rfl,rfl⟩|⟨y,u,rfl,rfl⟩
   ·rw[xA1] at h;exact SeqAt.EqAt.str_int x t j u _ _ _ _ h
   ·rw[xz9] at h;exact wpAny_eqBool_str h
 «strs»:=λk x t v h=>by
  rcases qd8 h with ⟨i,u,rfl,e⟩|⟨y,u,rfl,e⟩
  ·exact nomatch e
  ·injection e with e1 _
   subst e1;cases v<;>rfl
theorem qR0 (prog:Program) (w:World) (i:Int) (t:Tok):(qc6 prog w).is (.inl i) (.int i t)=true:=q47 i t
theorem qR1 (prog:Program) (w:World) (x:Str) (t:Tok):(qc6 prog w).is (.inr x) (.str x t)=true:=q48 x t
inductive V where
 |non|bl (b:Bool)|int (i:Int)|str (x:Str)|byt (b:Array UInt8)|flt (b:UInt64)|ref (a:Addr)|ty (n:String)
 deriving DecidableEq
def RelV:V->Value->Prop
 |.non,u=>u=Value.none
 |.bl b,u=>u=Value.bool b
 |.int i,u=>∃t,u=Value.int i t
 |.str x,u=>∃t,u=Value.str x t
 |.byt b,u=>∃t,u=Value.bytes b t
 |.flt b,u=>∃t,u=Value.float b t
 |.ref a,u=>u=Value.ref a
 |.ty n,u=>u=Value.type n
abbrev Vals:List V->List Value->Prop:=Paired RelV
theorem Vals.length {xs:List V}{us:List Value}(r:Vals xs us):xs.length=us.length:=Wm r
theorem Vals.get:∀{xs:List V}{us:List Value}{i:Nat}{x:V},Vals xs us->xs[i]?=some x->∃u,us[i]?=some u/\RelV x u
 |_,_,_,_,.nil,e=>by simp at e
 |_,_,0,_,.cons r _,e=>by simp at e;subst e;exact⟨_,rfl,r⟩
 |_,_,i+1,x,.cons _ t,e=>by
  obtain⟨u,h1,h2⟩:=Vals.get (i:=i) (x:=x) t (by simpa using e);exact⟨u,by simpa using h1,h2⟩
theorem Vals.set {x:V}{u:Value}(r:RelV x u):∀{xs:List V}{us:List Value}(i:Nat),Vals xs us->Vals (xs.set i x) (us.set i u)
 |_,_,_,.nil=>.nil
 |_,_,0,.cons _ t=>.cons r t
 |_,_,i+1,.cons q t=>.cons q (Vals.set r i t)
theorem Vals.append:∀{xs ys:List V}{us ws:List Value},Vals xs us->Vals ys ws->Vals (xs++ys) (us++ws)
 |_,_,_,_,.nil,s=>s
 |_,_,_,_,.cons r t,s=>.cons r (Vals.append t s)
theorem Vals.take:∀{xs:List V}{us:List Value}(n:Nat),Vals xs us->Vals (xs.take n) (us.take n)
 |_,_,0,_=>.nil
 |_,_,_+1,.nil=>.nil
 |_,_,n+1,.cons r t=>.cons r (Vals.take n t)
theorem Vals.drop:∀{xs:List V}{us:List Value}(n:Nat),Vals xs us->Vals (xs.drop n) (us.drop n)
 |_,_,0,r=>r
 |_,_,_+1,.nil=>.nil
 |_,_,n+1,.cons _ t=>Vals.drop n t
def RelO:Option V->Option Value->Prop
 |some v,some u=>RelV v u
 |none,none=>True
 |_,_=>False
def KV {κ:Type}:List (κ×V)->List (κ×Value)->Prop:=Paired λ(p:κ×V) (q:κ×Value)=>p.1=q.1/\RelV p.2 q.2
def kV:Key->V
 |.inl i=>.int i
 |.inr x=>.str x
inductive HO where
 |lst (xs:List V)
 |tup (xs:List V)
 |dK (kvs:List (Key×V))|dT (kvs:List (List Key×V))
 |set (S:Int->Bool) (n:Nat)
 |ins (C dx:Addr) (fs:List (Str×V))
 |own (x:Addr)
 |xd (fs:List (Str×V))
 |met (f x:Addr)
 |rng (lo hi:Int)
 |frz (o:Obj) (u:HO)
 |tbl (ps:Array Value)
 |ext (φ:Heap->Prop)
abbrev Hp:=Addr->Option HO
def upd (H:Hp) (a:Addr) (o:HO):Hp:=λb=>if b=a then some o else H b
theorem qa1 {H:Hp}{a:Addr}{o:HO}:upd H a o a=some o:=by unfold upd;rw[Zp rfl]
theorem qa5 {H:Hp}{a b:Addr}{o:HO}(h:b≠a):upd H a o b=H b:=by unfold upd;rw[Zk h]
theorem xs3 {H:Hp}{a:Addr}{o u:HO}:upd (upd H a o) a u=upd H a u:=by
 funext b;unfold upd;split<;>rfl
theorem qp3 {H:Hp}{a b:Addr}{o u:HO}(h:H a=some o) (h':H b=some u) (d:o≠u):a≠b:=by
 intro e;subst e;rw[h] at h';exact d (Zv h')
theorem qa3 {H:Hp}{a b:Addr}{o:HO}(h:H a=some o) (h':H b=none):a≠b:=by
 intro e;subst e;rw[h] at h';cases h'
def IsTupX (h:Heap) (a:Addr) (items:Array Value):Prop:=∃o,h.get? a=some o/\o.cls=.type "tuple" /\ ∃n:{n:Nat // o.dict=none},o.data=.seq items n.1
theorem IsTupX.is {h:Heap}{a:Addr}{items:Array Value}(x:IsTupX h a items):IsTup h a items:=let ⟨o,h1,h2,n,h3⟩:=x;⟨o,h1,h2,n.1,h3⟩
theorem IsTupX.new (h:Heap) (items:Array Value):IsTupX (h.push { cls:=.type "tuple",data:=.seq items }) h.objs.size items:=⟨_,Zo _ rfl,rfl,⟨_,rfl⟩,rfl⟩
instance {h:Heap}{a:Addr}{items:Array Value}:Coe (IsTupX h a items) (IsTup h a items):=⟨IsTupX.is⟩
instance {h:Heap}{a:Addr}{items:Array Value}:Coe (IsTupX h a items) (h.IsTuple a items):=⟨IsTupX.is⟩
section
variable (P:Program) (w:World)
def ObjOk (H:Hp) (h:Heap) (a:Addr):HO->Prop
 |.lst xs=>xs.length<=sizeLine/\∃(its:List Value) (n:Nat),Vals xs its/\h.get? a=some { cls:=.type "list",data:=.seq its.toArray n }
 |.tup xs=>xs.length<=sizeLine/\∃its:List Value,Vals xs its/\IsTupX h a its.toArray
 |.dK kvs=>kvs.length<=sizeLine/\(a==sysModules)=false/\∃vs,KV kvs vs/\h.DictOf (qc6 P w) a vs
 |.dT kvs=>kvs.length<=sizeLine/\(a==sysModules)=false/\∃xs:List (List Key×Addr×Value),
   Paired (λ(p:List Key×V) (q:List Key×Addr×Value)=>p.1=q.1/\H q.2.1=some (.tup (p.1.map kV))/\RelV p.2 q.2.2) kvs xs /\
   ∃o es ep,h.get? a=some o/\o.ExactDict/\o.data=.dict es ep/\es.toList=xs.map (entryOfKey (tupleKind (qc6 P w)))/\(xs.map (·.1)).Nodup
 |.set S n=>h.SetOf (intKind P w) a S n
 |.ins C dx fs=>H dx=some (.own a)/\fs.length<=1000/\dx≠a/\h.get? a=some (PySem.W.instObj C dx) /\
   ∃mA,h.Ns1 dx mA/\(∀f,RelO (fs.lookup f) (mA f))/\PySem.Within mA (fs.map (·.1))
 |.own _=>∃o,h.get? a=some o
 |.xd fs=>∃mA,h.Ns1 a mA/\∀f,RelO (fs.lookup f) (mA f)
 |.rng lo hi=>∃t u v,h.get? a=some { cls:=.type "range",data:=.fields #[.int lo t,.int hi u,.int 1 v] }
 |.frz o u=>h.get? a=some o/\ObjOk H h a u
 |.tbl ps=>h.get? a=some { cls:=.none,data:=.fields ps }
 |.met f x=>h.get? a=some (PySem.W.methodObj (.ref f) (.ref x))
 |.ext φ=>φ h/\(∃o,h.get? a=some o)/\∀h1 h2:Heap,φ h1->(∀o,h1.get? a=some o->h2.get? a=some o)->φ h2
def HOk (H:Hp) (h:Heap):Prop:=∀a o,H a=some o->ObjOk P w H h a o
end
section
variable {P:Program}{w:World}{H H':Hp}{h h':Heap}{a:Addr}{o:HO}
theorem ObjOk.lt (x:ObjOk P w H h a o):a<h.objs.size:=by
 cases o with
 |lst xs=>obtain⟨_,_,_,_,e⟩:=x;exact Zs e
 |tup xs=>obtain⟨_,_,_,p⟩:=x;exact (IsTupX.is p).lt
 |dK kvs=>obtain⟨_,_,_,_,o,_,_,e,_⟩:=x;exact Zs e
 |dT kvs=>obtain⟨_,_,_,_,o,_,_,e,_⟩:=x;exact Zs e
 |set S n=>obtain⟨o,_,_,_,e,_⟩:=x;exact Zs e
 |ins C dx fs=>obtain⟨_,_,_,e,_⟩:=x;exact Zs e
 |own y=>obtain⟨_,e⟩:=x;exact Zs e
 |xd fs=>obtain⟨_,⟨_,_,_,e,_⟩,_⟩:=x;exact Zs e
 |rng lo hi=>obtain⟨_,_,_,e⟩:=x;exact Zs e
 |frz ob u=>obtain⟨e,_⟩:=x;exact Zs e
 |tbl ps=>exact Zs (show h.get? a=some _ from x)
 |met f y=>exact Zs (show h.get? a=some _ from x)
 |ext φ=>obtain⟨_,⟨_,e⟩,_⟩:=x;exact Zs e
theorem Paired.mapP {α β:Type}{F G:α->β->Prop}:∀{l₁:List α}{l₂:List β},Paired F l₁ l₂->(∀a b,F a b->G a b)->Paired G l₁ l₂
 |_,_,.nil,_=>.nil
 |_,_,.cons r t,f=>.cons (f _ _ r) (Paired.mapP t f)
theorem ObjOk.stay (x:ObjOk P w H h a o) (k:∀b u,(b=a\/H b=some (.own a))->h.get? b=some u->h'.get? b=some u)
  (ho:∀b,H b=some (.own a)->H' b=some (.own a)) (ht:∀b xs,H b=some (.tup xs)->H' b=some (.tup xs)):ObjOk P w H' h' a o:=by
 induction o with
 |lst xs=>obtain⟨z,its,n,r,e⟩:=x;exact⟨z,its,n,r,k _ _ (.inl rfl) e⟩
 |tup xs=>obtain⟨z,its,r,ob,e,c⟩:=x;exact⟨z,its,r,ob,k _ _ (.inl rfl) e,c⟩
 |dK kvs=>obtain⟨z,y,vs,r,ob,es,ep,e,c⟩:=x;exact⟨z,y,vs,r,ob,es,ep,k _ _ (.inl rfl) e,c⟩
 |dT kvs=>
  obtain⟨z,y,xs,r,ob,es,ep,e,c⟩:=x;exact⟨z,y,xs,Paired.mapP r λp q z=>⟨z.1,ht _ _ z.2.1,z.2.2⟩,ob,es,ep,k _ _ (.inl rfl) e,c⟩
 |set S n=>obtain⟨ob,es,ep,t,e,c⟩:=x;exact⟨ob,es,ep,t,k _ _ (.inl rfl) e,c⟩
 |ins C dx fs=>
  obtain⟨d,z,ne,e,mA,⟨od,es,ep,e2,c⟩,r⟩:=x;exact⟨ho _ d,z,ne,k _ _ (.inl rfl) e,mA,⟨od,es,ep,k _ _ (.inr d) e2,c⟩,r⟩
 |own y=>obtain⟨ob,e⟩:=x;exact⟨ob,k _ _ (.inl rfl) e⟩
 |xd fs=>obtain⟨mA,⟨od,es,ep,e,c⟩,r⟩:=x;exact⟨mA,⟨od,es,ep,k _ _ (.inl rfl) e,c⟩,r⟩
 |rng lo hi=>obtain⟨t,u,v,e⟩:=x;exact⟨t,u,v,k _ _ (.inl rfl) e⟩
 |frz ob u ih=>obtain⟨e,q⟩:=x;exact⟨k _ _ (.inl rfl) e,ih q⟩
 |tbl ps=>
  have e:h.get? a=some { cls:=.none,data:=.fields ps }:=x;show h'.get? a=some { cls:=.none,data:=.fields ps };exact k a _ (.inl rfl) e
 |met f y=>
  have e:h.get? a=some (PySem.W.methodObj (.ref f) (.ref y)):=x;show h'.get? a=some (PySem.W.methodObj (.ref f) (.ref y));exact k a _ (.inl rfl) e
 |ext φ=>obtain⟨p,⟨o,e⟩,st⟩:=x;exact⟨st _ _ p λo q=>k _ _ (.inl rfl) q,⟨o,k _ _ (.inl rfl) e⟩,st⟩
theorem HOk.lt (x:HOk P w H h) (e:H a=some o):a<h.objs.size:=(x a o e).lt
theorem HOk.fresh (x:HOk P w H h) (e:h.objs.size<=a):H a=none:=by
 cases q:H a with
 |none=>rfl
 |some u=>exact absurd (ZV (x.lt q) e) (YT _)
theorem HOk.kept (x:HOk P w H h) (k:∀b u,h.get? b=some u->h'.get? b=some u):HOk P w H h':=λa o e=>
 (x a o e).stay (λb u _ q=>k b u q) (λ_ q=>q) λ_ _ q=>q
theorem HOk.laid (x:HOk P w H h) (k:∀b u,h.get? b=some u->h'.get? b=some u) (hp:h.objs.size<=a) (new:ObjOk P w (upd H a o) h' a o):HOk P w (upd H a o) h':=λb u e=>by
 have hn:=x.fresh hp;by_cases hb:b=a
 ·subst hb;rw[qa1] at e;cases e;exact new
 ·rw[qa5 hb] at e;exact (x b u e).stay (λc v _ q=>k c v q) (λc q=>by rw[qa5 (qa3 q hn)];exact q) λc xs q=>by rw[qa5 (qa3 q hn)];exact q
end
def Rd (H:Hp) (a:Addr) (u:HO):Prop:=H a=some u\/∃o,H a=some (.frz o u)
theorem Rd.of {H:Hp}{a:Addr}{u:HO}(h:H a=some u):Rd H a u:=.inl h
theorem Rd.ok {P:Program}{w:World}{H:Hp}{h:Heap}{a:Addr}{u:HO}(r:Rd H a u) (x:HOk P w H h):ObjOk P w H h a u:=by
 rcases r with r|⟨o,r⟩
 ·exact x a u r
 ·obtain⟨_,q⟩:=x a _ r;exact q
def Mut:Option HO->Prop
 |some (.lst _)=>True
 |some (.dK _)=>True
 |some (.dT _)=>True
 |some (.set _ _)=>True
 |some (.ins _ _ _)=>True
 |some (.ext _)=>True
 |_=>False
section
variable {P:Program}{w:World}{H:Hp}{h h':Heap}{x e:Addr}{o':HO}
theorem HOk.write (ok:HOk P w H h) (mu:Mut (H x)) (he:e=x\/H e=some (.own x)) (k:∀b u,b≠e->h.get? b=some u->h'.get? b=some u) (heo:∃u,h'.get? e=some u)
  (new:ObjOk P w (upd H x o') h' x o'):HOk P w (upd H x o') h':=λb u q=>by
 have nown:∀c y,H c=some (.own y)->c≠x:=λc y r z=>by subst z;rw[r] at mu;exact mu
 have ntup:∀c xs,H c=some (.tup xs)->c≠x:=λc xs r z=>by subst z;rw[r] at mu;exact mu
 by_cases hb:b=x
 ·subst hb;rw[qa1] at q;cases q;exact new
 ·rw[qa5 hb] at q;by_cases wG:b=e
  ·have q':H b=some (.own x):=by
    rcases he with z|z
    ·exact absurd (wG.trans z) hb
    ·rw[wG];exact z
   rw[q] at q';cases q';obtain⟨v,hv⟩:=heo;exact⟨v,by rw[wG];exact hv⟩
  ·refine (ok b u q).stay (λc v hc r=>k c v ?_ r) (λc r=>by rw[qa5 (nown c b r)];exact r) λc xs r=>by rw[qa5 (ntup c xs r)];exact r
   rcases hc with rfl|hc
   ·exact wG
   ·rintro rfl;rcases he with z|z
    ·exact nown c b hc z
    ·rw[hc] at z;cases z;exact hb rfl
end
structure Un (fs ex:List Addr) (H H':Hp) (h h':Heap):Prop where
 keep:∀b o,h.get? b=some o->H b=none->b∉fs->b∉ex->h'.get? b=some o
 slot:∀b o,h.get? b=some o->H b=none->b∈fs->b∉ex->∃sl,h'.get? b=some { o with slots:=sl }
 free:∀b o,h.get? b=some o->H b=none->b∉ex->H' b=none
 there:∀b o,h.get? b=some o->b∉ex->∃o',h'.get? b=some o'
 tups:∀b xs,H b=some (.tup xs)->H' b=some (.tup xs)
 frzs:∀b o u,H b=some (.frz o u)->H' b=some (.frz o u)
 tbls:∀b ps,H b=some (.tbl ps)->∃more,H' b=some (.tbl (ps++more))
section
variable {fs fs' ex ex':List Addr}{H H1 H2:Hp}{h h1 h2 h':Heap}{a x e:Addr}{o:HO}
theorem Un.any (u:Un fs ex H H1 h h1){b:Addr}{ob:Obj}(q:h.get? b=some ob) (n:H b=none) (hx:b∉ex):∃sl,h1.get? b=some { ob with slots:=sl }:=by
 by_cases hb:b∈fs
 ·exact u.slot b ob q n hb hx
 ·exact⟨ob.slots,u.keep b ob q n hb hx⟩
theorem Un.kept (k:∀b u,h.get? b=some u->h'.get? b=some u):Un fs ex H H h h':=
 ⟨λb ob q _ _ _=>k b ob q,λb ob q _ _ _=>⟨ob.slots,k b ob q⟩,λ_ _ _ n _=>n,λb ob q _=>⟨ob,k b ob q⟩,λ_ _ q=>q,λ_ _ _ q=>q,λ_ ps q=>⟨#[],by rw[q];simp⟩⟩
theorem Un.refl:Un fs ex H H h h:=Un.kept λ_ _ q=>q
theorem Un.laid (k:∀b u,h.get? b=some u->h'.get? b=some u) (hp:h.objs.size<=a) (hn:H a=none):Un fs ex H (upd H a o) h h' where
 keep:=λb u q _ _ _=>k b u q
 slot:=λb u q _ _ _=>⟨u.slots,k b u q⟩
 free:=λb u q n _=>by rw[qa5 (ZA (ZV (Zs q) hp))];exact n
 there:=λb u q _=>⟨u,k b u q⟩
 tups:=λb xs q=>by rw[qa5 (qa3 q hn)];exact q
 frzs:=λb u xs q=>by rw[qa5 (qa3 q hn)];exact q
 tbls:=λb ps q=>⟨#[],by rw[qa5 (qa3 q hn),q];simp⟩
theorem Un.write (mu:Mut (H x)) (he:e=x\/H e=some (.own x)) (k:∀b u,b≠e->h.get? b=some u->h'.get? b=some u) (heo:∃u,h'.get? e=some u):Un fs ex H (upd H x o) h h':=by
 have hx:∀b,H b=none->b≠x:=λb n z=>by subst z;rw[n] at mu;exact mu
 have hb:∀b,H b=none->b≠e:=λb n z=>by
  subst z;rcases he with r|r
  ·exact hx b n r
  ·rw[n] at r;cases r
 have hm:∀b u,H b=some u->¬Mut (some u)->b≠x:=λb u q nm z=>by subst z;rw[q] at mu;exact nm mu
 refine⟨λb u q n _ _=>k b u (hb b n) q,λb u q n _ _=>⟨u.slots,k b u (hb b n) q⟩,λb u q n _=>by rw[qa5 (hx b n)];exact n,λb u q _=>?_,
  λb xs q=>by rw[qa5 (hm b _ q λz=>z)];exact q,λb u xs q=>by rw[qa5 (hm b _ q λz=>z)];exact q,λb ps q=>⟨#[],by rw[qa5 (hm b _ q λz=>z),q];simp⟩⟩
 by_cases wG:b=e
 ·subst wG;exact heo
 ·exact⟨u,k b u wG q⟩
end
def trk (h:Heap) (H:Hp):List Addr:=(List.range h.objs.size).filter λa=>(H a).isSome
def hidT (h:Heap) (H:Hp):Heap:=PySem.W.hideAll h (trk h H)
theorem q49 (h:Heap) (H:Hp):(hidT h H).objs.size=h.objs.size:=PySem.W.hideAll_size _ _
theorem xh5 {h:Heap}{H:Hp}{b:Addr}{o:Obj}(e:h.get? b=some o) (n:H b=none):(hidT h H).get? b=some o:=
 PySem.W.hideAll_get _ e λhm=>by
  have q:(H b).isSome=true:=(ZP.mp hm).2;rw[n] at q;simp at q
theorem xs4 {h:Heap}{H:Hp}{b:Addr}{o:Obj}(e:(hidT h H).get? b=some o):h.get? b=some o/\H b=none:=by
 have e':h.get? b=some o:=PySem.W.of_hideAll (trk h H) e;refine⟨e',?_⟩;cases q:H b with
 |none=>rfl
 |some x=>
  have hm:b∈trk h H:=ZP.mpr ⟨ZH.mpr (Zs e'),by simp[q]⟩;have z:(hidT h H).get? b=none:=PySem.W.hideAll_none (trk h H) hm;rw[z] at e;cases e
structure Mod (K:PySem.W.Frag) (mg:Str->Option Value) (base:Heap):Prop where
 kin:K.In base
 glob:base.Ns mainGlobals mg
 blt:∃mb,base.Ns builtinsNs mb/\∀x:Str,x ≠ "__name__" -> mb x=bootBuiltins x
 nolimit:base.NoLimit
structure Cx where
 prog:Program
 w:World
 K:PySem.W.Frag
 mg:Str->Option Value
 base:Heap
 A:Around
 N:List Str
 s₀:Shared
 H₀:Hp
 env:Env
 outer:List Env
 stack:List Env
 ex:List Addr
 fn:Str->Bool
 calm:Bool
 pn:List (Addr×Obj)
 xe:Value->Shared->Prop
def frs (l:List Env):List Addr:=l.filterMap (·.frame)
abbrev Cx.fs (X:Cx):List Addr:=frs X.outer
def Vis (sc:Scope) (x:Str):Prop:=sc.names.lookup x=some .local\/sc.names.lookup x=some .cell\/sc.names.lookup x=some .free
def Loc (sc:Scope) (x:Str):Prop:=sc.names.lookup x=some .local\/sc.names.lookup x=some .cell
def Look (env:Env) (h:Heap) (m:Str->Option Value) (x:Str) (u:Value):Prop:=
 (env.kindOf x=some .local/\m x=some u)\/((env.kindOf x=some .cell\/env.kindOf x=some .free)/\∃c,env.cells.lookup x=some c/\h.IsCell c (some u))
structure Cx.Ok (X:Cx):Prop where
 mod:Mod X.K X.mg X.base
 kind:X.env.scope.kind=.function
 glob:X.env.globals=mainGlobals
 blt:X.env.builtins=builtinsNs
 above:X.s₀.heap.objs.size<=X.env.locals
 inj:∀x y c,X.env.cells.lookup x=some c->X.env.cells.lookup y=some c->x=y
 has:∀x,(X.env.kindOf x=some .cell\/X.env.kindOf x=some .free)->∃c,X.env.cells.lookup x=some c
 cab:∀x c,X.fn x=true->X.env.cells.lookup x=some c->X.s₀.heap.objs.size<=c
 hd:X.calm=true->X.A.handled=none
 frames:X.A.frames=some X.stack
 stk:X.stack=X.outer\/(X.stack=X.env::X.outer/\X.env.frame=some X.env.locals)
 exf:∀b∈X.ex,b≠X.env.locals/\∀x c,X.env.cells.lookup x=some c->c≠b
 bs:∀b o,X.base.get? b=some o->X.s₀.heap.get? b=some o/\X.H₀ b=none
 bsz:X.base.objs.size<=X.s₀.heap.objs.size
 noex:∀b o,X.base.get? b=some o->b∉X.ex
 exfs:∀b∈X.ex,b∉X.fs
 funs:X.s₀.heap.FunFrames X.base X.outer
 frf:∀b∈X.fs,X.H₀ b=none
structure Inv (X:Cx) (j8:List (Addr×Obj)) (σ:List (Option V)) (H:Hp) (s:Shared):Prop where
 ok:X.Ok
 os:s.os=X.s₀.os
 bare:AllBare s.gens
 base:Un X.fs X.ex X.H₀ H X.s₀.heap s.heap
 loc:∃m,s.heap.Ns X.env.locals m/\∀(i:Nat) (x:Str) (v:V),X.N[i]?=some x->σ[i]?=some (some v)->Vis X.env.scope x->∃u,RelV v u/\Look X.env s.heap m x u
 cell:∀x c,X.env.cells.lookup x=some c->∃v,s.heap.IsCell c v
 free:H X.env.locals=none
 freeC:∀x c,X.env.cells.lookup x=some c->H c=none
 pin:∀p∈X.pn++j8,s.heap.get? p.1=some p.2/\H p.1=none/\p.1≠X.env.locals/\p.1∉X.fs/\∀v,p.2.data≠.cell v
 hok:HOk X.prog X.w H s.heap
 len:σ.length=X.N.length
section
variable {X:Cx}{j8:List (Addr×Obj)}{σ:List (Option V)}{H H':Hp}{s:Shared}{h':Heap}
theorem Cx.Ok.nofr (ok:X.Ok){b:Addr}{o:Obj}(e:X.base.get? b=some o):b∉X.fs:=λhb=>by
 have:=(ok.funs.mem hb).1;rw[e] at this;cases this
theorem Inv.bs (I:Inv X j8 σ H s):∀b o,X.base.get? b=some o->s.heap.get? b=some o/\H b=none:=λb o e=>
 ⟨I.base.keep b o (I.ok.bs b o e).1 (I.ok.bs b o e).2 (I.ok.nofr e) (I.ok.noex b o e),I.base.free b o (I.ok.bs b o e).1 (I.ok.bs b o e).2 (I.ok.noex b o e)⟩
theorem Inv.bk (I:Inv X j8 σ H s):∀b o,X.base.get? b=some o->s.heap.get? b=some o:=λb o e=>(I.bs b o e).1
theorem Inv.mod (I:Inv X j8 σ H s):Mod X.K X.mg X.base:=I.ok.mod
theorem Inv.kIn (I:Inv X j8 σ H s):X.K.In s.heap:=I.ok.mod.kin.keeps I.bk
theorem Inv.lt (I:Inv X j8 σ H s):X.env.locals<s.heap.objs.size:=let ⟨_,hn,_⟩:=I.loc;hn.lt
theorem Inv.sz (I:Inv X j8 σ H s):X.s₀.heap.objs.size<=s.heap.objs.size:=ZL I.ok.above (Y6 I.lt)
theorem Inv.nofs (I:Inv X j8 σ H s){a:Addr}(h:s.heap.objs.size<=a):a∉X.fs:=λhb=>by
 obtain⟨_,o,ho,_⟩:=I.ok.funs.mem hb;exact absurd (ZV (Zs ho) (ZL I.sz h)) (YT _)
theorem Inv.cne (I:Inv X j8 σ H s):∀x c,X.env.cells.lookup x=some c->c≠X.env.locals:=λx c e z=>by
 obtain⟨v,o,ho,hd⟩:=I.cell x c e;obtain⟨m,⟨o',es,ep,ho',hd',_⟩,_⟩:=I.loc;rw[z,ho'] at ho;cases ho;rw[hd'] at hd;cases hd
theorem Inv.funs (I:Inv X j8 σ H s):s.heap.FunFrames X.base X.outer:=by
 have all:∀(l:List Env),(∀b∈frs l,b∈X.fs)->X.s₀.heap.FunFrames X.base l->s.heap.FunFrames X.base l:=by
  intro l
  induction l with
  |nil=>intro _ _;trivial
  |cons env r ih=>
   intro hs hl;obtain⟨hk,⟨L,o,hf,hn,ho,hd⟩,hr⟩:=hl;have hL:L∈X.fs:=hs L (by unfold frs;rw[Yi,hf];exact Zu);obtain⟨sl,e⟩:=I.base.slot L o ho (I.ok.frf L hL) hL λz=>I.ok.exfs L z hL;exact⟨hk,⟨L,_,hf,hn,e,hd⟩,ih (λb hb=>hs b (by unfold frs;rw[Yi,hf];exact Zn _ hb)) hr⟩
 exact all X.outer (λ_ hb=>hb) I.ok.funs
theorem Inv.stack (I:Inv X j8 σ H s):s.heap.FunFrames X.base X.stack:=by
 rcases I.ok.stk with e|⟨e,hf⟩
 ·rw[e];exact I.funs
 ·rw[e];obtain⟨m,hn,_⟩:=I.loc;refine .cons (by rw[I.ok.kind];decide) hf hn ?_ I.funs;exact Heap.get?_none_of_le (ZL I.ok.bsz I.ok.above)
theorem Inv.stkSub (I:Inv X j8 σ H s):∀b∈frs X.stack,b∈X.env.locals::X.fs:=λb hb=>by
 rcases I.ok.stk with e|⟨e,hf⟩
 ·rw[e] at hb;exact Zn _ hb
 ·rw[e] at hb;unfold frs at hb;rw[Yi,hf] at hb;exact hb
theorem Inv.stkFree (I:Inv X j8 σ H s):∀b∈frs X.stack,H b=none:=λb hb=>by
 rcases ZB.mp (I.stkSub b hb) with e|hb
 ·rw[e];exact I.free
 ·obtain⟨_,o,ho,_⟩:=I.ok.funs.mem hb;exact I.base.free b o ho (I.ok.frf b hb) λz=>I.ok.exfs b z hb
theorem Inv.step {g':Array GenState}{t':Nat}{d':Drawn}{ch:List Addr}(I:Inv X j8 σ H s)
  (vT:∀b∈ch,(b∈X.ex\/X.s₀.heap.objs.size<=b)/\b≠X.env.locals/\(∀x c,X.env.cells.lookup x=some c->c≠b)/\∀p∈X.pn++j8,p.1≠b)
  (keep:∀b o,b≠X.env.locals->b∉X.fs->b∉ch->s.heap.get? b=some o->H b=none->h'.get? b=some o)
  (slot:∀b o,b≠X.env.locals->b∈X.fs->b∉ch->s.heap.get? b=some o->H b=none->∃sl,h'.get? b=some { o with slots:=sl }) (free:∀b o,b∉ch->s.heap.get? b=some o->H b=none->H' b=none)
  (there:∀b o,b∉ch->s.heap.get? b=some o->∃o',h'.get? b=some o')
  (tups:∀b xs,H b=some (.tup xs)->H' b=some (.tup xs)) (frzs:∀b o u,H b=some (.frz o u)->H' b=some (.frz o u)) (tbls:∀b ps,H b=some (.tbl ps)->∃more,H' b=some (.tbl (ps++more)))
  (ns:∀m,s.heap.Ns X.env.locals m->h'.Ns X.env.locals m) (hok:HOk X.prog X.w H' h') (hg:AllBare g') :
  Inv X j8 σ H' { s with heap:=h',gens:=g',drawn:=d',toks:=t' }:=by
 have neL:∀b o,X.s₀.heap.get? b=some o->b≠X.env.locals:=λb o e=>ZA (ZV (Zs e) I.ok.above);have neC:∀b o,X.s₀.heap.get? b=some o->b∉X.ex->b∉ch:=λb o e hx hb=>by
  rcases (vT b hb).1 with z|z
  ·exact hx z
  ·exact absurd (ZV (Zs e) z) (YT _)
 have cellK:∀x c,X.env.cells.lookup x=some c->∀v,s.heap.IsCell c v->h'.IsCell c v:=λx c e v ⟨o,ho,hd⟩=>by
  have nch:c∉ch:=λz=>(vT c z).2.2.1 x c e rfl;by_cases hc:c∈X.fs
  ·obtain⟨sl,q⟩:=slot c o (I.cne x c e) hc nch ho (I.freeC x c e);exact⟨_,q,hd⟩
  ·exact⟨o,keep c o (I.cne x c e) hc nch ho (I.freeC x c e),hd⟩
 refine⟨I.ok,I.os,hg,⟨λb o e n hb hx=>?_,λb o e n hb hx=>?_,λb o e n hx=>?_,λb o e hx=>?_,λb xs e=>tups b xs (I.base.tups b xs e),λb o xs e=>frzs b o xs (I.base.frzs b o xs e),λb ps e=>?_⟩,?_,λx c e=>?_,?_,λx c e=>?_,λp hp=>?_,hok,I.len⟩
 ·exact keep b o (neL b o e) hb (neC b o e hx) (I.base.keep b o e n hb hx) (I.base.free b o e n hx)
 ·obtain⟨sl,e1⟩:=I.base.slot b o e n hb hx;obtain⟨sl',e2⟩:=slot b _ (neL b o e) hb (neC b o e hx) e1 (I.base.free b o e n hx);exact⟨sl',e2⟩
 ·obtain⟨o',e1⟩:=I.base.there b o e hx;exact free b o' (neC b o e hx) e1 (I.base.free b o e n hx)
 ·obtain⟨o',e1⟩:=I.base.there b o e hx;exact there b o' (neC b o e hx) e1
 ·obtain⟨m1,e1⟩:=I.base.tbls b ps e;obtain⟨m2,e2⟩:=tbls b _ e1;exact⟨m1++m2,by rw[e2,Array.append_assoc]⟩
 ·obtain⟨m,hn,hl⟩:=I.loc;refine⟨m,ns m hn,λi x v e1 e2 e3=>?_⟩;obtain⟨u,r,l⟩:=hl i x v e1 e2 e3;refine⟨u,r,?_⟩;rcases l with l|⟨k,c,e,z⟩
  ·exact .inl l
  ·exact .inr ⟨k,c,e,cellK x c e _ z⟩
 ·obtain⟨v,z⟩:=I.cell x c e;exact⟨v,cellK x c e v z⟩
 ·obtain⟨m,⟨o,_,_,ho,_⟩,_⟩:=I.loc;exact free _ o (λz=>(vT _ z).2.1 rfl) ho I.free
 ·obtain⟨v,o,ho,hd⟩:=I.cell x c e;exact free c o (λz=>(vT c z).2.2.1 x c e rfl) ho (I.freeC x c e)
 ·obtain⟨e,n,ne,nf,d⟩:=I.pin p hp;have nch:p.1∉ch:=λz=>(vT p.1 z).2.2.2 p hp rfl;exact⟨keep p.1 p.2 ne nf nch e n,free p.1 p.2 nch e n,ne,nf,d⟩
theorem Inv.un {t':Nat}(I:Inv X j8 σ H s) (u:Un X.fs [] H H' s.heap h') (hok:HOk X.prog X.w H' h'):Inv X j8 σ H' { s with heap:=h',toks:=t' }:=by
 obtain⟨m,⟨o,es,ep,ho,r⟩,_⟩:=id I.loc;obtain⟨sl,hL⟩:=u.any ho I.free (by simp);exact I.step (g':=s.gens) (d':=s.drawn) (ch:=[]) (λ_ z=>nomatch z) (λb o _ hb _ e n=>u.keep b o e n hb (by simp)) (λb o _ hb _ e n=>u.slot b o e n hb (by simp)) (λb o _ e n=>u.free b o e n (by simp)) (λb o _ e=>u.there b o e (by simp)) u.tups u.frzs u.tbls (λm' hm=>by
  obtain⟨o',es',ep',ho',r'⟩:=hm;rw[ho] at ho';cases ho';exact⟨_,es',ep',hL,r'⟩) hok I.bare
theorem Inv.call {g':Array GenState}{t':Nat}{d':Drawn}{ch:List Addr}(I:Inv X j8 σ H s) (u:Un (frs X.stack) ch H H' s.heap h') (hok:HOk X.prog X.w H' h') (hg:AllBare g')
  (vT:∀b∈ch,(b∈X.ex\/X.s₀.heap.objs.size<=b)/\b≠X.env.locals/\(∀x c,X.env.cells.lookup x=some c->c≠b)/\∀p∈X.pn++j8,p.1≠b) :
  Inv X j8 σ H' { s with heap:=h',gens:=g',drawn:=d',toks:=t' }:=by
 obtain⟨m,⟨o,es,ep,ho,r⟩,_⟩:=id I.loc;obtain⟨sl,hL⟩:=u.any ho I.free λz=>(vT _ z).2.1 rfl;exact I.step (ch:=ch) vT (λb o hL hb hc e n=>u.keep b o e n (λz=>(ZB.mp (I.stkSub b z)).elim hL hb) hc) (λb o _ _ hc e n=>u.any e n hc) (λb o hc e n=>u.free b o e n hc) (λb o hc e=>u.there b o e hc) u.tups u.frzs u.tbls (λm' hm=>by
  obtain⟨o',es',ep',ho',r'⟩:=hm;rw[ho] at ho';cases ho';exact⟨_,es',ep',hL,r'⟩) hok hg
theorem Inv.turned {t':Nat}{it:Addr}(I:Inv X j8 σ H s) (k:∀b o,b≠it->s.heap.get? b=some o->h'.get? b=some o) (hn:H it=none) (hL:it≠X.env.locals)
  (h1:it∈X.ex\/X.s₀.heap.objs.size<=it) (h2:∀x c,X.env.cells.lookup x=some c->c≠it) (h3:∀p∈X.pn++j8,p.1≠it):Inv X j8 σ H { s with heap:=h',toks:=t' }:=by
 have nit:∀b u,H b=some u->b≠it:=λb u e z=>by rw[z,hn] at e;cases e
 refine I.step (g':=s.gens) (d':=s.drawn) (ch:=[it]) (λb hb=>?_) (λb o _ _ hc e _=>k b o (λz=>hc (by simp[z])) e) (λb o _ _ hc e _=>⟨o.slots,k b o (λz=>hc (by simp[z])) e⟩) (λ_ _ _ _ n=>n)
  (λb o hc e=>⟨o,k b o (λz=>hc (by simp[z])) e⟩) (λ_ _ e=>e) (λ_ _ _ e=>e) (λb ps e=>⟨#[],by rw[e];simp⟩) (λm hm=>?_) (λb u e=>?_) I.bare
 ·have e:b=it:=by simpa using hb
  subst e;exact⟨h1,hL,h2,h3⟩
 ·obtain⟨o,es,ep,ho,r⟩:=hm;exact⟨o,es,ep,k _ o (Yx hL) ho,r⟩
 ·refine (I.hok b u e).stay (λc v hc q=>k c v ?_ q) (λ_ q=>q) λ_ _ q=>q;rcases hc with z|z
  ·rw[z];exact nit b u e
  ·exact nit c _ z
theorem Inv.tok (I:Inv X j8 σ H s) (t:Nat):Inv X j8 σ H { s with toks:=t }:=I.un (h':=s.heap) (t':=t) Un.refl I.hok
theorem Inv.kept {t':Nat}(I:Inv X j8 σ H s) (k:∀b u,s.heap.get? b=some u->h'.get? b=some u):Inv X j8 σ H { s with heap:=h',toks:=t' }:=I.un (Un.kept k) (I.hok.kept k)
theorem Inv.laid {a:Addr}{o:HO}{t':Nat}(I:Inv X j8 σ H s) (k:∀b u,s.heap.get? b=some u->h'.get? b=some u) (hp:s.heap.objs.size<=a) (new:ObjOk X.prog X.w (upd H a o) h' a o) :
  Inv X j8 σ (upd H a o) { s with heap:=h',toks:=t' }:=I.un (Un.laid k hp (I.hok.fresh hp)) (I.hok.laid k hp new)
theorem Inv.write {x e:Addr}{o:HO}{t':Nat}(I:Inv X j8 σ H s) (mu:Mut (H x)) (he:e=x\/H e=some (.own x)) (k:∀b u,b≠e->s.heap.get? b=some u->h'.get? b=some u) (heo:∃u,h'.get? e=some u)
  (new:ObjOk X.prog X.w (upd H x o) h' x o):Inv X j8 σ (upd H x o) { s with heap:=h',toks:=t' }:=I.un (Un.write mu he k heo) (I.hok.write mu he k heo new)
theorem Inv.pins_of {pins':List (Addr×Obj)}(I:Inv X j8 σ H s) (h:∀p∈pins',s.heap.get? p.1=some p.2/\H p.1=none/\p.1≠X.env.locals/\p.1∉X.fs/\∀v,p.2.data≠.cell v):Inv X pins' σ H s:=
 ⟨I.ok,I.os,I.bare,I.base,I.loc,I.cell,I.free,I.freeC,λp hp=>(Z6.mp hp).elim (λz=>I.pin p (X8 _ z)) (h p),I.hok,I.len⟩
theorem qT8 {N:List Str}(hN:N.Nodup){i j:Nat}{x:Str}(a:N[i]?=some x) (b:N[j]?=some x):i=j:=by
 obtain⟨h1,e1⟩:=gS_ a;obtain⟨h2,e2⟩:=gS_ b;exact (List.getElem_inj hN).mp (e1.trans e2.symm)
theorem q50 {M:Model}{A:Around}{E:Value->Shared->Prop}{i:Nat}{x:Str}{v:V}{u:Value}{Q:Unit->Shared->Prop}(I:Inv X j8 σ H s) (hN:X.N.Nodup) (hi:X.N[i]?=some x) (hx:Loc X.env.scope x) (r:RelV v u)
  (h:∀s',Inv X j8 (σ.set i (some v)) H s'->(∃a,Heap.SameBut a s.heap s'.heap/\(a=X.env.locals\/X.env.cells.lookup x=some a))->Q () s') (hf:X.fn x=true\/X.env.scope.names.lookup x=some .local:=by first|exact .inl rfl|exact .inr rfl|assumption):wpAny M A (storeName X.env x u) Q E s:=by
 obtain⟨m,hn,hl⟩:=id I.loc;have hcls:(X.env.scope.kind==.class||(X.env.scope.kind==.module&&X.env.locals != X.env.globals))=false:=by rw[I.ok.kind];rfl
 have hiσ:i<σ.length:=by rw[I.len];exact (gS_ hi).1
 have cne:=I.cne;have tracked:∀{a:Addr}{h':Heap},(∃o,s.heap.get? a=some o/\H a=none)->Heap.SameBut a s.heap h'->HOk X.prog X.w H h':=λ{a h'} ha hs b ob e=>by
  obtain⟨_,_,hfree⟩:=ha;refine (I.hok b ob e).stay (λc w' hc q=>(hs.2 c ?_).trans q) (λ_ q=>q) λ_ _ q=>q;rintro rfl;rcases hc with rfl|hc
  ·rw[hfree] at e;cases e
  ·rw[hfree] at hc;cases hc
 rcases hx with hk|hk
 ·refine wpAny_storeName_local hk hn (λh' hn' hs=>?_) hcls;obtain⟨oL,_,_,hoL,_⟩:=id hn;refine h _ ⟨I.ok,I.os,I.bare,⟨λb o e n hb hx=>?_,λb o e n hb hx=>?_,I.base.free,λb o e hx=>?_,I.base.tups,I.base.frzs,I.base.tbls⟩,⟨_,hn',λj y v' e1 e2 e3=>?_⟩,λy c e=>?_,I.free,I.freeC,λp hp=>?_,tracked ⟨oL,hoL,I.free⟩ hs,by simpa using I.len⟩ ⟨_,hs,.inl rfl⟩
  ·exact (hs.2 b (ZA (ZV (Zs e) I.ok.above))).trans (I.base.keep b o e n hb hx)
  ·obtain⟨sl,e1⟩:=I.base.slot b o e n hb hx;exact⟨sl,(hs.2 b (ZA (ZV (Zs e) I.ok.above))).trans e1⟩
  ·obtain⟨o',e1⟩:=I.base.there b o e hx;exact⟨o',(hs.2 b (ZA (ZV (Zs e) I.ok.above))).trans e1⟩
  ·by_cases hj:j=i
   ·subst hj;rw[hi] at e1;cases e1;rw[List.getElem?_set_self hiσ] at e2;cases e2;exact⟨u,r,.inl ⟨hk,by simp⟩⟩
   ·rw[List.getElem?_set_ne (Yx hj)] at e2;obtain⟨u',r',q⟩:=hl j y v' e1 e2 e3;refine⟨u',r',?_⟩;rcases q with ⟨k,e⟩|⟨k,c,e,z⟩
    ·refine .inl ⟨k,?_⟩;have:y≠x:=λe=>hj (qT8 hN e1 (e▸hi));simp[this,e]
    ·exact .inr ⟨k,c,e,z.sameBut hs (cne y c e)⟩
  ·obtain⟨w',z⟩:=I.cell y c e;exact⟨w',z.sameBut hs (cne y c e)⟩
  ·obtain⟨e,n,ne,nf,d⟩:=I.pin p hp;exact⟨(hs.2 p.1 ne).trans e,n,ne,nf,d⟩
 ·have hfn:X.fn x=true:=by
   rcases hf with z|z
   ·exact z
   ·rw[z] at hk;cases hk
  obtain⟨c,hc⟩:=I.ok.has x (.inl hk);obtain⟨w',z⟩:=I.cell x c hc;refine wpAny_storeName_cell I.ok.kind hk hc z (λh' hc' hs=>?_);obtain⟨oc,hoc,hocd⟩:=id z;refine h { s with heap:=h' } ⟨I.ok,I.os,I.bare,⟨λb o e n hb hx=>?_,λb o e n hb hx=>?_,I.base.free,λb o e hx=>?_,I.base.tups,I.base.frzs,I.base.tbls⟩,⟨m,hn.sameBut hs (Yx (cne x c hc)),λj y v' e1 e2 e3=>?_⟩,λy c' e=>?_,I.free,I.freeC,λp hp=>?_,tracked ⟨oc,hoc,I.freeC x c hc⟩ hs,by simpa using I.len⟩ ⟨c,hs,.inr hc⟩
  ·exact (hs.2 b (ZA (ZV (Zs e) (I.ok.cab x c hfn hc)))).trans (I.base.keep b o e n hb hx)
  ·obtain⟨sl,e1⟩:=I.base.slot b o e n hb hx;exact⟨sl,(hs.2 b (ZA (ZV (Zs e) (I.ok.cab x c hfn hc)))).trans e1⟩
  ·obtain⟨o',e1⟩:=I.base.there b o e hx;exact⟨o',(hs.2 b (ZA (ZV (Zs e) (I.ok.cab x c hfn hc)))).trans e1⟩
  ·by_cases hj:j=i
   ·subst hj;rw[hi] at e1;cases e1;rw[List.getElem?_set_self hiσ] at e2;cases e2;exact⟨u,r,.inr ⟨.inl hk,c,hc,hc'⟩⟩
   ·rw[List.getElem?_set_ne (Yx hj)] at e2;obtain⟨u',r',q⟩:=hl j y v' e1 e2 e3;refine⟨u',r',?_⟩;rcases q with q|⟨k,c',e,z'⟩
    ·exact .inl q
    ·refine .inr ⟨k,c',e,z'.sameBut hs ?_⟩;rintro rfl;exact hj (qT8 hN e1 (I.ok.inj _ _ _ e hc▸hi))
  ·by_cases hcc:c'=c
   ·subst hcc;exact⟨_,hc'⟩
   ·obtain⟨w2,z2⟩:=I.cell y c' e;exact⟨w2,z2.sameBut hs hcc⟩
  ·obtain⟨e,n,ne,nf,d⟩:=I.pin p hp;refine⟨(hs.2 p.1 ?_).trans e,n,ne,nf,d⟩;intro q;rw[q,hoc] at e;have q':oc=p.2:=Zv e;exact d w' (by rw[<- q'];exact hocd)
theorem qF9 {M:Model}{A:Around}{E:Value->Shared->Prop}{i:Nat}{x:Str}{v:V}{u:Value}{Q:Unit->Shared->Prop}(I:Inv X j8 σ H s) (hN:X.N.Nodup) (hi:X.N[i]?=some x) (hx:Loc X.env.scope x) (r:RelV v u)
  (h:∀s',Inv X j8 (σ.set i (some v)) H s'->Q () s') (hf:X.fn x=true\/X.env.scope.names.lookup x=some .local:=by first|exact .inl rfl|exact .inr rfl|assumption):wpAny M A (storeName X.env x u) Q E s:=
 q50 I hN hi hx r (λs' I' _=>h s' I') hf
theorem Inv.call' {s':Shared}{ch:List Addr}(I:Inv X j8 σ H s) (ho:s'.os=s.os) (u:Un (frs X.stack) ch H H' s.heap s'.heap) (hok:HOk X.prog X.w H' s'.heap) (hg:AllBare s'.gens)
  (vT:∀b∈ch,(b∈X.ex\/X.s₀.heap.objs.size<=b)/\b≠X.env.locals/\(∀x c,X.env.cells.lookup x=some c->c≠b)/\∀p∈X.pn++j8,p.1≠b):Inv X j8 σ H' s':=by
 obtain⟨h',g',d',t',o'⟩:=s';have e:o'=s.os:=ho;subst e;exact I.call (g':=g') (t':=t') (d':=d') u hok hg vT
end
abbrev XK:=Value->Option Addr->Hp->Prop
abbrev St:=List (Option V)
abbrev VK:=V->Hp->Prop
abbrev TE:=St->Hp->VK->Prop
abbrev TT:=St->Hp->(Bool->Hp->Prop)->Prop
abbrev TA:=St->Hp->(List V->Hp->Prop)->Prop
structure Ends where
 nx:St->Hp->Prop
 rt:VK
 bk:St->Hp->Prop:=λ_ _=>False
 ct:St->Hp->Prop:=λ_ _=>False
abbrev TS:=Ends->St->Hp->Prop
def EP (X:Cx) (j8:List (Addr×Obj)) (σ:St) (Q:VK) (u:Value) (s':Shared):Prop:=∃v H',Inv X j8 σ H' s'/\RelV v u/\Q v H'
def TP (X:Cx) (j8:List (Addr×Obj)) (σ:St) (Q:Bool->Hp->Prop) (b:Bool) (s':Shared):Prop:=∃H',Inv X j8 σ H' s'/\Q b H'
def AP (X:Cx) (j8:List (Addr×Obj)) (σ:St) (Q:List V->Hp->Prop) (us:List Value) (s':Shared):Prop:=∃vs H',Inv X j8 σ H' s'/\Vals vs us/\Q vs H'
def SP (X:Cx) (j8:List (Addr×Obj)) (D:Ends) (f:Flow) (s':Shared):Prop:=
 match f with
 |.next=>∃σ' H',Inv X j8 σ' H' s'/\D.nx σ' H'
 |.brk=>∃σ' H',Inv X j8 σ' H' s'/\D.bk σ' H'
 |.cont=>∃σ' H',Inv X j8 σ' H' s'/\D.ct σ' H'
 |.ret u=>∃v σ' H',Inv X j8 σ' H' s'/\RelV v u/\D.rt v H'
def PE (X:Cx) (e:Expr) (t:TE):Prop:=
 ∀(j8:List (Addr×Obj)) (s:Shared) (σ:St) (H:Hp) (Q:VK),Inv X j8 σ H s->t σ H Q->wpAny (model X.prog X.w) X.A (eval e X.env) (EP X j8 σ Q) X.xe s
def PT (X:Cx) (e:Expr) (t:TT):Prop:=
 ∀(j8:List (Addr×Obj)) (s:Shared) (σ:St) (H:Hp) (Q:Bool->Hp->Prop),Inv X j8 σ H s->t σ H Q->wpAny (model X.prog X.w) X.A (isTrue e X.env (eval e X.env)) (TP X j8 σ Q) X.xe s
def PW (X:Cx) (e:Expr) (t:TT):Prop:=
 ∀(whole:Sem Value) (j8:List (Addr×Obj)) (s:Shared) (σ:St) (H:Hp) (Q:Bool->Hp->Prop),Inv X j8 σ H s->t σ H Q->wpAny (model X.prog X.w) X.A (isTrue e X.env whole) (TP X j8 σ Q) X.xe s
theorem PW.pt {X:Cx}{e:Expr}{t:TT}(h:PW X e t):PT X e t:=h _
def PA (X:Cx) (es:List Expr) (t:TA):Prop:=
 ∀(pos:Pos) (j8:List (Addr×Obj)) (s:Shared) (σ:St) (H:Hp) (Q:List V->Hp->Prop),Inv X j8 σ H s->t σ H Q->wpAny (model X.prog X.w) X.A (spliced (backTo pos (starEach es X.env))) (AP X j8 σ Q) X.xe s
def PS (X:Cx) (st:Stmt) (t:TS):Prop:=
 ∀(j8:List (Addr×Obj)) (s:Shared) (σ:St) (H:Hp) (D:Ends),Inv X j8 σ H s->t D σ H->wpAny (model X.prog X.w) X.A (exec st X.env) (SP X j8 D) X.xe s
def PSs (X:Cx) (st:List Stmt) (t:TS):Prop:=
 ∀(j8:List (Addr×Obj)) (s:Shared) (σ:St) (H:Hp) (D:Ends),Inv X j8 σ H s->t D σ H->wpAny (model X.prog X.w) X.A (execs st X.env) (SP X j8 D) X.xe s
theorem thn {α:Type}{t:Sem α}{Q Q':α->Shared->Prop}{M:Model}{A:Around}{E:Value->Shared->Prop}{s:Shared}(h:wpAny M A t Q E s) (hQ:∀a s,Q a s->Q' a s):wpAny M A t Q' E s:=Y0 h hQ λ_ _ x=>x
section
variable {X:Cx}
def tVar (i:Nat):TE:=λσ H Q=>∃v,σ[i]?=some (some v)/\Q v H
def tC (v:V):TE:=λ_ H Q=>Q v H
theorem xA2 {i:Nat}{x:Str}{pos:Pos}(hN:X.N[i]?=some x) (hv:Vis X.env.scope x) (hd:(x==("__debug__" : Str))=false:=by decide) (vB:(x==("__classdict__" : Str))=false:=by decide):PE X (.Name x pos) (tVar i):=by
 intro j8 s σ H Q I h;obtain⟨v,e,h⟩:=h;obtain⟨m,hn,hl⟩:=I.loc;obtain⟨u,r,l⟩:=hl i x v hN e hv;have fin:EP X j8 σ Q u s:=⟨v,H,I,r,h⟩;rcases l with ⟨hk,hm⟩|⟨hk,c,hc,jC⟩
 ·exact wpAny_Name (wpAny_loadName_local I.ok.kind hk hn hm fin) hd
 ·rcases hk with hk|hk
  ·exact wpAny_Name (wpAny_loadName_cell I.ok.kind hk hc jC fin) hd
  ·exact wpAny_Name (wpAny_loadName_free I.ok.kind hk hc jC fin vB) hd
theorem qa6 {i j pos}:PE X (.Constant (.int i) j pos) (tC (.int i)):=λ_ _ _ H _ I h=>wpAny_Constant_int ⟨.int i,H,I.tok _,⟨_,rfl⟩,h⟩
theorem qo7 {b j pos}:PE X (.Constant (.bool b) j pos) (tC (.bl b)):=λ_ _ _ H _ I h=>Constant_bool ⟨.bl b,H,I,rfl,h⟩
theorem qT9 {x j pos}:PE X (.Constant (.str x) j pos) (tC (.str x)):=λ_ _ _ H _ I h=>Calls.Constant_str ⟨.str x,H,I.tok _,⟨_,rfl⟩,h⟩
def Gl (X:Cx) (x:Str):Prop:=X.env.kindOf x=some .globalImplicit
theorem qR2 {E:Value->Shared->Prop}{j8:List (Addr×Obj)}{s:Shared}{σ:St}{H:Hp}{x:Str}{u:Value}{pos:Pos}{Q:Value->Shared->Prop}(I:Inv X j8 σ H s) (hg:Gl X x) (hm:X.mg x=some u) (h:Q u s)
  (hd:(x==("__debug__" : Str))=false:=by decide):wpAny (model X.prog X.w) X.A (eval (.Name x pos) X.env) Q E s:=
 Calls.Name_function_global I.ok.kind hg (Calls.loadGlobal_global (by rw[I.ok.glob];exact I.mod.glob.keeps I.bk) hm h) hd
theorem qC8 {E:Value->Shared->Prop}{j8:List (Addr×Obj)}{s:Shared}{σ:St}{H:Hp}{x:Str}{u:Value}{pos:Pos}{Q:Value->Shared->Prop}(I:Inv X j8 σ H s) (hg:Gl X x) (hm:X.mg x=none) (hv:bootBuiltins x=some u) (h:Q u s)
  (hn:x ≠ "__name__":=by decide) (hd:(x==("__debug__" : Str))=false:=by decide):wpAny (model X.prog X.w) X.A (eval (.Name x pos) X.env) Q E s:=by
 obtain⟨mb,h1,h2⟩:=I.mod.blt;exact Calls.Name_function_global I.ok.kind hg (Calls.loadGlobal_builtin (by rw[I.ok.glob];exact I.mod.glob.keeps I.bk) hm (by rw[I.ok.blt];exact h1.keeps I.bk) ((h2 x hn).trans hv) h) hd
theorem qd6 {x:Str}{v:V}{u:Value}{pos:Pos}(hg:Gl X x) (hm:X.mg x=some u) (r:RelV v u) (hd:(x==("__debug__" : Str))=false:=by decide):PE X (.Name x pos) (tC v):=
 λ_ _ _ H _ I h=>qR2 I hg hm ⟨v,H,I,r,h⟩ hd
theorem qm1 {x:Str}{v:V}{u:Value}{pos:Pos}(hg:Gl X x) (hm:X.mg x=none) (hv:bootBuiltins x=some u) (r:RelV v u) (hn:x ≠ "__name__":=by decide) (hd:(x==("__debug__" : Str))=false:=by decide):PE X (.Name x pos) (tC v):=
 λ_ _ _ H _ I h=>qC8 I hg hm hv ⟨v,H,I,r,h⟩ hn hd
variable {a b:Expr}{ta tb:TE}{pos:Pos}
def PC (X:Cx) (op:CmpOp) (a b:Expr) (t:TE):Prop:=
 ∀(j8:List (Addr×Obj)) (s:Shared) (σ:St) (H:Hp) (Q:VK),Inv X j8 σ H s->t σ H Q ->
  wpAny (model X.prog X.w) X.A (eval a X.env) (λv s₁=>wpAny (model X.prog X.w) X.A (eval b X.env) (λu s₂=>wpAny (model X.prog X.w) X.A (compareOp op v u) (EP X j8 σ Q) X.xe s₂) X.xe s₁) X.xe s
def tB (t:TE):TT:=λσ H Q=>t σ H λx H1=>∃c,x=.bl c/\Q c H1
theorem qx9 {op:CmpOp}{t:TE}(h:PC X op a b t) (h1:behindInMarks op b=false:=by first|exact nobehind _ (by decide) (by decide)|rfl):PT X (.Compare a [op] [b] pos) (tB t):=by
 intro j8 s σ H Q I hw;refine wpAny_isTrue_Compare1 (thn (h j8 s σ H _ I hw) λv s1 h1=>thn h1 λu s2 h2=>thn h2 λc s3 ⟨x,H1,I1,r1,q1⟩=>?_) h1;obtain⟨d,rfl,q⟩:=q1;cases r1;exact Ys ⟨H1,I1,q⟩
theorem qe6 {e:Expr}{t:TE}(h:PE X e t) (he:∀whole,isTrue e X.env whole=(do let v <- whole;standAt e.pos;holding [v] (truthy v)):=by intro _;rfl):PT X e (tB t):=by
 intro j8 s σ H Q I hw;refine isTrue_plain (thn (h j8 s σ H _ I hw) λv s1 ⟨x,H1,I1,r1,q1⟩=>?_) (he _);obtain⟨d,rfl,q⟩:=q1;cases r1;exact Ys ⟨H1,I1,q⟩
variable {tA tB':TT}{rest:List Expr}
def tAnd (t u:TT):TT:=λσ H Q=>t σ H λc H1=>if c=true then u σ H1 Q else Q false H1
def tOr (t u:TT):TT:=λσ H Q=>t σ H λc H1=>if c=true then Q true H1 else u σ H1 Q
def tNot (t:TT):TT:=λσ H Q=>t σ H λc H1=>Q (!c) H1
theorem qG0 (ha:PT X a tA):PW X (.BoolOp .And [a] pos) tA:=by
 intro wh j8 s σ H Q I h;refine isTrue_and (thn (ha j8 s σ H Q I h) λc s1 e=>?_);cases c with
 |true=>exact isTrue_and_nil e
 |false=>exact e
theorem qi8 (ha:PT X a tA):PW X (.BoolOp .Or [a] pos) tA:=by
 intro wh j8 s σ H Q I h;refine isTrue_or (thn (ha j8 s σ H Q I h) λc s1 e=>?_);cases c with
 |false=>exact isTrue_or_nil e
 |true=>exact e
theorem qU0 (ha:PT X a tA) (hb:PW X (.BoolOp .And (b::rest) pos) tB'):PW X (.BoolOp .And (a::b::rest) pos) (tAnd tA tB'):=by
 intro wh j8 s σ H Q I h;refine isTrue_and (thn (ha j8 s σ H _ I h) λc s1 ⟨H1,I1,q1⟩=>?_);cases c with
 |true=>exact hb wh j8 s1 σ H1 Q I1 q1
 |false=>exact⟨H1,I1,q1⟩
theorem qk1 (ha:PT X a tA) (hb:PW X (.BoolOp .Or (b::rest) pos) tB'):PW X (.BoolOp .Or (a::b::rest) pos) (tOr tA tB'):=by
 intro wh j8 s σ H Q I h;refine isTrue_or (thn (ha j8 s σ H _ I h) λc s1 ⟨H1,I1,q1⟩=>?_);cases c with
 |true=>exact⟨H1,I1,q1⟩
 |false=>exact hb wh j8 s1 σ H1 Q I1 q1
theorem qg9 (ha:PT X a tA):PT X (.UnaryOp .Not a pos) (tNot tA):=by
 intro j8 s σ H Q I h;exact isTrue_not (ha j8 s σ H (λc H1=>Q (!c) H1) I h)
def xH9 (ta tb:TE):TE:=λσ H Q=>ta σ H λx H1=>∃c,x=.bl c/\if c=true then tb σ H1 Q else Q (.bl false) H1
def xI0 (ta:TE):TE:=λσ H Q=>ta σ H λx H1=>∃c,x=.bl c/\Q (.bl (!c)) H1
theorem qy0 {op}{t:TE}(h:PE X a t):PE X (.BoolOp op [a] pos) t:=λj8 s σ H Q I hw=>BoolOp_one (h j8 s σ H Q I hw)
theorem qy1 (ha:PE X a ta) (hb:PE X (.BoolOp .And (b::rest) pos) tb):PE X (.BoolOp .And (a::b::rest) pos) (xH9 ta tb):=by
 intro j8 s σ H Q I h;refine BoolOp_and (thn (ha j8 s σ H _ I h) λv s1 ⟨x,H1,I1,r1,q1⟩=>?_);obtain⟨c,rfl,q1⟩:=q1;cases r1;refine Ys ?_;cases c with
 |true=>exact hb j8 s1 σ H1 Q I1 q1
 |false=>exact⟨.bl false,H1,I1,rfl,q1⟩
theorem xA3 (ha:PE X a ta):PE X (.UnaryOp .Not a pos) (xI0 ta):=by
 intro j8 s σ H Q I h;refine UnaryOp_ (thn (ha j8 s σ H _ I h) λv s1 ⟨x,H1,I1,r1,q1⟩=>?_);obtain⟨c,rfl,q1⟩:=q1;cases r1;exact not_of (Ys ⟨.bl (!c),H1,I1,rfl,q1⟩)
end
def SqL (K:PySem.W.Frag) (H:Hp) (a:Addr) (xs:List V):Prop:=
 Rd H a (.lst xs) \/
  ∃(o:Obj) (its:Array Value) (n:Nat),K.lookup a=some o/\o.cls=.type "list" /\ o.dict=none/\o.data=.seq its n/\its.size<=sizeLine/\Vals xs its.toList
def SqT (K:PySem.W.Frag) (H:Hp) (a:Addr) (xs:List V):Prop:=
 Rd H a (.tup xs) \/
  ∃(o:Obj) (its:Array Value) (n:Nat),K.lookup a=some o/\o.cls=.type "tuple" /\ o.data=.seq its n/\its.size<=sizeLine/\Vals xs its.toList
def absV:Value->Option V
 |.none=>some .non
 |.bool b=>some (.bl b)
 |.int i _=>some (.int i)
 |.str x _=>some (.str x)
 |.bytes b _=>some (.byt b)
 |.float b _=>some (.flt b)
 |.ref a=>some (.ref a)
 |.type n=>some (.ty n)
 |_=>none
theorem RelV.abs {x:V}{u:Value}(r:RelV x u):absV u=some x:=by
 cases x with
 |non=>cases r;rfl
 |bl _=>cases r;rfl
 |int _=>obtain⟨t,rfl⟩:=r;rfl
 |str _=>obtain⟨t,rfl⟩:=r;rfl
 |byt _=>obtain⟨t,rfl⟩:=r;rfl
 |flt _=>obtain⟨t,rfl⟩:=r;rfl
 |ref _=>cases r;rfl
 |ty _=>cases r;rfl
theorem RelV.inj {x y:V}{u:Value}(r:RelV x u) (q:RelV y u):x=y:=Zv (r.abs.symm.trans q.abs)
theorem Vals.inj:∀{xs ys:List V}{us:List Value},Vals xs us->Vals ys us->xs=ys
 |_,_,_,.nil,.nil=>rfl
 |_,_,_,.cons r t,.cons r' t'=>by rw[r.inj r',Vals.inj t t']
section
variable {X:Cx}{j8:List (Addr×Obj)}{σ:St}{H:Hp}{s:Shared}{a:Addr}{xs ys:List V}
theorem SqL.of {K:PySem.W.Frag}(h:H a=some (.lst xs)):SqL K H a xs:=.inl (.inl h)
theorem SqT.of {K:PySem.W.Frag}(h:H a=some (.tup xs)):SqT K H a xs:=.inl (.inl h)
theorem Inv.list (I:Inv X j8 σ H s) (h:SqL X.K H a xs):∃its:List Value,Vals xs its/\PlainL s.heap a its.toArray/\xs.length<=sizeLine:=by
 rcases h with h|⟨o,its,n,hk,hc,hd,hs,hz,r⟩
 ·obtain⟨z,its,n,r,e⟩:=h.ok I.hok;exact⟨its,r,⟨_,n,e,rfl,rfl,rfl⟩,z⟩
 ·refine⟨its.toList,r,⟨o,n,I.kIn a o hk,hc,hd,by simpa using hs⟩,?_⟩;have e:=r.length;simp only[ZT] at e;lia
theorem Inv.tuple (I:Inv X j8 σ H s) (h:SqT X.K H a xs):∃its:List Value,Vals xs its/\IsTup s.heap a its.toArray/\xs.length<=sizeLine:=by
 rcases h with h|⟨o,its,n,hk,hc,hs,hz,r⟩
 ·obtain⟨z,its,r,p⟩:=h.ok I.hok;exact⟨its,r,p,z⟩
 ·refine⟨its.toList,r,⟨o,I.kIn a o hk,hc,n,by simpa using hs⟩,?_⟩;have e:=r.length;simp only[ZT] at e;lia
theorem Inv.list_inj (I:Inv X j8 σ H s) (h:SqL X.K H a xs) (h':SqL X.K H a ys):xs=ys:=by
 obtain⟨its,r,⟨o,n,e,_,_,d⟩,_⟩:=I.list h;obtain⟨its',r',⟨o',n',e',_,_,d'⟩,_⟩:=I.list h';rw[e] at e';cases e';rw[d] at d';injection d' with d1 _
 have:its=its':=by simpa using Yt Array.toList d1
 subst this;exact r.inj r'
theorem Inv.tuple_inj (I:Inv X j8 σ H s) (h:SqT X.K H a xs) (h':SqT X.K H a ys):xs=ys:=by
 obtain⟨its,r,⟨o,e,_,n,d⟩,_⟩:=I.tuple h;obtain⟨its',r',⟨o',e',_,n',d'⟩,_⟩:=I.tuple h';rw[e] at e';cases e';rw[d] at d';injection d' with d1 _
 have:its=its':=by simpa using Yt Array.toList d1
 subst this;exact r.inj r'
end
abbrev Cx.wish (X:Cx) (E:Value->Shared->Prop):Cx:={ X with xe:=E }
abbrev Cx.nox (X:Cx):Cx:=X.wish λ_ _=>False
theorem Cx.Ok.wish {X:Cx}(ok:X.Ok) (E:Value->Shared->Prop):(X.wish E).Ok:=
 ⟨ok.mod,ok.kind,ok.glob,ok.blt,ok.above,ok.inj,ok.has,ok.cab,ok.hd,ok.frames,ok.stk,ok.exf,ok.bs,ok.bsz,ok.noex,ok.exfs,ok.funs,ok.frf⟩
theorem Cx.Ok.unwish {X:Cx}{E:Value->Shared->Prop}(ok:(X.wish E).Ok):X.Ok:=
 ⟨ok.mod,ok.kind,ok.glob,ok.blt,ok.above,ok.inj,ok.has,ok.cab,ok.hd,ok.frames,ok.stk,ok.exf,ok.bs,ok.bsz,ok.noex,ok.exfs,ok.funs,ok.frf⟩
section
variable {X:Cx}{j8:List (Addr×Obj)}{σ:St}{H:Hp}{s:Shared}{E:Value->Shared->Prop}
theorem Inv.wish (I:Inv X j8 σ H s) (E:Value->Shared->Prop):Inv (X.wish E) j8 σ H s:=⟨I.ok.wish E,I.os,I.bare,I.base,I.loc,I.cell,I.free,I.freeC,I.pin,I.hok,I.len⟩
theorem Inv.unwish (I:Inv (X.wish E) j8 σ H s):Inv X j8 σ H s:=⟨I.ok.unwish,I.os,I.bare,I.base,I.loc,I.cell,I.free,I.freeC,I.pin,I.hok,I.len⟩
theorem SP.unwish {D:Ends}{f:Flow}{s':Shared}(h:SP (X.wish E) j8 D f s'):SP X j8 D f s':=by
 cases f with
 |next=>obtain⟨σ',H',I,q⟩:=h;exact⟨σ',H',I.unwish,q⟩
 |brk=>obtain⟨σ',H',I,q⟩:=h;exact⟨σ',H',I.unwish,q⟩
 |cont=>obtain⟨σ',H',I,q⟩:=h;exact⟨σ',H',I.unwish,q⟩
 |ret u=>obtain⟨v,σ',H',I,r,q⟩:=h;exact⟨v,σ',H',I.unwish,r,q⟩
theorem PSs.nox {st:List Stmt}{t:TS}(h:PSs X.nox st t):PSs X st t:=λj8 s σ H D I hw=>
 Y0 (h j8 s σ H D (I.wish _) hw) (λ_ _ q=>q.unwish) λ_ _ z=>False.elim z
end
section
variable {X:Cx}{st:Stmt}{rest:List Stmt}{t u:TS}{e:Expr}{te:TE}{pos:Pos}
def xI1:TS:=λD σ H=>D.nx σ H
def tSeq (t u:TS):TS:=λD σ H=>t { D with nx:=u D } σ H
theorem qb6:PSs X [] xI1:=λ_ _ σ H _ I h=>W8 ⟨σ,H,I,h⟩
theorem qb9 (h1:PS X st t) (h2:PSs X rest u):PSs X (st::rest) (tSeq t u):=by
 intro j8 s σ H D I h;refine wpAny_execs_cons (thn (h1 j8 s σ H { D with nx:=u D } I h) λf s1 q=>?_);cases f with
 |next=>
  obtain⟨σ',H',I',q⟩:=q;exact h2 j8 s1 σ' H' D I' q
 |ret v=>exact q
 |brk=>exact q
 |cont=>exact q
theorem qa8 (h1:PS X st t):PSs X [st] t:=by
 intro j8 s σ H D I h;refine wpAny_execs_cons (thn (h1 j8 s σ H D I h) λf s1 q=>?_);cases f with
 |next=>exact W8 q
 |ret v=>exact q
 |brk=>exact q
 |cont=>exact q
theorem Inv.quiet {j8:List (Addr×Obj)}{σ:St}{H:Hp}{s:Shared}(I:Inv X j8 σ H s):interactive X.env=false:=by simp[interactive,I.ok.kind]
def xI2 (te:TE):TS:=λD σ H=>te σ H λ_ H1=>D.nx σ H1
theorem qf0 (he:PE X e te) (hs:swapsWith e none pos.line X.env=pure false:=by rfl):PS X (.Expr e pos) (xI2 te):=by
 intro j8 s σ H D I h;exact wpAny_Expr_any (thn (he j8 s σ H _ I h) λv s1 ⟨x,H1,I1,r1,q1⟩=>⟨σ,H1,I1,q1⟩) I.quiet hs
def tRet (te:TE):TS:=λD σ H=>te σ H D.rt
theorem qb0 (he:PE X e te):PS X (.Return (some e) pos) (tRet te):=by
 intro j8 s σ H D I h;exact wpAny_Return_some (thn (he j8 s σ H _ I h) λv s1 ⟨x,H1,I1,r1,q1⟩=>⟨x,σ,H1,I1,r1,q1⟩)
def xI3:TS:=λD _ H=>D.rt .non H
theorem q51:PS X (.Return none pos) xI3:=λ_ _ σ H _ I h=>wpAny_Return_none ⟨.non,σ,H,I,rfl,h⟩
def tIfS (c:TT) (t u:TS):TS:=λD σ H=>c σ H λb H1=>if b=true then t D σ H1 else u D σ H1
theorem qf1 {c:Expr}{a b:List Stmt}{tc:TT}(hc:PT X c tc) (ha:PSs X a t) (hb:PSs X b u):PS X (.If c a b pos) (tIfS tc t u):=by
 intro j8 s σ H D I h;refine wpAny_If (thn (hc j8 s σ H _ I h) λd s1 ⟨H1,I1,q1⟩=>?_);cases d with
 |true=>exact ha j8 s1 σ H1 D I1 q1
 |false=>exact hb j8 s1 σ H1 D I1 q1
def xA4:TS:=λ_ _ _=>False
theorem qf7 {sts:List Stmt}:PSs X sts xA4:=λ_ _ _ _ _ _ h=>h.elim
end
abbrev TG:=V->St->Hp->(St->Hp->Prop)->Prop
abbrev TGs:=List V->St->Hp->(St->Hp->Prop)->Prop
def PG (X:Cx) (target:Expr) (t:TG):Prop:=
 ∀(j8:List (Addr×Obj)) (s:Shared) (σ:St) (H:Hp) (v:V) (u:Value) (Q:St->Hp->Prop),Inv X j8 σ H s->RelV v u->t v σ H Q ->
  wpAny (model X.prog X.w) X.A (assign target X.env u) (λ_ s'=>∃σ' H',Inv X j8 σ' H' s'/\Q σ' H') X.xe s
def PGs (X:Cx) (ts:List Expr) (t:TGs):Prop:=
 ∀(j8:List (Addr×Obj)) (s:Shared) (σ:St) (H:Hp) (vs:List V) (us:List Value) (Q:St->Hp->Prop),Inv X j8 σ H s->Vals vs us->t vs σ H Q ->
  wpAny (model X.prog X.w) X.A (assignInOrder ((assignEach ts X.env).map (·.2)) us) (λ_ s'=>∃σ' H',Inv X j8 σ' H' s'/\Q σ' H') X.xe s
abbrev TSet:=V->V->V->Hp->(Hp->Prop)->Prop
def PSet (X:Cx) (t:TSet):Prop:=
 ∀(j8:List (Addr×Obj)) (s:Shared) (σ:St) (H:Hp) (o i v:V) (ov iv u:Value) (Q:Hp->Prop),Inv X j8 σ H s->RelV o ov->RelV i iv->RelV v u->t o i v H Q ->
  wpAny (model X.prog X.w) X.A (setItem ov iv u) (λ_ s'=>∃H',Inv X j8 σ H' s'/\Q H') X.xe s
section
variable {X:Cx}{pos:Pos}
def qg7 (i:Nat):TG:=λv σ H Q=>Q (σ.set i (some v)) H
theorem qt9 {i:Nat}{x:Str}(hN:X.N.Nodup) (hi:X.N[i]?=some x) (hx:Loc X.env.scope x) (hf:X.fn x=true\/X.env.scope.names.lookup x=some .local:=by first|exact .inl rfl|exact .inr rfl|assumption):PG X (.Name x pos) (qg7 i):=by
 intro j8 s σ H v u Q I r h;exact wpAny_assign_Name (qF9 I hN hi hx r (λs' I'=>⟨_,H,I',h⟩) hf)
def gNil:TGs:=λvs σ H Q=>vs=[]/\Q σ H
def qu0 (t:TG) (u:TGs):TGs:=λvs σ H Q=>∃v r,vs=v::r/\t v σ H λσ' H'=>u r σ' H' Q
theorem qj7:PGs X [] gNil:=by
 intro j8 s σ H vs us Q I r h;obtain⟨e,h⟩:=h;subst e;cases r;exact assignInOrder_nil ⟨σ,H,I,h⟩
theorem qc3 {e:Expr}{es:List Expr}{t:TG}{u:TGs}(h1:PG X e t) (h2:PGs X es u)
  (hs:(assignEach (e::es) X.env).map (·.2)=assign e X.env::(assignEach es X.env).map (·.2):=by rfl):PGs X (e::es) (qu0 t u):=by
 intro j8 s σ H vs us Q I r h;obtain⟨v,vr,e1,h⟩:=h;subst e1;cases r with
 |cons r rr=>
  rw[hs];refine assignInOrder_cons (thn (h1 j8 s σ H _ _ _ I r h) λ_ s1 ⟨σ1,H1,I1,q1⟩=>?_);exact h2 j8 s1 σ1 H1 _ _ Q I1 rr q1
def gTup (K:PySem.W.Frag) (n:Nat) (t:TGs):TG:=λv σ H Q=>∃a xs,v=.ref a/\SqT K H a xs/\xs.length=n/\t xs σ H Q
theorem qo8 {es:List Expr}{k:Nat}{t:TGs}{n:Nat}(hc:X.calm=true) (h:PGs X es t)
  (hn:(assignEach es X.env).length=n:=by rfl) (kF:(assignEach es X.env).findIdx? (·.1)=none:=by rfl):PG X (.Tuple es k pos) (gTup X.K n t):=by
 intro j8 s σ H v u Q I r hw;obtain⟨a,xs,e1,hq,hl,hw⟩:=hw;subst e1;cases r;obtain⟨its,rv,ht,hz⟩:=I.tuple hq;refine assign_Tuple_tuple (I.ok.hd hc) ht (by simp[hn,<- hl,rv.length]) kF λh' hx=>?_;have I1:Inv X j8 σ H { s with heap:=h' }:=I.kept (t':=s.toks) λb o e=>hx b o (ZA (Zs e)) e;exact h j8 _ σ H xs _ Q I1 (by simpa using rv) hw
def gSub (to ti:TE) (t:TSet):TG:=λv σ H Q=>to σ H λo H1=>ti σ H1 λi H2=>t o i v H2 λH3=>Q σ H3
theorem xp0 {o i:Expr}{to ti:TE}{t:TSet}(ho:PE X o to) (hi:PE X i ti) (hs:PSet X t)
  (ha:∀v,assign (.Subscript o i pos) X.env v=(do
   let ov <- holding [v] (eval o X.env)
   let iv <- holding [v,ov] (eval i X.env)
   standAt pos
   holding [v,ov,iv] (setItem ov iv v)
   release [v,ov,iv] []):=by intro _;rfl):PG X (.Subscript o i pos) (gSub to ti t):=by
 intro j8 s σ H v u Q I r h;rw[ha];refine Za (Yg (thn (ho j8 s σ H _ I h) λov s1 ⟨x,H1,I1,r1,q1⟩=>?_));refine Za (Yg (thn (hi j8 s1 σ H1 _ I1 q1) λiv s2 ⟨y,H2,I2,r2,q2⟩=>?_));refine Za (wpAny_standAt (Za (Yg (thn (hs j8 s2 σ H2 x y v ov iv u _ I2 r1 r2 r q2) λ_ s3 ⟨H3,I3,q3⟩=>?_))));exact wpAny_release ⟨σ,H3,I3,q3⟩
def tAsg (te:TE) (g:TG):TS:=λD σ H=>te σ H λx H1=>g x σ H1 D.nx
theorem qo9 {tg e:Expr}{te:TE}{g:TG}(he:PE X e te) (hg:PG X tg g) (hs:swapsWithSole [tg] e pos.line X.env=pure false:=by rfl) (hw:swappedStores [tg] e X.env=pure none:=by rfl)
  (h1:(assignEach [tg] X.env).map (·.2)=[assign tg X.env]:=by rfl):PS X (.Assign [tg] e pos) (tAsg te g):=by
 intro j8 s σ H D I h;refine wpAny_Assign_stores (thn (he j8 s σ H _ I h) λv s1 ⟨x,H1,I1,r1,q1⟩=>?_) hs hw;rw[h1];exact thn (hg j8 s1 σ H1 x v _ I1 r1 q1) λ_ s2 q=>q
theorem xp1 {i:Nat}{x:Str}{e:Expr}{te:TE}{pos':Pos}(hN:X.N.Nodup) (hi:X.N[i]?=some x) (hx:Loc X.env.scope x) (he:PE X e te) (hs:swapsWith e (some (.Name x pos')) pos.line X.env=pure false:=by rfl) (hf:X.fn x=true\/X.env.scope.names.lookup x=some .local:=by first|exact .inl rfl|exact .inr rfl|assumption) :
  PS X (.Assign [.Name x pos'] e pos) (tAsg te (qg7 i)):=by
 intro j8 s σ H D I h;refine wpAny_Assign_Name (thn (he j8 s σ H _ I h) λv s1 ⟨y,H1,I1,r1,q1⟩=>?_) hs;exact qF9 I1 hN hi hx r1 (λs2 I2=>⟨_,H1,I2,q1⟩) hf
end
section
variable {X:Cx}{pos:Pos}
def xA5 (c:TT) (tb:TS):TS:=λD σ H=>∃W:Nat->St->Hp->Prop,(∃m,W m σ H)/\∀m σ H,W m σ H ->
 c σ H λb H1=>if b=true then ∃N:St->Hp->Prop,(∀σ' H',N σ' H'->∃m',m'<m/\W m' σ' H')/\tb { D with nx:=N,ct:=N,bk:=D.nx } σ H1 else D.nx σ H1
theorem xh6 {c:Expr}{body:List Stmt}{tc:TT}{tb:TS}(hp:PassesOwn (model X.prog X.w) X.A X.env X.xe) (hc:PT X c tc) (hb:PSs X body tb):PS X (.While c body [] pos) (xA5 tc tb):=by
 intro j8 s σ H D I h;obtain⟨W,⟨m0,w0⟩,turn⟩:=h;refine wpAny_While (codeAny_whileLoop (λn s'=>∃σ' H',Inv X j8 σ' H' s'/\W n σ' H') ?_ m0 ⟨σ,H,I,w0⟩);rintro n s1 ⟨σ1,H1,I1,w1⟩;refine Xq hp (thn (hc j8 s1 σ1 H1 _ I1 (turn n σ1 H1 w1)) λb s2 ⟨H2,I2,q2⟩=>?_);cases b with
 |true=>
  obtain⟨N,hN,q2⟩:=q2;rw[Zp rfl];refine Xq hp (thn (hb j8 s2 σ1 H2 _ I2 q2) λf s3 q3=>?_);cases f with
  |next=>
   obtain⟨σ3,H3,I3,n3⟩:=q3;obtain⟨m',hm,w3⟩:=hN σ3 H3 n3;exact⟨m',hm,σ3,H3,I3,w3⟩
  |cont=>
   obtain⟨σ3,H3,I3,n3⟩:=q3;obtain⟨m',hm,w3⟩:=hN σ3 H3 n3;exact⟨m',hm,σ3,H3,I3,w3⟩
  |brk=>exact q3
  |ret v=>exact q3
 |false=>
  rw[Zk ZD];exact W8 ⟨σ1,H2,I2,q2⟩
end
structure It where
 go:Nat->Hp->Prop
 yld:Nat->Hp->V->Hp->Prop
 stop:Nat->Hp->Prop
def FpOk (X:Cx) (j8:List (Addr×Obj)) (H:Hp) (b:Addr):Prop:=
 H b=none/\b≠X.env.locals/\b∉X.fs/\(b∈X.ex\/X.s₀.heap.objs.size<=b)/\(∀x c,X.env.cells.lookup x=some c->c≠b)/\∀p∈X.pn++j8,p.1≠b
theorem Inv.fpOk {X:Cx}{j8:List (Addr×Obj)}{σ:St}{H H':Hp}{s:Shared}{b:Addr}(I:Inv X j8 σ H s) (hb:s.heap.objs.size<=b) (hn:H' b=none):FpOk X j8 H' b:=by
 refine⟨hn,Vi (ZV I.lt hb),I.nofs hb,.inr (ZL I.sz hb),λx c e z=>?_,λp hp z=>?_⟩
 ·obtain⟨v,q⟩:=I.cell x c e;exact absurd (ZV q.lt (by rw[z];exact hb)) (YT _)
 ·exact absurd (ZV (Zs (I.pin p hp).1) (by rw[z];exact hb)) (YT _)
structure Turn (P:Program) (w:World) (K:PySem.W.Frag) (tg:Expr) (J:It) (fp:List Addr) (it:Addr) (tn:Nat->Heap->Prop):Prop where
 mem:it∈fp
 obj:∀i h,tn i h->∀b∈fp,∃o,h.get? b=some o/\∀v,o.data≠.cell v
 keep:∀i h h',tn i h->(∀b∈fp,∀o,h.get? b=some o->h'.get? b=some o)->tn i h'
 item:∀(X:Cx),X.prog=P->X.w=w->X.K=K->X.calm=true->∀(i:Nat) (j8:List (Addr×Obj)) (s:Shared) (σ:St) (H:Hp) (E:Value->Shared->Prop),Inv X j8 σ H s->(∀b∈fp,FpOk X j8 H b)->tn i s.heap->J.go i H ->
  wpAny (model P w) X.A (pyNext (.ref it)) (λr s1=>∃u,r=some u /\
   wpAny (model P w) X.A (letOwnedTupleGo tg (.ref it) u) (λ_ s2=>∃x H',Inv X j8 σ H' s2/\RelV x u/\J.yld i H x H'/\tn (i+1) s2.heap/\∀b∈fp,H' b=none) E s1) E s
 done:∀(X:Cx),X.prog=P->X.w=w->X.K=K->X.calm=true->∀(i:Nat) (j8:List (Addr×Obj)) (s:Shared) (σ:St) (H:Hp) (E:Value->Shared->Prop),Inv X j8 σ H s->(∀b∈fp,FpOk X j8 H b)->tn i s.heap->J.stop i H ->
  wpAny (model P w) X.A (pyNext (.ref it)) (λr s1=>r=none/\Inv X j8 σ H s1) E s
 self:∀(A:Around) (i:Nat) (s:Shared) (Q:Value->Shared->Prop) (E:Value->Shared->Prop),tn i s.heap->Q (.ref it) s->wpAny (model P w) A (pyIter (.ref it)) Q E s
abbrev TI:=St->Hp->(It->Hp->Prop)->Prop
def PIE (X:Cx) (j8:List (Addr×Obj)) (σ:St) (tg:Expr) (R:It->Hp->Prop) (itv:Value) (s2:Shared):Prop:=
 ∃(it:Addr) (fp:List Addr) (tn:Nat->Heap->Prop) (J:It) (H':Hp),itv=.ref it/\Inv X j8 σ H' s2/\Turn X.prog X.w X.K tg J fp it tn/\tn 0 s2.heap/\(∀b∈fp,FpOk X j8 H' b)/\R J H'
def PI (X:Cx) (tg iter:Expr) (wi:TI):Prop:=
 ∀(j8:List (Addr×Obj)) (s:Shared) (σ:St) (H:Hp) (R:It->Hp->Prop),Inv X j8 σ H s->wi σ H R ->
  wpAny (model X.prog X.w) X.A (eval iter X.env) (λv s1=>wpAny (model X.prog X.w) X.A (pyIter v) (PIE X j8 σ tg R) X.xe s1) X.xe s
theorem xs5 {M:Model}{A:Around}{E:Value->Shared->Prop}{s:Shared}{tg:Expr}{it:Addr}{u:Value}{o:Obj}{n:String}{vs:Array Value}{Q:Unit->Shared->Prop}(ho:s.heap.get? it=some o) (hc:o.cls=.type n) (hd:o.data=.fields vs)
  (hn:["enumerate", "zip", "dict_itemiterator", "dict_reverseitemiterator", "odict_iterator", "itertools.zip_longest", "itertools.pairwise"].contains n=false) (hQ:Q () s):wpAny M A (letOwnedTupleGo tg (.ref it) u) Q E s:=by
 unfold letOwnedTupleGo;cases tg<;>first
  |exact Zg hQ
  |(cases u<;>first
    |exact Zg hQ
    |(refine Za (wpAny_load ho ?_)
      rw[hc,hd];show wpAny M A (if (["enumerate", "zip", "dict_itemiterator", "dict_reverseitemiterator", "odict_iterator", "itertools.zip_longest", "itertools.pairwise"].contains n&&vs[0]?==some (rawInt _))=true then _ else _) Q E s;rw[Zk (by intro h;rw[hn,VS] at h;cases h)];exact Zg hQ))
def Itl (K:PySem.W.Frag) (a:Addr):It:=
 ⟨λi H=>∃xs x,SqL K H a xs/\xs[i]?=some x,λi H x H'=>H'=H/\∀xs,SqL K H a xs->xs[i]?=some x,λi H=>∃xs,SqL K H a xs/\xs.length<=i⟩
def Itt (K:PySem.W.Frag) (a:Addr):It:=
 ⟨λi H=>∃xs x,SqT K H a xs/\xs[i]?=some x,λi H x H'=>H'=H/\∀xs,SqT K H a xs->xs[i]?=some x,λi H=>∃xs,SqT K H a xs/\xs.length<=i⟩
def Itr (lo:Int) (n:Nat):It:=⟨λi _=>i<n,λi H x H'=>H'=H/\x=.int (lo+i),λi _=>n<=i⟩
theorem qL1 {P:Program}{w:World}{K:PySem.W.Frag}{tg:Expr}(a it:Addr):Turn P w K tg (Itl K a) [it] it (λi h=>h.IsListIter it a i) where
 mem:=by simp
 obj:=λi h st b hb=>by
  have e:b=it:=by simpa using hb
  subst e;obtain⟨o,e,c,d⟩:=st;exact⟨o,e,λv z=>by rw[d] at z;cases z⟩
 keep:=λi h h' st k=>st.at λo e=>k it (by simp) o e
 item:=by
  intro X hP hw hK hc i j8 s σ H E I hf st hg;subst hP hw hK;obtain⟨xs,x,hq,hx⟩:=hg;obtain⟨its,rv,p,hz⟩:=I.list hq;obtain⟨u,hu,ru⟩:=rv.get hx;obtain⟨f0,f1,f2,f3,f4,f5⟩:=hf it (by simp);refine wpAny_pyNext_list_item st p.isList (x:=u) (by simpa using hu) λh' st' sb=>?_;have I1:Inv X j8 σ H { s with heap:=h' }:=I.turned (t':=s.toks) (λb o hb e=>(sb.2 b hb).trans e) f0 f1 f3 f4 f5;obtain⟨o,e,c,d⟩:=id st';exact⟨u,rfl,xs5 (s:={ s with heap:=h' }) e c d (by decide) ⟨x,H,I1,ru,⟨rfl,λys hy=>by rw[I.list_inj hy hq];exact hx⟩,st',λb hb=>(hf b hb).1⟩⟩
 done:=by
  intro X hP hw hK hc i j8 s σ H E I hf st hg;subst hP hw hK;obtain⟨xs,hq,hx⟩:=hg;obtain⟨its,rv,p,hz⟩:=I.list hq;obtain⟨f0,f1,f2,f3,f4,f5⟩:=hf it (by simp);have hl:=rv.length;exact wpAny_pyNext_list_end (I.ok.hd hc) st p.isList (by simp;lia) λh' eb=>⟨rfl,I.turned (t':=s.toks) (λb o hb e=>eb b o hb e) f0 f1 f3 f4 f5⟩
 self:=λ_ _ _ _ _ st h=>wpAny_pyIter_listiter st h
theorem qC9 {P:Program}{w:World}{K:PySem.W.Frag}{tg:Expr}(a it:Addr):Turn P w K tg (Itt K a) [it] it (λi h=>h.IsTupleIter it a i) where
 mem:=by simp
 obj:=λi h st b hb=>by
  have e:b=it:=by simpa using hb
  subst e;obtain⟨o,e,c,d⟩:=st;exact⟨o,e,λv z=>by rw[d] at z;cases z⟩
 keep:=λi h h' st k=>st.at λo e=>k it (by simp) o e
 item:=by
  intro X hP hw hK hc i j8 s σ H E I hf st hg;subst hP hw hK;obtain⟨xs,x,hq,hx⟩:=hg;obtain⟨its,rv,p,hz⟩:=I.tuple hq;obtain⟨u,hu,ru⟩:=rv.get hx;obtain⟨f0,f1,f2,f3,f4,f5⟩:=hf it (by simp);refine wpAny_pyNext_tuple_item st (show s.heap.IsTuple a its.toArray from p) (x:=u) (by simpa using hu) λh' st' sb=>?_;have I1:Inv X j8 σ H { s with heap:=h' }:=I.turned (t':=s.toks) (λb o hb e=>(sb.2 b hb).trans e) f0 f1 f3 f4 f5;obtain⟨o,e,c,d⟩:=id st';exact⟨u,rfl,xs5 (s:={ s with heap:=h' }) e c d (by decide) ⟨x,H,I1,ru,⟨rfl,λys hy=>by rw[I.tuple_inj hy hq];exact hx⟩,st',λb hb=>(hf b hb).1⟩⟩
 done:=by
  intro X hP hw hK hc i j8 s σ H E I hf st hg;subst hP hw hK;obtain⟨xs,hq,hx⟩:=hg;obtain⟨its,rv,p,hz⟩:=I.tuple hq;obtain⟨f0,f1,f2,f3,f4,f5⟩:=hf it (by simp);have hl:=rv.length;exact wpAny_pyNext_tuple_end (I.ok.hd hc) st (show s.heap.IsTuple a its.toArray from p) (by simp;lia) λh' eb=>⟨rfl,I.turned (t':=s.toks) (λb o hb e=>eb b o hb e) f0 f1 f3 f4 f5⟩
 self:=λ_ _ _ _ _ st h=>wpAny_pyIter_tupleiter st h
theorem q05 {P:Program}{w:World}{K:PySem.W.Frag}{tg:Expr}(it:Addr) (lo:Int) (n:Nat):Turn P w K tg (Itr lo n) [it] it (λi h=>IsRangeIter h it (lo+(i:Nat)*1) ((n:Int)-(i:Nat)) 1) where
 mem:=by simp
 obj:=λi h st b hb=>by
  have e:b=it:=by simpa using hb
  subst e;exact⟨_,st,λv z=>by
   have z':Data.fields _=Data.cell v:=z;cases z'⟩
 keep:=λi h h' st k=>k it (by simp) _ st
 item:=by
  intro X hP hw hK hc i j8 s σ H E I hf st hg;subst hP hw hK;obtain⟨f0,f1,f2,f3,f4,f5⟩:=hf it (by simp);have W:=Walks.range (prog:=X.prog) (w:=X.w) (I.ok.hd hc) it lo 1 n;refine W.item i s _ _ hg st λv h' tk hv st' kk=>?_;obtain⟨t,rfl⟩:=hv;have I1:Inv X j8 σ H { s with heap:=h',toks:=tk }:=I.turned (λb o hb e=>kk b o (by simpa using hb) e) f0 f1 f3 f4 f5;refine⟨_,rfl,xs5 (s:={ s with heap:=h',toks:=tk }) (n:= "range_iterator") st' rfl rfl (by decide) ⟨.int (lo+i),H,I1,⟨t,?_⟩,⟨rfl,rfl⟩,st',λb hb=>(hf b hb).1⟩⟩;rw[Int.mul_one]
 done:=by
  intro X hP hw hK hc i j8 s σ H E I hf st hg;subst hP hw hK;obtain⟨f0,f1,f2,f3,f4,f5⟩:=hf it (by simp);exact wpAny_pyNext_range_end (I.ok.hd hc) st (by have:n<=i:=hg;lia) λh' eb=>⟨rfl,I.turned (t':=s.toks) (λb o hb e=>eb b o hb e) f0 f1 f3 f4 f5⟩
 self:=λ_ _ _ _ _ st h=>wpAny_pyIter_rangeiter st h
section
variable {X:Cx}{tg:Expr}
def xI4 (K:PySem.W.Frag) (tl:TE):TI:=λσ H R=>tl σ H λx H1=>∃a,x=.ref a/\(∃xs,SqL K H1 a xs)/\R (Itl K a) H1
def iTup (K:PySem.W.Frag) (tl:TE):TI:=λσ H R=>tl σ H λx H1=>∃a,x=.ref a/\(∃xs,SqT K H1 a xs)/\R (Itt K a) H1
theorem qp4 {l:Expr}{tl:TE}(hl:PE X l tl):PI X tg l (xI4 X.K tl):=by
 intro j8 s σ H R I h;refine thn (hl j8 s σ H _ I h) λv s1 ⟨x,H1,I1,r1,q1⟩=>?_;obtain⟨a,e,⟨xs,hq⟩,q⟩:=q1;subst e;cases r1;obtain⟨its,rv,p,hz⟩:=I1.list hq;refine X1 p.isList ?_;refine⟨s1.heap.objs.size,[s1.heap.objs.size],_,_,H1,rfl,I1.kept (t':=s1.toks) λb o e=>Zf _ e,qL1 a _,⟨_,Zo _ rfl,rfl,rfl⟩,λb hb=>?_,q⟩;have e:b=s1.heap.objs.size:=by simpa using hb
 subst e;exact I1.fpOk (Zd _) (I1.hok.fresh (Zd _))
theorem qi9 {l:Expr}{tl:TE}(hl:PE X l tl):PI X tg l (iTup X.K tl):=by
 intro j8 s σ H R I h;refine thn (hl j8 s σ H _ I h) λv s1 ⟨x,H1,I1,r1,q1⟩=>?_;obtain⟨a,e,⟨xs,hq⟩,q⟩:=q1;subst e;cases r1;obtain⟨its,rv,p,hz⟩:=I1.tuple hq;refine XQ (show s1.heap.IsTuple a its.toArray from p) ?_;refine⟨s1.heap.objs.size,[s1.heap.objs.size],_,_,H1,rfl,I1.kept (t':=s1.toks) λb o e=>Zf _ e,qC9 a _,⟨_,Zo _ rfl,rfl,rfl⟩,λb hb=>?_,q⟩;have e:b=s1.heap.objs.size:=by simpa using hb
 subst e;exact I1.fpOk (Zd _) (I1.hok.fresh (Zd _))
theorem range_it {j8:List (Addr×Obj)}{σ:St}{H:Hp}{s:Shared}{R:It->Hp->Prop}{E:Value->Shared->Prop}{lo hi:Int}{t u v:Tok}{tk:Nat}(I:Inv X j8 σ H s) (h1:-(2^62)<=lo) (h2:lo<2^62) (h3:-(2^62)<=hi) (h4:hi<2^62)
  (q:R (Itr lo (hi-lo).toNat) H):wpAny (model X.prog X.w) X.A (pyIter (.ref s.heap.objs.size)) (PIE X j8 σ tg R) E { s with heap:=s.heap.push { cls:=.type "range",data:=.fields #[.int lo t,.int hi u,.int 1 v] },toks:=tk }:=by
 refine wpAny_pyIter_range (IsRange.new ..) (small_one h1 h2 h3 h4) ?_;have I1:Inv X j8 σ H { s with heap:=s.heap.push { cls:=.type "range",data:=.fields #[.int lo t,.int hi u,.int 1 v] },toks:=tk }:=I.kept λb o e=>Zf _ e;refine⟨(s.heap.push { cls:=.type "range",data:=.fields #[.int lo t,.int hi u,.int 1 v] }).objs.size,[(s.heap.push { cls:=.type "range",data:=.fields #[.int lo t,.int hi u,.int 1 v] }).objs.size],_,_,H,rfl,
  I1.kept (t':=tk) λb o e=>Zf _ e,q05 _ lo (hi-lo).toNat,?_,λb hb=>?_,q⟩
 ·have e1:lo+((0:Nat):Int)*1=lo:=by simp
  have e2:(((hi-lo).toNat:Nat):Int)-((0:Nat):Int)=Builtin.Range.rangeSize lo hi 1:=by rw[rangeSize_one];split<;>lia
  show IsRangeIter _ _ (lo+((0:Nat):Int)*1) ((((hi-lo).toNat:Nat):Int)-((0:Nat):Int)) 1;rw[e1,e2];exact Zo _ rfl
 ·have e:b=(s.heap.push { cls:=.type "range",data:=.fields #[.int lo t,.int hi u,.int 1 v] }).objs.size:=by simpa using hb
  subst e;exact I1.fpOk (Zd _) (I1.hok.fresh (Zd _))
def xI5 (ta:TA):TI:=λσ H R=>ta σ H λvs H1=>∃j:Int,vs=[.int j]/\-(2^62)<=j/\j<2^62/\R (Itr 0 j.toNat) H1
theorem qh6 {a:Expr}{ta:TA}{p pos:Pos}(hg:Gl X "range") (hm:X.mg "range" = none) (ha:PA X [a] ta) (hs:starEach [a] X.env=[(false,eval a X.env)]:=by rfl):PI X tg (.Call (.Name "range" p) [a] [] pos) (xI5 ta):=by
 intro j8 s σ H R I h;refine Call_ (qC8 I hg hm boot_range (Xg (thn (ha pos j8 s σ H _ I h) λus s1 ⟨vs,H1,I1,r1,q1⟩=>?_) hs rfl));obtain⟨j,e,q1,q2,q⟩:=q1;subst e;cases r1 with
 |cons r rr=>
  cases rr;obtain⟨t,rfl⟩:=r;exact call_range_1 (range_it I1 (by lia) (by lia) q1 q2 (by simpa using q))
def tFor (wi:TI) (g:TG) (tb:TS):TS:=λD σ H=>wi σ H λJ H1=>∃W:Nat->Nat->St->Hp->Prop,(∃m,W 0 m σ H1)/\∀i m σ H,W i m σ H ->
 (J.stop i H/\D.nx σ H)\/(J.go i H/\∃N:St->Hp->Prop,(∀σ' H',N σ' H'->∃m',m'<m/\W (i+1) m' σ' H')/\∀x H',J.yld i H x H'->g x σ H' λσ2 H2=>tb { D with nx:=N,ct:=N,bk:=D.nx } σ2 H2)
def qD0 (fp:List Addr) (h:Heap):List (Addr×Obj):=fp.filterMap λb=>(h.get? b).map λo=>(b,o)
theorem qk2 {fp:List Addr}{h:Heap}{b:Addr}{o:Obj}(hb:b∈fp) (e:h.get? b=some o):(b,o)∈qD0 fp h:=Vo.mpr ⟨b,hb,by rw[e];rfl⟩
theorem q52 {fp:List Addr}{h:Heap}{p:Addr×Obj}(hp:p∈qD0 fp h):p.1∈fp/\h.get? p.1=some p.2:=by
 obtain⟨b,hb,e⟩:=Vo.mp hp;cases q:h.get? b with
 |none=>rw[q] at e;cases e
 |some o=>
  rw[q] at e;have e':(b,o)=p:=Zv e;subst e';exact⟨hb,q⟩
theorem Inv.pinned {j8:List (Addr×Obj)}{σ:St}{H:Hp}{s:Shared}{fp:List Addr}(I:Inv X j8 σ H s) (hf:∀b∈fp,FpOk X j8 H b) (ho:∀b∈fp,∃o,s.heap.get? b=some o/\∀v,o.data≠.cell v):Inv X (j8++qD0 fp s.heap) σ H s:=
 I.pins_of λp hp=>(Z6.mp hp).elim (λz=>I.pin p (ZU _ z)) λz=>by
  obtain⟨hb,e⟩:=q52 z;obtain⟨f0,f1,f2,_⟩:=hf p.1 hb;obtain⟨o,e',d⟩:=ho p.1 hb;rw[e] at e';cases e';exact⟨e,f0,f1,f2,d⟩
theorem Inv.unpinned {j8 pl:List (Addr×Obj)}{σ:St}{H:Hp}{s:Shared}(I:Inv X (j8++pl) σ H s):Inv X j8 σ H s:=I.pins_of λp hp=>I.pin p (ZU _ (X8 _ hp))
theorem qj0 {iter:Expr}{body:List Stmt}{wi:TI}{g:TG}{tb:TS}{pos:Pos}(hp:PassesOwn (model X.prog X.w) X.A X.env X.xe) (hc:X.calm=true) (hi:PI X tg iter wi) (hg:PG X tg g) (hb:PSs X body tb)
  (hs:∀x,foldedSetIterable iter X.env x=pure x:=by intro _;rfl):PS X (.For tg iter body [] pos) (tFor wi g tb):=by
 intro j8 s σ H D I h;refine wpAny_For (thn (hi j8 s σ H _ I h) λv s1 h1=>thn h1 λitv s2 h2=>?_) hs;obtain⟨it,fp,tn,J,H2,e,I2,T,st2,f2,W,⟨m0,w0⟩,turn⟩:=h2;subst e;have stat:∀{H':Hp},(∀b∈fp,H' b=none)->∀b∈fp,FpOk X j8 H' b:=λhn b hb=>⟨hn b hb,(f2 b hb).2⟩;refine codeAny_forLoop_any (λn s'=>∃i σ' H',Inv X j8 σ' H' s'/\tn i s'.heap/\(∀b∈fp,H' b=none)/\W i n σ' H') ?_ m0 ⟨0,σ,H2,I2,st2,λb hb=>(f2 b hb).1,w0⟩;rintro n s3 ⟨i,σ3,H3,I3,st3,fr3,w3⟩;rcases turn i n σ3 H3 w3 with ⟨stop,qn⟩|⟨go,N,hN,step⟩
 ·refine Xq hp (thn (T.done X rfl rfl rfl hc i j8 s3 σ3 H3 X.xe I3 (stat fr3) st3 stop) λr s4 ⟨hr,I4⟩=>?_);subst hr;exact W8 ⟨σ3,H3,I4,qn⟩
 ·refine Xq hp (thn (T.item X rfl rfl rfl hc i j8 s3 σ3 H3 X.xe I3 (stat fr3) st3 go) λr s4 ⟨u,hr,h4⟩=>?_);subst hr;refine Xq hp (thn h4 λ_ s5 ⟨x,H5,I5,r5,y5,st5,fr5⟩=>?_);have I5':=I5.pinned (stat fr5) (T.obj _ _ st5);refine Xq hp (thn (hg _ s5 σ3 H5 x u _ I5' r5 (step x H5 y5)) λ_ s6 ⟨σ6,H6,I6,q6⟩=>?_);refine Xq hp (thn (hb _ s6 σ6 H6 _ I6 q6) λf s7 q7=>?_);have again:∀{σ7:St}{H7:Hp},Inv X (j8++qD0 fp s5.heap) σ7 H7 s7->N σ7 H7->∃m,m<n/\∃i σ' H',Inv X j8 σ' H' s7/\tn i s7.heap/\(∀b∈fp,H' b=none)/\W i m σ' H':=λ{σ7 H7} I7 n7=>by
   obtain⟨m',hm,w7⟩:=hN σ7 H7 n7;refine⟨m',hm,i+1,σ7,H7,I7.unpinned,T.keep _ _ _ st5 λb hb o e=>(I7.pin (b,o) (ZU _ (ZU _ (qk2 hb e)))).1,λb hb=>?_,w7⟩;obtain⟨o,e,d⟩:=T.obj _ _ st5 b hb;exact (I7.pin (b,o) (ZU _ (ZU _ (qk2 hb e)))).2.1
  cases f with
  |next=>obtain⟨σ7,H7,I7,n7⟩:=q7;exact again I7 n7
  |cont=>obtain⟨σ7,H7,I7,n7⟩:=q7;exact again I7 n7
  |brk=>obtain⟨σ7,H7,I7,q7⟩:=q7;exact⟨σ7,H7,I7.unpinned,q7⟩
  |ret v=>obtain⟨x7,σ7,H7,I7,r7,q7⟩:=q7;exact⟨x7,σ7,H7,I7.unpinned,r7,q7⟩
end
theorem qq7 {K:PySem.W.Frag}{a:Addr}{xs:List V}{g:TG}{tb:TS}{D:Ends}{σ:St}{H:Hp}(Pv:Nat->St->Hp->Prop) (h0:Pv 0 σ H) (hl:∀i σ H,i<=xs.length->Pv i σ H->SqL K H a xs)
  (hs:∀i x σ H,xs[i]?=some x->Pv i σ H->g x σ H λσ2 H2=>tb { D with nx:=Pv (i+1),ct:=Pv (i+1),bk:=D.nx } σ2 H2) (hd:∀σ H,Pv xs.length σ H->D.nx σ H) :
  ∃W:Nat->Nat->St->Hp->Prop,(∃m,W 0 m σ H)/\∀i m σ H,W i m σ H ->
   ((Itl K a).stop i H/\D.nx σ H)\/((Itl K a).go i H/\∃N:St->Hp->Prop,(∀σ' H',N σ' H'->∃m',m'<m/\W (i+1) m' σ' H')/\∀x H',(Itl K a).yld i H x H'->g x σ H' λσ2 H2=>tb { D with nx:=N,ct:=N,bk:=D.nx } σ2 H2):=by
 refine⟨λi m σ H=>m=xs.length-i/\i<=xs.length/\Pv i σ H,⟨xs.length,by simp,ZE _,h0⟩,?_⟩;rintro i m σ H ⟨rfl,hi,p⟩;have q:=hl i σ H hi p;by_cases jB:i<xs.length
 ·refine .inr ⟨⟨xs,xs[i],q,by simp[jB]⟩,Pv (i+1),λσ' H' p'=>⟨xs.length-(i+1),by lia,rfl,jB,p'⟩,λx H' y=>?_⟩;obtain⟨e,y⟩:=y;subst e;exact hs i x σ _ (y xs q) p
 ·have e:i=xs.length:=by lia
  subst e;exact .inl ⟨⟨xs,q,Zd _⟩,hd σ H p⟩
theorem qp5 {K:PySem.W.Frag}{a:Addr}{xs:List V}{g:TG}{tb:TS}{D:Ends}{σ:St}{H:Hp}(Pv:Nat->St->Hp->Prop) (h0:Pv 0 σ H) (hl:∀i σ H,i<=xs.length->Pv i σ H->SqT K H a xs)
  (hs:∀i x σ H,xs[i]?=some x->Pv i σ H->g x σ H λσ2 H2=>tb { D with nx:=Pv (i+1),ct:=Pv (i+1),bk:=D.nx } σ2 H2) (hd:∀σ H,Pv xs.length σ H->D.nx σ H) :
  ∃W:Nat->Nat->St->Hp->Prop,(∃m,W 0 m σ H)/\∀i m σ H,W i m σ H ->
   ((Itt K a).stop i H/\D.nx σ H)\/((Itt K a).go i H/\∃N:St->Hp->Prop,(∀σ' H',N σ' H'->∃m',m'<m/\W (i+1) m' σ' H')/\∀x H',(Itt K a).yld i H x H'->g x σ H' λσ2 H2=>tb { D with nx:=N,ct:=N,bk:=D.nx } σ2 H2):=by
 refine⟨λi m σ H=>m=xs.length-i/\i<=xs.length/\Pv i σ H,⟨xs.length,by simp,ZE _,h0⟩,?_⟩;rintro i m σ H ⟨rfl,hi,p⟩;have q:=hl i σ H hi p;by_cases jB:i<xs.length
 ·refine .inr ⟨⟨xs,xs[i],q,by simp[jB]⟩,Pv (i+1),λσ' H' p'=>⟨xs.length-(i+1),by lia,rfl,jB,p'⟩,λx H' y=>?_⟩;obtain⟨e,y⟩:=y;subst e;exact hs i x σ _ (y xs q) p
 ·have e:i=xs.length:=by lia
  subst e;exact .inl ⟨⟨xs,q,Zd _⟩,hd σ H p⟩
theorem qy2 {lo:Int}{n:Nat}{g:TG}{tb:TS}{D:Ends}{σ:St}{H:Hp}(Pv:Nat->St->Hp->Prop) (h0:Pv 0 σ H)
  (hs:∀i σ H,i<n->Pv i σ H->g (.int (lo+i)) σ H λσ2 H2=>tb { D with nx:=Pv (i+1),ct:=Pv (i+1),bk:=D.nx } σ2 H2) (hd:∀σ H,Pv n σ H->D.nx σ H) :
  ∃W:Nat->Nat->St->Hp->Prop,(∃m,W 0 m σ H)/\∀i m σ H,W i m σ H ->
   ((Itr lo n).stop i H/\D.nx σ H)\/((Itr lo n).go i H/\∃N:St->Hp->Prop,(∀σ' H',N σ' H'->∃m',m'<m/\W (i+1) m' σ' H')/\∀x H',(Itr lo n).yld i H x H'->g x σ H' λσ2 H2=>tb { D with nx:=N,ct:=N,bk:=D.nx } σ2 H2):=by
 refine⟨λi m σ H=>m=n-i/\i<=n/\Pv i σ H,⟨n,by simp,ZE _,h0⟩,?_⟩;rintro i m σ H ⟨rfl,hi,p⟩;by_cases jB:i<n
 ·refine .inr ⟨jB,Pv (i+1),λσ' H' p'=>⟨n-(i+1),by lia,rfl,jB,p'⟩,λx H' y=>?_⟩;obtain⟨e,y⟩:=y;subst e y;exact hs i σ _ jB p
 ·have e:i=n:=by lia
  subst e;exact .inl ⟨Zd _,hd σ H p⟩
abbrev R2:=V->V->Hp->VK->Prop
def OpR (X:Cx) (f:Value->Value->Sem Value) (r:R2):Prop:=
 ∀(j8:List (Addr×Obj)) (s:Shared) (σ:St) (H:Hp) (x y:V) (v u:Value) (Q:VK),Inv X j8 σ H s->RelV x v->RelV y u->r x y H Q ->
  wpAny (model X.prog X.w) X.A (f v u) (EP X j8 σ Q) X.xe s
def qh1 (X:Cx) (f:Value) (r:List V->Hp->VK->Prop):Prop:=
 ∀(j8:List (Addr×Obj)) (s:Shared) (σ:St) (H:Hp) (xs:List V) (us:List Value) (Q:VK),Inv X j8 σ H s->Vals xs us->r xs H Q ->
  wpAny (model X.prog X.w) X.A (call f us) (EP X j8 σ Q) X.xe s
def tOp (r:R2) (ta tb:TE):TE:=λσ H Q=>ta σ H λx H1=>tb σ H1 λy H2=>r x y H2 Q
def rI (C:Int->Int->Prop) (g:Int->Int->V):R2:=λx y H Q=>∃i j,x=.int i/\y=.int j/\C i j/\Q (g i j) H
def rI0 (g:Int->Int->V):R2:=λx y H Q=>∃i j,x=.int i/\y=.int j/\Q (g i j) H
section
variable {X:Cx}{a b c:Expr}{ta tb tc:TE}{pos:Pos}
theorem binT (ha:PE X a ta) (hb:PE X b tb){j8:List (Addr×Obj)}{s:Shared}{σ:St}{H:Hp}{R:V->V->Hp->Prop}(I:Inv X j8 σ H s)
  (h:ta σ H λx H1=>tb σ H1 λy H2=>R x y H2){Q:Value->Shared->Prop}{f:Value->Value->Sem Value}
  (hf:∀v u s2 x y H2,Inv X j8 σ H2 s2->RelV x v->RelV y u->R x y H2->wpAny (model X.prog X.w) X.A (f v u) Q X.xe s2) :
  wpAny (model X.prog X.w) X.A (eval a X.env) (λv s₁=>wpAny (model X.prog X.w) X.A (eval b X.env) (λu s₂=>wpAny (model X.prog X.w) X.A (f v u) Q X.xe s₂) X.xe s₁) X.xe s:=by
 refine thn (ha j8 s σ H _ I h) λv s1 ⟨x,H1,I1,r1,q1⟩=>?_;refine thn (hb j8 s1 σ H1 _ I1 q1) λu s2 ⟨y,H2,I2,r2,q2⟩=>?_;exact hf v u s2 x y H2 I2 r1 r2 q2
theorem qb3 {op:Operator}{r:R2}(ho:OpR X (binaryOp op) r) (ha:PE X a ta) (hb:PE X b tb):PE X (.BinOp a op b pos) (tOp r ta tb):=by
 intro j8 s σ H Q I h;exact wpAny_BinOp (binT ha hb I h λv u s2 x y H2 I2 rx ry q=>ho j8 s2 σ H2 x y v u Q I2 rx ry q)
theorem opI {f:Value->Value->Sem Value}{C:Int->Int->Prop}{g:Int->Int->Int}
  (rule:∀(i j:Int) (t u:Tok) (s:Shared) (Q:Value->Shared->Prop) (E:Value->Shared->Prop),C i j->Q (.int (g i j) s.toks) { s with toks:=s.toks+1 }->wpAny (model X.prog X.w) X.A (f (.int i t) (.int j u)) Q E s) :
  OpR X f (rI C λi j=>.int (g i j)):=by
 intro j8 s σ H x y v u Q I rx ry h;obtain⟨i,j,rfl,rfl,hc,q⟩:=h;obtain⟨t,rfl⟩:=rx;obtain⟨t',rfl⟩:=ry;exact rule i j t t' s _ _ hc ⟨.int (g i j),H,I.tok _,⟨_,rfl⟩,q⟩
theorem opI0 {f:Value->Value->Sem Value}{g:Int->Int->Int}
  (rule:∀(i j:Int) (t u:Tok) (s:Shared) (Q:Value->Shared->Prop) (E:Value->Shared->Prop),Q (.int (g i j) s.toks) { s with toks:=s.toks+1 }->wpAny (model X.prog X.w) X.A (f (.int i t) (.int j u)) Q E s) :
  OpR X f (rI0 λi j=>.int (g i j)):=by
 intro j8 s σ H x y v u Q I rx ry h;obtain⟨i,j,rfl,rfl,q⟩:=h;obtain⟨t,rfl⟩:=rx;obtain⟨t',rfl⟩:=ry;exact rule i j t t' s _ _ ⟨.int (g i j),H,I.tok _,⟨_,rfl⟩,q⟩
theorem opB0 {f:Value->Value->Sem Value}{g:Int->Int->Bool}
  (rule:∀(i j:Int) (t u:Tok) (s:Shared) (Q:Value->Shared->Prop) (E:Value->Shared->Prop),Q (.bool (g i j)) s->wpAny (model X.prog X.w) X.A (f (.int i t) (.int j u)) Q E s) :
  OpR X f (rI0 λi j=>.bl (g i j)):=by
 intro j8 s σ H x y v u Q I rx ry h;obtain⟨i,j,rfl,rfl,q⟩:=h;obtain⟨t,rfl⟩:=rx;obtain⟨t',rfl⟩:=ry;exact rule i j t t' s _ _ ⟨.bl (g i j),H,I,rfl,q⟩
def CDiv (i j:Int):Prop:=0<j/\j<1073741824
def CPow (i j:Int):Prop:=0<=j/\j<=1000000/\i.natAbs<2^64
def CMul (i j:Int):Prop:=(-(2^64)<i/\i<2^64)\/(-(2^64)<j/\j<2^64)
theorem CMul.ok {i j:Int}(h:CMul i j):IntMulOk i j:=by
 rcases h with ⟨h1,h2⟩|⟨h1,h2⟩
 ·exact .of_left (intBits_le_64 h1 h2)
 ·exact .of_right (intBits_le_64 h1 h2)
theorem qd3:OpR X (binaryOp .Add) (rI0 λi j=>.int (i+j)):=opI0 λ_ _ _ _ _ _ _ q=>add_int q
theorem ql6:OpR X (binaryOp .Sub) (rI0 λi j=>.int (i-j)):=opI0 λ_ _ _ _ _ _ _ q=>sub_int q
theorem qD1:OpR X (binaryOp .Mult) (rI CMul λi j=>.int (i*j)):=opI λ_ _ _ _ _ _ _ hc q=>mul_int q hc.ok
theorem qk8:OpR X (binaryOp .FloorDiv) (rI CDiv λi j=>.int (i/j)):=opI λi j _ _ _ _ _ hc q=>by
 have h1:(0:Int)<j:=hc.1;have h2:j<1073741824:=hc.2;exact floordiv_int (by lia) (by rw[Int.fdiv_eq_ediv_of_nonneg i (by lia)];exact q) (.inl (PyProof.noPylong_small (by lia)))
theorem qq8:OpR X (binaryOp .Mod) (rI (λ_ j=>0<j) λi j=>.int (i%j)):=opI λi j _ _ _ _ _ hc q=>by
 have h1:(0:Int)<j:=hc;exact mod_int' (by lia) (by rw[Int.fmod_eq_emod_of_nonneg i (by lia)];exact q)
theorem xA6:OpR X (binaryOp .Pow) (rI CPow λi j=>.int (i^j.toNat)):=opI λ_ _ _ _ _ _ _ hc q=>pow_int_small hc.1 hc.2.1 hc.2.2 q
theorem q53:OpR X (binaryOp .LShift) (rI CPow λi j=>.int (i*2^j.toNat)):=opI λ_ _ _ _ _ _ _ hc q=>lshift_int_small hc.1 hc.2.1 hc.2.2 q
end
def scal:V->V->Bool
 |.non,.non=>true|.non,.int _=>true|.int _,.non=>true|.non,.bl _=>true|.bl _,.non=>true|.non,.str _=>true|.str _,.non=>true
 |.int _,.int _=>true|.bl _,.bl _=>true|.str _,.str _=>true|.byt _,.byt _=>true
 |.int _,.str _=>true|.str _,.int _=>true|.bl _,.str _=>true|.str _,.bl _=>true
 |_,_=>false
def rEq:R2:=λx y H Q=>scal x y=true/\Q (.bl (decide (x=y))) H
def rNe:R2:=λx y H Q=>scal x y=true/\Q (.bl (!decide (x=y))) H
theorem q54 {i j:Int}:decide (V.int i=V.int j)=(i==j):=by
 rw[Yn];simp
theorem xp2 {i j:Bool}:decide (V.bl i=V.bl j)=(i==j):=by
 rw[Yn];simp
theorem q55 {i j:Str}:decide (V.str i=V.str j)=(i==j):=by
 rw[Yn];simp
theorem q56 {i j:Array UInt8}:decide (V.byt i=V.byt j)=(i.toList==j.toList):=by
 rw[Yn];cases i;cases j;simp
section
variable {X:Cx}{a b c:Expr}{ta tb tc:TE}{pos:Pos}
theorem qd4 {j8:List (Addr×Obj)}{σ:St}{H:Hp}{s:Shared}{Q:VK}{k k':Bool}(I:Inv X j8 σ H s) (q:Q (.bl k) H) (e:k=k'):EP X j8 σ Q (.bool k') s:=by
 subst e;exact⟨.bl k,H,I,rfl,q⟩
theorem q57:OpR X (compareOp .Eq) rEq:=by
 intro j8 s σ H x y v u Q I rx ry h;obtain⟨hs,q⟩:=h;cases x with
 |non=>
  cases rx;cases y with
  |non=>cases ry;exact PySem.EqNone.eq_none_none (qd4 I q (by simp))
  |bl j=>cases ry;exact PySem.EqNone.eq_none_bool (qd4 I q (by simp))
  |int j=>obtain⟨t',rfl⟩:=ry;exact PySem.EqNone.eq_none_int (qd4 I q (by simp))
  |str j=>obtain⟨t',rfl⟩:=ry;exact PySem.EqNone.eq_none_str (qd4 I q (by simp))
  |_=>exact absurd (show false=true from hs) ZD
 |bl i=>
  cases rx;cases y with
  |non=>cases ry;exact PySem.EqNone.eq_bool_none (qd4 I q (by simp))
  |bl j=>cases ry;exact eq_bool (qd4 I q xp2)
  |str j=>obtain⟨t',rfl⟩:=ry;exact PySem.EqMixed.eq_bool_str (qd4 I q (by simp))
  |_=>exact absurd (show false=true from hs) ZD
 |int i=>
  obtain⟨t,rfl⟩:=rx;cases y with
  |non=>cases ry;exact PySem.EqNone.eq_int_none (qd4 I q (by simp))
  |int j=>obtain⟨t',rfl⟩:=ry;exact eq_int (qd4 I q q54)
  |str j=>obtain⟨t',rfl⟩:=ry;exact PySem.EqMixed.eq_int_str (qd4 I q (by simp))
  |_=>exact absurd (show false=true from hs) ZD
 |str i=>
  obtain⟨t,rfl⟩:=rx;cases y with
  |non=>cases ry;exact PySem.EqNone.eq_str_none (qd4 I q (by simp))
  |bl j=>cases ry;exact PySem.EqMixed.eq_str_bool (qd4 I q (by simp))
  |int j=>obtain⟨t',rfl⟩:=ry;exact PySem.EqMixed.eq_str_int (qd4 I q (by simp))
  |str j=>obtain⟨t',rfl⟩:=ry;exact eq_str (qd4 I q q55)
  |_=>exact absurd (show false=true from hs) ZD
 |byt i=>
  obtain⟨t,rfl⟩:=rx;cases y with
  |byt j=>obtain⟨t',rfl⟩:=ry;exact PySem.W.eq_bytes (qd4 I q q56)
  |_=>exact absurd (show false=true from hs) ZD
 |_=>cases y<;>exact absurd (show false=true from hs) ZD
theorem q58:OpR X (compareOp .NotEq) rNe:=by
 intro j8 s σ H x y v u Q I rx ry h;obtain⟨hs,q⟩:=h;cases x with
 |non=>
  cases rx;cases y with
  |non=>cases ry;exact PySem.EqNone.ne_none_none (qd4 I q (by simp))
  |bl j=>cases ry;exact PySem.EqNone.ne_none_bool (qd4 I q (by simp))
  |int j=>obtain⟨t',rfl⟩:=ry;exact PySem.EqNone.ne_none_int (qd4 I q (by simp))
  |str j=>obtain⟨t',rfl⟩:=ry;exact PySem.EqNone.ne_none_str (qd4 I q (by simp))
  |_=>exact absurd (show false=true from hs) ZD
 |bl i=>
  cases rx;cases y with
  |non=>cases ry;exact PySem.EqNone.ne_bool_none (qd4 I q (by simp))
  |bl j=>cases ry;exact ne_bool (qd4 I q (Yt not xp2))
  |str j=>obtain⟨t',rfl⟩:=ry;exact PySem.EqMixed.ne_bool_str (qd4 I q (by simp))
  |_=>exact absurd (show false=true from hs) ZD
 |int i=>
  obtain⟨t,rfl⟩:=rx;cases y with
  |non=>cases ry;exact PySem.EqNone.ne_int_none (qd4 I q (by simp))
  |int j=>obtain⟨t',rfl⟩:=ry;exact ne_int (qd4 I q (Yt not q54))
  |str j=>obtain⟨t',rfl⟩:=ry;exact PySem.EqMixed.ne_int_str (qd4 I q (by simp))
  |_=>exact absurd (show false=true from hs) ZD
 |str i=>
  obtain⟨t,rfl⟩:=rx;cases y with
  |non=>cases ry;exact PySem.EqNone.ne_str_none (qd4 I q (by simp))
  |bl j=>cases ry;exact PySem.EqMixed.ne_str_bool (qd4 I q (by simp))
  |int j=>obtain⟨t',rfl⟩:=ry;exact PySem.EqMixed.ne_str_int (qd4 I q (by simp))
  |str j=>obtain⟨t',rfl⟩:=ry;exact ne_str (qd4 I q (Yt not q55))
  |_=>exact absurd (show false=true from hs) ZD
 |byt i=>
  obtain⟨t,rfl⟩:=rx;cases y with
  |byt j=>obtain⟨t',rfl⟩:=ry;exact PySem.W.ne_bytes (qd4 I q (Yt not q56))
  |_=>exact absurd (show false=true from hs) ZD
 |_=>cases y<;>exact absurd (show false=true from hs) ZD
theorem qu1:OpR X (compareOp .Lt) (rI0 λi j=>.bl (decide (i<j))):=opB0 λ_ _ _ _ _ _ _ q=>lt_int q
theorem qC5:OpR X (compareOp .LtE) (rI0 λi j=>.bl (decide (i<=j))):=opB0 λ_ _ _ _ _ _ _ q=>le_int q
theorem xh7:OpR X (compareOp .Gt) (rI0 λi j=>.bl (decide (j<i))):=opB0 λ_ _ _ _ _ _ _ q=>gt_int q
theorem qb7 (b:Expr){op:CmpOp}(h:op≠.In:=by decide) (h2:op≠.NotIn:=by decide):behindInMarks op b=false:=by
 have e1:(op==CmpOp.In)=false:=by cases op<;>first|rfl|exact absurd rfl h
 have e2:(op==CmpOp.NotIn)=false:=by cases op<;>first|rfl|exact absurd rfl h2
 cases b<;>simp[behindInMarks,e1,e2]
theorem qg3 {op:CmpOp}{r:R2}(ho:OpR X (compareOp op) r) (ha:PE X a ta) (hb:PE X b tb) (hm:behindInMarks op b=false):PE X (.Compare a [op] [b] pos) (tOp r ta tb):=by
 intro j8 s σ H Q I h;exact wpAny_Compare1 (binT ha hb I h λv u s2 x y H2 I2 rx ry q=>ho j8 s2 σ H2 x y v u Q I2 rx ry q) hm
def xI6 (t:TE):TT:=λσ H Q=>t σ H λx H'=>∃k,x=.bl k/\Q k H'
theorem qc0 {op:CmpOp}{r:R2}(ho:OpR X (compareOp op) r) (ha:PE X a ta) (hb:PE X b tb) (hm:behindInMarks op b=false):PT X (.Compare a [op] [b] pos) (xI6 (tOp r ta tb)):=by
 intro j8 s σ H Q I h;refine wpAny_isTrue_Compare1 (thn (ha j8 s σ H _ I h) λv s1 ⟨x,H1,I1,r1,q1⟩=>thn (hb j8 s1 σ H1 _ I1 q1) λu s2 ⟨y,H2,I2,r2,q2⟩=>
  thn (ho j8 s2 σ H2 x y v u _ I2 r1 r2 q2) λc s3 ⟨z,H3,I3,r3,k,e,q3⟩=>?_) hm
 subst e;cases r3;exact Ys ⟨H3,I3,q3⟩
def xA7 (r r':R2) (ta tb tc:TE):TE:=λσ H Q=>ta σ H λx H1=>tb σ H1 λy H2=>r x y H2 λz H3=>∃k,z=.bl k /\
 (if k=true then tc σ H3 λw' H4=>r' y w' H4 Q else Q (.bl false) H3)
theorem qU1 {op op':CmpOp}{r r':R2}(ho:OpR X (compareOp op) r) (ho':OpR X (compareOp op') r') (ha:PE X a ta) (hb:PE X b tb) (hc:PE X c tc)
  (hm:lastMarks [op,op'] [b,c]=false:=by with_unfolding_all rfl):PE X (.Compare a [op,op'] [b,c] pos) (xA7 r r' ta tb tc):=by
 intro j8 s σ H Q I h;refine Compare_chain (thn (ha j8 s σ H _ I h) λv s1 ⟨x,H1,I1,r1,q1⟩=>chain_link (thn (hb j8 s1 σ H1 _ I1 q1) λu s2 ⟨y,H2,I2,r2,q2⟩=>
  thn (ho j8 s2 σ H2 x y v u _ I2 r1 r2 q2) λd s3 ⟨z,H3,I3,r3,k,e,q3⟩=>?_)) hm
 subst e;cases r3;refine Ys ?_;cases k with
 |false=>exact ite_ff ⟨.bl false,H3,I3,rfl,q3⟩
 |true=>exact ite_tt (chain_last (thn (hc j8 s3 σ H3 _ I3 q3) λw' s4 ⟨z',H4,I4,r4,q4⟩=>ho' j8 s4 σ H4 y z' u w' Q I4 r2 r4 q4))
theorem qU2:(sizeLine:Nat)<2^63:=by rw[Y9];decide
theorem qj8 {x:V}{us:List Value}(r:Vals [x] us):∃u,us=[u]/\RelV x u:=by
 cases r with
 |cons r1 r2=>cases r2;exact⟨_,rfl,r1⟩
theorem xh8 {x y:V}{us:List Value}(r:Vals [x,y] us):∃u w',us=[u,w']/\RelV x u/\RelV y w':=by
 cases r with
 |cons r1 r2=>
  cases r2 with
  |cons r3 r4=>cases r4;exact⟨_,_,rfl,r1,r3⟩
theorem qU3:qh1 X (.builtin "abs") (λxs H Q=>∃i,xs=[.int i]/\Q (.int (if i<0 then -i else i)) H):=by
 intro j8 s σ H xs us Q I r h;obtain⟨i,rfl,q⟩:=h;obtain⟨u,rfl,t,rfl⟩:=qj8 r;exact call_abs_int λu tk=>⟨.int (if i<0 then -i else i),H,I.tok _,⟨_,rfl⟩,q⟩
theorem qL2 (hc:X.calm=true):qh1 X (.builtin "max") (λxs H Q=>∃i j,xs=[.int i,.int j]/\Q (.int (if j>i then j else i)) H):=by
 intro j8 s σ H xs us Q I r h;obtain⟨i,j,rfl,q⟩:=h;obtain⟨u,w',rfl,⟨t,rfl⟩,⟨t',rfl⟩⟩:=xh8 r;refine max_two_ints (I.ok.hd hc) λh' tk k=>⟨_,H,I.kept k,?_,q⟩;by_cases hj:j>i
 ·rw[Zp hj,Zp hj];exact⟨_,rfl⟩
 ·rw[Zk hj,Zk hj];exact⟨_,rfl⟩
theorem q59 (hc:X.calm=true):qh1 X (.builtin "min") (λxs H Q=>∃i j,xs=[.int i,.int j]/\Q (.int (if j<i then j else i)) H):=by
 intro j8 s σ H xs us Q I r h;obtain⟨i,j,rfl,q⟩:=h;obtain⟨u,w',rfl,⟨t,rfl⟩,⟨t',rfl⟩⟩:=xh8 r;refine min_two_ints (I.ok.hd hc) λh' tk k=>⟨_,H,I.kept k,?_,q⟩;by_cases hj:j<i
 ·rw[Zp hj,Zp hj];exact⟨_,rfl⟩
 ·rw[Zk hj,Zk hj];exact⟨_,rfl⟩
theorem q60:qh1 X (.type "int") (λxs H Q=>(∃i,xs=[.int i]/\Q (.int i) H)\/∃k,xs=[.bl k]/\Q (.int (if k then 1 else 0)) H):=by
 intro j8 s σ H xs us Q I r h;rcases h with ⟨i,rfl,q⟩|⟨k,rfl,q⟩
 ·obtain⟨u,rfl,t,rfl⟩:=qj8 r;exact call_int_int ⟨.int i,H,I,⟨_,rfl⟩,q⟩
 ·obtain⟨u,rfl,r1⟩:=qj8 r;cases r1;exact call_int_bool ⟨.int (if k then 1 else 0),H,I.tok _,⟨_,rfl⟩,q⟩
end
structure ObjM (h:Heap) (x dx C:Addr) (mA:Str->Option Value):Prop where
 obj:h.get? x=some (PySem.W.instObj C dx)
 ns:h.Ns1 dx mA
 ne:dx≠x
theorem q61 {h:Heap}{dx:Addr}{mA:Str->Option Value}(n:h.Ns1 dx mA):∃od,h.get? dx=some od/\∀name,PySem.W.lookIn name od=some (mA name):=by
 obtain⟨o,es,ep,ho,hd,hk,_,hm⟩:=n;refine⟨o,ho,λname=>?_⟩;have e:=hm name;unfold nsFind findBy at e;rw[<- Array.find?_toList] at e;unfold PySem.W.lookIn;rw[hd];dsimp only;split
 ·rename_i y q;rw[q] at e;exact Yt some e
 ·rename_i q;rw[q] at e;have a:es.toList.any (·.refKey)=false:=by
   rw[WD];intro y hy;obtain⟨z,t,hkey⟩:=hk y (Array.mem_toList_iff.mp hy);simp[DictEntry.refKey,hkey]
  have a':¬es.toList.any (·.refKey)=true:=by rw[a];exact ZD
  rw[Zk a'];exact Yt some e
theorem ObjM.look {h:Heap}{x dx C:Addr}{mA:Str->Option Value}(I:ObjM h x dx C mA):∃od,PySem.W.InstAt h x (PySem.W.instObj C dx) C (some od)/\∀name,PySem.W.lookIn name od=some (mA name):=
 let ⟨od,ho,hl⟩:=q61 I.ns
 ⟨od,⟨I.obj,rfl,rfl,ho⟩,hl⟩
section
variable {prog:Program}{w:World}{A:Around}{E:Value->Shared->Prop}{s:Shared}{K:PySem.W.Frag}{x dx C f:Addr}{mA:Str->Option Value}{name:Str}{v:Value}
theorem xs6 {expr:Bool}{Q:Value->Shared->Prop}(X:K.In s.heap) (I:ObjM s.heap x dx C mA) (hg:PySem.W.plainGet K C name=true) (hh:PySem.W.hasDictIn K C=true)
  (ha:PySem.W.findIn K (.ref C) name=some none) (hv:mA name=some v) (hv':PySem.W.handedIn v=true) (h:Q v { s with toks:=s.toks+1 }) :
  wpAny (model prog w) A (getAttr (.ref x) name expr) Q E s:=by
 obtain⟨od,J,hl⟩:=I.look;exact PySem.W.get_value X J (Vd hg).1 (PySem.W.findObj_own hh ha rfl (by rw[hl,hv])) hv' h
theorem xh9 {pl:Sem Bool}{Q:Value×List Value->Shared->Prop}(X:K.In s.heap) (I:ObjM s.heap x dx C mA) (hg:PySem.W.plainGet K C name=true)
  (hf:PySem.W.findIn K (.ref C) name=some (some (.ref f))) (ht:PySem.W.isFn K (.ref f)=true) (hv:mA name=none) (h:Q (.ref f,[.ref x]) s) :
  wpAny (model prog w) A (getMethod (.ref x) name pl) Q E s:=by
 obtain⟨od,J,hl⟩:=I.look;exact PySem.W.method_fn X J (Vd hg).1 (Vd hg).2 hf (Y1.mp ht) (by show (PySem.W.lookIn name od).map (·.isSome)=some false;rw[hl,hv];rfl) h
theorem xs7 {ns:List Str}{Q:Unit->Shared->Prop}(X:K.In s.heap) (I:ObjM s.heap x dx C mA)
  (hs:PySem.W.findIn K (.ref C) "__setattr__" = some (some (.builtin "object.__setattr__"))) (hp:PySem.W.plainOver K C=true) (ht:PySem.W.takerIn K C name=some none) (hh:PySem.W.hasDictIn K C=true)
  (hw:PySem.Within mA ns) (hsz:ns.length<=sizeLine)
  (h:∀h',ObjM h' x dx C (λy=>if y=name then some v else mA y)->Heap.SameBut dx s.heap h'->Q () { s with heap:=h',toks:=s.toks+2 }) :
  wpAny (model prog w) A (setAttr (.ref x) name v) Q E s:=by
 obtain⟨od,J,hl⟩:=I.look;refine PySem.W.set_plain X J hs (PySem.W.osa_open (s:={ s with toks:=s.toks+1 }) (r:=none) X J hp ht λb=>?_);obtain⟨cd,hc,hd'⟩:=PySem.W.any_some hh;have hx:s.heap.get? x=some ⟨.ref C,some dx,.plain,#[]⟩:=I.obj;refine Za (Zg (Za (Za (wpAny_loadPart hx (Za (PySem.W.Looks.here (s:={ s with toks:=s.toks+1 }) (PySem.W.looks_clsIn X hc) ?_))))));rw[hd'];refine Zg (a:=some dx) (Za (Zg (Za ?_)));refine wpAny_nsSet1 (s:={ s with toks:=s.toks+1 }) I.ns λh' hn2 hs2=>?_;obtain⟨oD,esD,epD,hoD,hdD,hcD⟩:=hn2.count (PySem.Within.cons name v hw);refine Za (wpAny_lookBehind hoD (by rw[hdD];exact pastItsLine_dict (ZL hcD (by rw[ZJ];lia))) ?_);exact Zg (h _ ⟨(hs2.2 _ (Yx I.ne)).trans I.obj,hn2,I.ne⟩ hs2)
theorem xi0 {R:Result->Shared->Prop}{vs:List Value}{kw:List (Str×Value)}(X:K.In s.heap) (hm:PySem.W.makesIn K C=true)
  (hi:PySem.W.findIn K (.ref C) "__init__" = some (some (.ref f))) (hf:PySem.W.typeIn K (.ref f)=some (.type "function"))
  (h:codeAny (model prog w) (A.under (.builtin "type.__call__" ⟨.ref C::vs,kw⟩)) (.call (.ref f) ⟨.ref (s.heap.objs.size+1)::vs,kw⟩) (PySem.W.InitBack (s.heap.objs.size+1) R)
   { s with heap:=(s.heap.push PySem.W.emptyDict).push (PySem.W.instObj C s.heap.objs.size) }) :
  codeAny (model prog w) A (.call (.ref C) ⟨vs,kw⟩) R s:=by
 obtain⟨hh,g,d,t,os⟩:=s;exact PySem.W.make_core (PySem.W.makes_of X hm) (PySem.W.looks_findIn X hi) (λself=>PySem.W.bind_fn X self hf) (.inl rfl) h
end
def putF (f:Str) (v:V):List (Str×V)->List (Str×V)
 |[]=>[(f,v)]
 |(g,x)::r=>if g=f then (g,v)::r else (g,x)::putF f v r
theorem qg0 (f g:Str) (v:V):∀fs:List (Str×V),(putF f v fs).lookup g=if g=f then some v else fs.lookup g
 |[]=>by
  show List.lookup g [(f,v)]=_;by_cases h:g=f
  ·have hb:(g==f)=true:=Y1.mpr h;simp only[List.lookup,hb,Zp h]
  ·have hb:(g==f)=false:=YB.mpr h;simp only[List.lookup,hb,Zk h]
 |(k,x)::r=>by
  have ih:=qg0 f g v r;rw[show putF f v ((k,x)::r)=(if k=f then (k,v)::r else (k,x)::putF f v r) from rfl];by_cases hk:k=f
  ·rw[Zp hk];by_cases h:g=k
   ·have hb:(g==k)=true:=Y1.mpr h;simp only[List.lookup,hb,Zp (h.trans hk)]
   ·have hb:(g==k)=false:=YB.mpr h;simp only[List.lookup,hb,Zk (λe:g=f=>h (e.trans hk.symm))]
  ·rw[Zk hk];by_cases h:g=k
   ·have hb:(g==k)=true:=Y1.mpr h;simp only[List.lookup,hb,Zk (λe:g=f=>hk (h.symm.trans e))]
   ·have hb:(g==k)=false:=YB.mpr h;simp only[List.lookup,hb];exact ih
theorem qy3 (f:Str) (v:V):∀fs:List (Str×V),f∈(putF f v fs).map (·.1)/\∀g,g∈fs.map (·.1)->g∈(putF f v fs).map (·.1)
 |[]=>⟨by simp[putF],λg h=>by simp at h⟩
 |(k,x)::r=>by
  obtain⟨i1,i2⟩:=qy3 f v r;rw[show putF f v ((k,x)::r)=(if k=f then (k,v)::r else (k,x)::putF f v r) from rfl];by_cases hk:k=f
  ·rw[Zp hk];subst hk;exact⟨by simp,λg h=>by simpa using h⟩
  ·rw[Zk hk];refine⟨?_,λg h=>?_⟩
   ·rw[ZC];exact Zn _ i1
   ·rw[ZC] at h ⊢;rcases ZB.mp h with e|e
    ·exact ZB.mpr (.inl e)
    ·exact Zn _ (i2 g e)
theorem qy4 (f:Str) (v:V):∀fs:List (Str×V),(putF f v fs).length<=fs.length+1
 |[]=>by simp[putF]
 |(k,x)::r=>by
  have ih:=qy4 f v r;rw[show putF f v ((k,x)::r)=(if k=f then (k,v)::r else (k,x)::putF f v r) from rfl];by_cases hk:k=f
  ·rw[Zp hk,ZJ,ZJ];lia
  ·rw[Zk hk,ZJ,ZJ];lia
theorem RelO.some_of {v:V}{o:Option Value}(r:RelO (some v) o):∃u,o=some u/\RelV v u:=by
 cases o with
 |none=>exact (show False from r).elim
 |some u=>exact⟨u,rfl,r⟩
theorem RelO.none_of {o:Option Value}(r:RelO none o):o=none:=by
 cases o with
 |none=>rfl
 |some u=>exact (show False from r).elim
theorem q62 {v:V}{u:Value}(r:RelV v u):PySem.W.handedIn u=true:=by
 cases v with
 |non=>cases (show u=Value.none from r);rfl
 |bl b=>cases (show u=Value.bool b from r);rfl
 |int i=>obtain⟨t,e⟩:=(show ∃t,u=Value.int i t from r);cases e;rfl
 |str x=>obtain⟨t,e⟩:=(show ∃t,u=Value.str x t from r);cases e;rfl
 |byt b=>obtain⟨t,e⟩:=(show ∃t,u=Value.bytes b t from r);cases e;rfl
 |flt b=>obtain⟨t,e⟩:=(show ∃t,u=Value.float b t from r);cases e;rfl
 |ref a=>cases (show u=Value.ref a from r);rfl
 |ty n=>cases (show u=Value.type n from r);rfl
section
variable {P:Program}{w:World}{H H':Hp}{h h':Heap}{a C dx:Addr}{fs fs':List (Str×V)}
theorem qG1 (hok:HOk P w H h) (e:H a=some (.ins C dx fs)):∃mA,ObjM h a dx C mA/\(∀f,RelO (fs.lookup f) (mA f))/\PySem.Within mA (fs.map (·.1))/\fs.length<=1000/\H dx=some (.own a):=by
 obtain⟨d,z,ne,ob,mA,n,r,q⟩:=(show ObjOk P w H h a (.ins C dx fs) from hok a _ e);exact⟨mA,⟨ob,n,ne⟩,r,q,z,d⟩
end
structure Cls (K:PySem.W.Frag) (C:Addr):Prop where
 pg:PySem.W.plainGet K C Str.empty=true
 hd:PySem.W.hasDictIn K C=true
 po:PySem.W.plainOver K C=true
 sa:PySem.W.findIn K (.ref C) "__setattr__" = some (some (.builtin "object.__setattr__"))
theorem Cls.get {K:PySem.W.Frag}{C:Addr}(c:Cls K C) (f:Str):PySem.W.plainGet K C f=true:=c.pg
def NoAttr (K:PySem.W.Frag) (C:Addr) (f:Str):Prop:=PySem.W.findIn K (.ref C) f=some none
theorem NoAttr.taker {K:PySem.W.Frag}{C:Addr}{f:Str}(n:NoAttr K C f):PySem.W.takerIn K C f=some none:=by
 unfold PySem.W.takerIn;rw[show PySem.W.findIn K (.ref C) f=some none from n]
 rfl
structure Meth (K:PySem.W.Frag) (C:Addr) (m:Str) (f:Addr):Prop where
 at_:PySem.W.findIn K (.ref C) m=some (some (.ref f))
 fn:PySem.W.isFn K (.ref f)=true
 kp:PySem.W.keepIn K (.ref f)=true
section
variable {X:Cx}{j8:List (Addr×Obj)}{σ:St}{H:Hp}{s:Shared}{a C dx:Addr}{fs:List (Str×V)}{f:Str}{v:V}{A:Around}{E:Value->Shared->Prop}
theorem q06 {b:Bool}{Q:Value->Shared->Prop}(I:Inv X j8 σ H s) (e:H a=some (.ins C dx fs)) (c:Cls X.K C) (n:NoAttr X.K C f) (l:fs.lookup f=some v)
  (h:∀u s',Inv X j8 σ H s'->RelV v u->Q u s'):wpAny (model X.prog X.w) A (getAttr (.ref a) f b) Q E s:=by
 obtain⟨mA,O,r,_,_,_⟩:=qG1 I.hok e;obtain⟨u,hu,ru⟩:=RelO.some_of (v:=v) (o:=mA f) (by rw[<- l];exact r f);exact xs6 I.kIn O (c.get f) c.hd n hu (q62 ru) (h u _ (I.tok _) ru)
theorem q07 {m:Str}{g:Addr}{pl:Sem Bool}{Q:Value×List Value->Shared->Prop}(I:Inv X j8 σ H s) (e:H a=some (.ins C dx fs)) (c:Cls X.K C) (k:Meth X.K C m g) (l:fs.lookup m=none)
  (h:Q (.ref g,[.ref a]) s):wpAny (model X.prog X.w) A (getMethod (.ref a) m pl) Q E s:=by
 obtain⟨mA,O,r,_,_,_⟩:=qG1 I.hok e;have hn:mA m=none:=RelO.none_of (by rw[<- l];exact r m);exact xh9 I.kIn O (c.get m) k.at_ k.fn hn h
theorem q08 {y:V}{u:Value}{Q:Unit->Shared->Prop}(I:Inv X j8 σ H s) (e:H a=some (.ins C dx fs)) (c:Cls X.K C) (n:NoAttr X.K C f) (hl:fs.length<1000) (ry:RelV y u)
  (h:∀s',Inv X j8 σ (upd H a (.ins C dx (putF f y fs))) s'->Q () s'):wpAny (model X.prog X.w) A (setAttr (.ref a) f u) Q E s:=by
 obtain⟨mA,O,r,wi,_,ho⟩:=qG1 I.hok e;have hz:(fs.map (·.1)).length<=sizeLine:=by rw[Ze,Y9];lia
 refine xs7 I.kIn O c.sa c.po n.taker c.hd wi hz λh' O' sb=>h _ ?_;have hd:∃o,h'.get? dx=some o:=let ⟨o,_,_,e',_⟩:=O'.ns;⟨o,e'⟩;refine I.write (x:=a) (e:=dx) (by rw[e];exact True.intro) (.inr ho) (λb q hb z=>(sb.2 b hb).trans z) hd ?_;refine⟨by rw[qa5 O.ne];exact ho,?_,O.ne,O'.obj,_,O'.ns,λg=>?_,λg hg=>?_⟩
 ·have:=qy4 f y fs;lia
 ·show RelO ((putF f y fs).lookup g) (if g=f then some u else mA g);rw[qg0];by_cases q:g=f
  ·rw[Zp q,Zp q];exact ry
  ·rw[Zk q,Zk q];exact r g
 ·by_cases q:g=f
  ·rw[q];exact (qy3 f y fs).1
  ·refine (qy3 f y fs).2 g (wi g λz=>hg ?_);show (if g=f then some u else mA g)=none;rw[Zk q];exact z
theorem Inv.made (I:Inv X j8 σ H s):Inv X j8 σ (upd (upd H s.heap.objs.size (.own (s.heap.objs.size+1))) (s.heap.objs.size+1) (.ins C s.heap.objs.size []))
  { s with heap:=(s.heap.push PySem.W.emptyDict).push (PySem.W.instObj C s.heap.objs.size) }:=by
 have e1:(s.heap.push PySem.W.emptyDict).get? s.heap.objs.size=some PySem.W.emptyDict:=Zo s.heap rfl;have e2:((s.heap.push PySem.W.emptyDict).push (PySem.W.instObj C s.heap.objs.size)).get? (s.heap.objs.size+1)=some (PySem.W.instObj C s.heap.objs.size):=by
  have:=Zo (s.heap.push PySem.W.emptyDict) (o:=PySem.W.instObj C s.heap.objs.size) rfl
  rwa [YG] at this
 have e3:(s.heap.push PySem.W.emptyDict).Ns s.heap.objs.size (λ_=>none):=⟨PySem.W.emptyDict,#[],_,e1,rfl,(λe he=>absurd he (by simp)),λ_=>rfl⟩;have I1:=I.laid (a:=s.heap.objs.size) (o:=.own (s.heap.objs.size+1)) (h':=s.heap.push PySem.W.emptyDict) (t':=s.toks) (λb u q=>Zf _ q) (Zd _) ⟨_,e1⟩;refine I1.laid (a:=s.heap.objs.size+1) (o:=.ins C s.heap.objs.size []) (t':=s.toks) (λb u q=>Zf _ q) (WE (YG _ _)) ?_;have ne:s.heap.objs.size≠s.heap.objs.size+1:=ZA (Yy _);refine⟨by rw[qa5 ne,qa1],ZE _,ne,e2,λ_=>none,(Heap.Ns1.of_empty e3).at λo q=>Zf _ q,λ_=>True.intro,λy hy=>absurd rfl hy⟩
theorem xs8 {prog:Program}{w:World}{env:Env}{e:Expr}{f:Str}{pos:Pos}{s:Shared}{Q:Value->Shared->Prop}(hb:attributeBase e f env (eval e env)=eval e env)
  (h:wpAny (model prog w) A (eval e env) (λo s₁=>wpAny (model prog w) A (getAttr o f true) Q E s₁) E s):wpAny (model prog w) A (eval (.Attribute e f pos) env) Q E s:=
 Attribute_any_ h (by rw[arm_eval_Attribute,hb])
end
def tFld (K:PySem.W.Frag) (ta:TE) (f:Str):TE:=λσ H Q=>ta σ H λx H1=>∃a C dx fs v,x=.ref a/\H1 a=some (.ins C dx fs)/\Cls K C/\NoAttr K C f/\fs.lookup f=some v/\Q v H1
def sFld (K:PySem.W.Frag) (ta tv:TE) (f:Str):TS:=λD σ H=>tv σ H λy H1=>ta σ H1 λx H2=>∃a C dx fs,x=.ref a/\H2 a=some (.ins C dx fs)/\Cls K C/\NoAttr K C f/\fs.length<1000 /\
 D.nx σ (upd H2 a (.ins C dx (putF f y fs)))
section
variable {X:Cx}{o e value:Expr}{f:Str}{pos pos' tpos:Pos}{ta tv:TE}
theorem qD2 (he:PE X e ta) (hb:attributeBase e f X.env (eval e X.env)=eval e X.env):PE X (.Attribute e f pos) (tFld X.K ta f):=by
 intro j8 s σ H Q I h;refine xs8 hb (thn (he j8 s σ H _ I h) λu s1 ⟨x,H1,I1,rx,a,C,dx,fs,v,ex,ea,c,n,l,q⟩=>?_);subst ex;obtain rfl:u=Value.ref a:=rx;exact q06 I1 ea c n l λu' s2 I2 ru=>⟨v,H1,I2,ru,q⟩
theorem xp3 (ha:PE X o ta) (hv:PE X value tv) (hs:swapsWith value (some (.Attribute o f pos')) pos.line X.env=pure false):PS X (.Assign [.Attribute o f pos'] value pos) (sFld X.K ta tv f):=by
 intro j8 s σ H D I h;refine plainObj_wpAny_Assign_Attribute (thn (hv j8 s σ H _ I h) λu s1 ⟨y,H1,I1,ry,q⟩=>thn (ha j8 s1 σ H1 _ I1 q) λov s2 ⟨x,H2,I2,rx,a,C,dx,fs,ex,ea,c,n,l,q2⟩=>?_) hs;subst ex;obtain rfl:ov=Value.ref a:=rx;exact q08 I2 ea c n l ry λs3 I3=>⟨σ,_,I3,q2⟩
end
section
variable {X:Cx}{j8:List (Addr×Obj)}{σ:St}{H:Hp}{s:Shared}{A:Around}{E:Value->Shared->Prop}{Q:Value->Shared->Prop}{c:Value}{b:Bool}
inductive TyOf (K:PySem.W.Frag) (H:Hp):V->Value->Prop where
 |non:TyOf K H .non (.type "NoneType")
 |bl (x:Bool):TyOf K H (.bl x) (.type "bool")
 |int (i:Int):TyOf K H (.int i) (.type "int")
 |str (x:Str):TyOf K H (.str x) (.type "str")
 |flt (x:UInt64):TyOf K H (.flt x) (.type "float")
 |lst {a:Addr}{xs:List V}(e:H a=some (.lst xs)):TyOf K H (.ref a) (.type "list")
 |frz {a:Addr}{o:Obj}{xs:List V}(e:H a=some (.frz o (.lst xs))):TyOf K H (.ref a) (.type "list")
 |tup {a:Addr}{xs:List V}(e:H a=some (.tup xs)):TyOf K H (.ref a) (.type "tuple")
 |dK {a:Addr}{kvs:List (Key×V)}(e:H a=some (.dK kvs)):TyOf K H (.ref a) (.type "dict")
 |dT {a:Addr}{kvs:List (List Key×V)}(e:H a=some (.dT kvs)):TyOf K H (.ref a) (.type "dict")
 |ins {a C dx:Addr}{fs:List (Str×V)}(e:H a=some (.ins C dx fs)) (cl:Cls K C) (ha:PySem.W.findIn K (.ref C) "__class__" = some (some (.builtin "object.__class__")))
   (hn:PySem.W.specialIn K (.builtin "object.__class__") "__get__" = some (some (.builtin "getset_descriptor.__get__"))) (htk:PySem.W.takesIn K (.builtin "object.__class__")=some true)
   (hm:PySem.W.mroIn K C (.type "object")=some true):TyOf K H (.ref a) (.ref C)
theorem q63 {x:V}{u t:Value}(I:Inv X j8 σ H s) (rx:RelV x u) (ty:TyOf X.K H x t) (e:PySem.W.kitOne X.K t c=some b) (h:∀tk,Q (.bool b) { s with toks:=tk }) :
  wpAny (model X.prog X.w) A (call (.builtin "isinstance") [u,c]) Q E s:=by
 cases ty with
 |non=>cases (show u=Value.none from rx);exact Yw PySem.W.kitx_none I.kIn True.intro e (λz=>nomatch z) h
 |bl y=>cases (show u=Value.bool y from rx);exact Yw PySem.W.kitx_bool I.kIn True.intro e (λz=>nomatch z) h
 |int i=>obtain⟨t,q⟩:=(show ∃t,u=Value.int i t from rx);cases q;exact Yw PySem.W.kitx_int I.kIn True.intro e (λz=>nomatch z) h
 |str y=>obtain⟨t,q⟩:=(show ∃t,u=Value.str y t from rx);cases q;exact Yw PySem.W.kitx_str I.kIn True.intro e (λz=>nomatch z) h
 |flt y=>obtain⟨t,q⟩:=(show ∃t,u=Value.float y t from rx);cases q;exact Yw PySem.W.kitx_float I.kIn True.intro e (λz=>nomatch z) h
 |@lst a xs ea=>
  cases (show u=Value.ref a from rx);obtain⟨_,_,n,_,h1⟩:=(show ObjOk X.prog X.w H s.heap a (.lst xs) from I.hok a _ ea);exact Yw PySem.W.kitx_list I.kIn ⟨_,h1,rfl⟩ e (λz=>nomatch z) h
 |@frz a ob xs ea=>
  cases (show u=Value.ref a from rx);obtain⟨_,_,_,n,_,h1⟩:=(show ObjOk X.prog X.w H s.heap a (.frz ob (.lst xs)) from I.hok a _ ea);exact Yw PySem.W.kitx_list I.kIn ⟨_,h1,rfl⟩ e (λz=>nomatch z) h
 |@tup a xs ea=>
  cases (show u=Value.ref a from rx);obtain⟨_,_,_,p⟩:=(show ObjOk X.prog X.w H s.heap a (.tup xs) from I.hok a _ ea);obtain⟨o,h1,h2,_⟩:=p;exact Yw PySem.W.kitx_tuple I.kIn ⟨o,h1,h2⟩ e (λz=>nomatch z) h
 |@dK a kvs ea=>
  cases (show u=Value.ref a from rx);obtain⟨_,_,vs,_,p⟩:=(show ObjOk X.prog X.w H s.heap a (.dK kvs) from I.hok a _ ea);obtain⟨o,es,ep,h1,h2,_⟩:=p;exact Yw PySem.W.kitx_dict I.kIn ⟨o,h1,h2.1⟩ e (λz=>nomatch z) h
 |@dT a kvs ea=>
  cases (show u=Value.ref a from rx);obtain⟨_,_,xs,_,o,es,ep,h1,h2,_⟩:=(show ObjOk X.prog X.w H s.heap a (.dT kvs) from I.hok a _ ea);exact Yw PySem.W.kitx_dict I.kIn ⟨o,h1,h2.1⟩ e (λz=>nomatch z) h
 |@ins a C dx fs ea cl ha hn htk hm=>
  cases (show u=Value.ref a from rx);obtain⟨mA,O,_⟩:=qG1 I.hok ea;obtain⟨od,J,_⟩:=O.look;exact Yw (PySem.W.kitx_own (cl.get _) cl.hd ha hn htk hm) I.kIn J e (λz=>nomatch z) h
end
structure Room (k:Nat) (A:Around):Prop where
 hd:A.handled=none
 dp:A.depth+3*k+5<recursionLimit
 un:A.units+16*k+200<cLine
 gd:A.guards=some []
theorem Room.mono {j k:Nat}{A:Around}(r:Room k A) (h:j<=k):Room j A:=⟨r.hd,by have:=r.dp;lia,by have:=r.un;lia,r.gd⟩
theorem Room.deeper {k:Nat}{A:Around}(r:Room (k+1) A) (env:Env):Room k (A.deeper env):=
 ⟨r.hd,by have:=r.dp;show A.depth+1+3*k+5<_;lia,by have:=r.un;show A.units+3+16*k+200<_;lia,r.gd⟩
theorem q09 {A:Around}{C:Addr}{us:List Value}{kw:List (Str×Value)}:(A.under (.builtin "type.__call__" ⟨.ref C::us,kw⟩)).depth=A.depth+1:=by
 first|rfl|simp[Around.under,Code.weight,Code.isCreation,Code.isGuard,Code.isCaller,Code.frames,Code.isFrame,guardIds]
theorem q10 {A:Around}{C:Addr}{us:List Value}{kw:List (Str×Value)}:(A.under (.builtin "type.__call__" ⟨.ref C::us,kw⟩)).units=A.units+1:=by
 first|rfl|simp[Around.under,Code.cUnits,Code.frames,Code.isFrame]
theorem qR3 {A:Around}{C:Addr}{us:List Value}{kw:List (Str×Value)}:(A.under (.builtin "type.__call__" ⟨.ref C::us,kw⟩)).guards=A.guards:=by
 first|rfl|(unfold Around.under;simp[Code.guards,Code.isGuard,guardIds,pushGuards])|(cases h:A.guards<;>simp[Around.under,Code.guards,Code.isGuard,guardIds,pushGuards,h])
theorem Room.make {k:Nat}{A:Around}(r:Room (k+1) A) (C:Addr) (us:List Value) (kw:List (Str×Value)):Room k (A.under (.builtin "type.__call__" ⟨.ref C::us,kw⟩)):=
 ⟨r.hd,by have:=r.dp;rw[q09];lia,by have:=r.un;rw[q10];lia,by rw[qR3];exact r.gd⟩
theorem Room.depth {k:Nat}{A:Around}(r:Room k A):A.depth<recursionLimit:=by have:=r.dp;lia
theorem Room.units {k:Nat}{A:Around}(r:Room k A):A.units+64<cLine:=by have:=r.un;lia
def tNil:TA:=λ_ H Q=>Q [] H
def xA8 (ta:TE) (tr:TA):TA:=λσ H Q=>ta σ H λx H1=>tr σ H1 λxs H2=>Q (x::xs) H2
section
variable {X:Cx}{e:Expr}{es:List Expr}{te:TE}{t:TA}{pos:Pos}
theorem qa2:PA X [] tNil:=λ_ _ _ _ H Q I h=>Calls.spliced_nil ⟨[],H,I,.nil,h⟩
theorem qa0 (ha:PE X e te) (hr:PA X es t) (hs:starEach (e::es) X.env=(false,eval e X.env)::starEach es X.env:=by rfl):PA X (e::es) (xA8 te t):=by
 intro pos j8 s σ H Q I h;rw[hs];show wpAny _ _ (spliced ((false,eval e X.env)::backTo pos (starEach es X.env))) _ _ s;refine Vp (thn (ha j8 s σ H _ I h) λu s1 ⟨x,H1,I1,r1,q1⟩=>?_);exact thn (hr pos j8 s1 σ H1 _ I1 q1) λus s2 ⟨xs,H2,I2,r2,q2⟩=>⟨x::xs,H2,I2,.cons r1 r2,q2⟩
def tTup (t:TA):TE:=λσ H Q=>t σ H λxs H1=>xs.length<=sizeLine/\∀p,H1 p=none->Q (.ref p) (upd H1 p (.tup xs))
def tLst (t:TA):TE:=λσ H Q=>t σ H λxs H1=>xs.length<=sizeLine/\∀p,H1 p=none->Q (.ref p) (upd H1 p (.lst xs))
theorem ql7 {x1} (h:PA X es t):PE X (.Tuple es x1 pos) (tTup t):=by
 intro j8 s σ H Q I hq;refine wpAny_Tuple_spliced (thn (h pos j8 s σ H _ I hq) λus s1 ⟨xs,H1,I1,r,z,q⟩=>⟨by rw[<- r.length];exact z,?_⟩);have hf:H1 s1.heap.objs.size=none:=I1.hok.fresh (Zd _);refine⟨.ref s1.heap.objs.size,upd H1 s1.heap.objs.size (.tup xs),I1.laid (t':=s1.toks) (λb u e=>Zf _ e) (Zd _) ?_,rfl,q _ hf⟩;exact⟨z,us,r,⟨_,Zo _ rfl,rfl,⟨_,rfl⟩,rfl⟩⟩
theorem qf6 (h:PA X es t):PE X (.List es pos) (tLst t):=by
 intro j8 s σ H Q I hq;refine wpAny_List_spliced (thn (h pos j8 s σ H _ I hq) λus s1 ⟨xs,H1,I1,r,z,q⟩=>⟨by rw[<- r.length];exact z,?_⟩);have hf:H1 s1.heap.objs.size=none:=I1.hok.fresh (Zd _);refine⟨.ref s1.heap.objs.size,upd H1 s1.heap.objs.size (.lst xs),I1.laid (t':=s1.toks) (λb u e=>Zf _ e) (Zd _) ?_,rfl,q _ hf⟩;exact⟨z,us,0,r,Zo _ rfl⟩
end
abbrev Sp:=List V->Hp->VK->XK->Prop
abbrev CXT:=List Env->Hp->Shared->XK->Value->Shared->Prop
structure Env0 (P:Program) (w:World) (K:PySem.W.Frag) (mg:Str->Option Value) (base:Heap) (A:Around) (outer:List Env) (s:Shared) (H:Hp):Prop where
 frames:A.frames=some outer
 mod:Mod K mg base
 bs:∀b o,base.get? b=some o->s.heap.get? b=some o/\H b=none
 bsz:base.objs.size<=s.heap.objs.size
 funs:s.heap.FunFrames base outer
 frf:∀b∈frs outer,H b=none
 hok:HOk P w H s.heap
 bare:AllBare s.gens
def CE (outer:List Env) (P:Program) (w:World) (H:Hp) (s:Shared) (Q:VK) (u:Value) (s':Shared):Prop:=
 ∃v H',s'.os=s.os/\AllBare s'.gens/\Un (frs outer) [] H H' s.heap s'.heap/\HOk P w H' s'.heap/\RelV v u/\Q v H'
def CR (CX:CXT) (outer:List Env) (P:Program) (w:World) (H:Hp) (s:Shared) (Q:VK) (E:XK) (r:Result) (s':Shared):Prop:=
 match r with
 |.ok (.ret u)=>CE outer P w H s Q u s'
 |.ok _=>False
 |.error e=>CX outer H s E e s'
structure FnOk (P:Program) (w:World) (K:PySem.W.Frag) (mg:Str->Option Value) (base:Heap) (CX:CXT) (k:Nat) (f:Addr) (fd:FuncData) (ps:List Str) (sp:Sp):Prop where
 len:∀vs H Q E,sp vs H Q E->vs.length=ps.length
 run:∀(A:Around) (outer:List Env) (s:Shared) (H:Hp) (args:Args) (us:List Value) (vs:List V) (Q:VK) (E:XK),Room k A->Env0 P w K mg base A outer s H->BindsTo s fd args (ps.zip us)->Vals vs us->sp vs H Q E ->
  codeAny (model P w) A (.call (.ref f) args) (CR CX outer P w H s Q E) s
theorem Env0.make {P:Program}{w:World}{K:PySem.W.Frag}{mg:Str->Option Value}{base:Heap}{A:Around}{outer:List Env}{s:Shared}{H:Hp}(e:Env0 P w K mg base A outer s H) (C:Addr) (us:List Value) (kw:List (Str×Value)) :
  Env0 P w K mg base (A.under (.builtin "type.__call__" ⟨.ref C::us,kw⟩)) outer s H:=⟨by first|exact e.frames|(simpa [Around.under,Code.envs,Code.isFrame,pushEnvs] using e.frames),e.mod,e.bs,e.bsz,e.funs,e.frf,e.hok,e.bare⟩
section
variable {X:Cx}{j8:List (Addr×Obj)}{σ:St}{H:Hp}{s s':Shared}
theorem Inv.env0 (I:Inv X j8 σ H s):Env0 X.prog X.w X.K X.mg X.base X.A X.stack s H:=
 ⟨I.ok.frames,I.ok.mod,I.bs,ZL I.ok.bsz I.sz,I.stack,I.stkFree,I.hok,I.bare⟩
theorem Inv.after {Q:VK}{u:Value}(I:Inv X j8 σ H s) (h:CE X.stack X.prog X.w H s Q u s'):EP X j8 σ Q u s':=by
 obtain⟨v,H',os,bare,un,hok,r,q⟩:=h;obtain⟨hh,g,d,t,os'⟩:=s';obtain rfl:os'=s.os:=os;exact⟨v,H',I.call (h':=hh) (g':=g) (d':=d) (t':=t) (ch:=[]) un hok bare (λb z=>absurd z (by simp)),r,q⟩
end
def xA9 (sp:Sp) (dvs:List V) (E:XK) (t:TA):TE:=λσ H Q=>t σ H λvs H1=>sp (vs++dvs) H1 Q E
def xI7 (C:Addr) (m:Str) (sp:Sp) (dvs:List V) (E:XK) (ta:TE) (t:TA):TE:=λσ H Q=>ta σ H λx H1=>∃a dx fs,x=.ref a/\H1 a=some (.ins C dx fs)/\fs.lookup m=none /\
 t σ H1 λvs H2=>sp (x::(vs++dvs)) H2 Q E
def xI8 (C:Addr) (sp:Sp) (dvs:List V) (E:XK) (t:TA):TE:=λσ H Q=>t σ H λvs H1=>∀x dx,H1 x=none->H1 dx=none->dx≠x ->
 sp (.ref x::(vs++dvs)) (upd (upd H1 dx (.own x)) x (.ins C dx [])) (λv H2=>v=.non/\Q (.ref x) H2) E
def Binds (K:PySem.W.Frag) (fd:FuncData) (ps:List Str) (ds:List Value):Prop:=
 ∀(s:Shared) (us:List Value),K.In s.heap->(us++ds).length=ps.length->BindsTo s fd ⟨us,[]⟩ (ps.zip (us++ds))
theorem Binds.all {K:PySem.W.Frag}{fd:FuncData}{ps:List Str}(h:∀us:List Value,us.length=ps.length->bindArgs fd ⟨us,[]⟩=pure (ps.zip us)):Binds K fd ps []:=λs us _ hl=>by
 rw[XV] at hl ⊢;exact .of_eq (h us hl)
def qD3 (CX:CXT) (X:Cx) (E:XK):Prop:=∀(j8:List (Addr×Obj)) (σ:St) (H:Hp) (s:Shared) (e:Value) (s':Shared),Inv X j8 σ H s->CX X.stack H s E e s'->X.xe e s'
section
variable {X:Cx}{CX:CXT}{k:Nat}{f C:Addr}{fd:FuncData}{ps:List Str}{sp:Sp}{dvs:List V}{ds:List Value}{E:XK}{x m:Str}{p pos apos:Pos}{e o:Expr}{es:List Expr}{ta:TE}{t:TA}
theorem xp4 {j8:List (Addr×Obj)}{σ:St}{H:Hp}{s:Shared}{Q:VK}{us:List Value}{vs:List V}(F:FnOk X.prog X.w X.K X.mg X.base CX k f fd ps sp) (hr:Room k X.A) (hb:Binds X.K fd ps ds) (hd:Vals dvs ds) (hx:qD3 CX X E)
  (I:Inv X j8 σ H s) (r:Vals vs us) (h:sp (vs++dvs) H Q E):wpAny (model X.prog X.w) X.A (call (.ref f) us) (EP X j8 σ Q) X.xe s:=by
 have r2:Vals (vs++dvs) (us++ds):=r.append hd;have hl:(us++ds).length=ps.length:=by rw[<- r2.length];exact F.len _ _ _ _ h
 refine wpAny_call (WF (F.run X.A X.stack s H ⟨us,[]⟩ (us++ds) (vs++dvs) Q E hr I.env0 (hb s us I.kIn hl) r2 h) λr s' hq=>?_);cases r with
 |error e=>exact hx j8 σ H s e s' I hq
 |ok fl=>
  cases fl with
  |ret u=>exact I.after hq
  |next=>exact False.elim hq
  |brk=>exact False.elim hq
  |cont=>exact False.elim hq
theorem q64 (F:FnOk X.prog X.w X.K X.mg X.base CX k f fd ps sp) (hr:Room k X.A) (hg:Gl X x) (hm:X.mg x=some (.ref f)) (hk:PySem.W.keepIn X.K (.ref f)=true) (hb:Binds X.K fd ps ds) (hd:Vals dvs ds) (hx:qD3 CX X E)
  (ha:PA X (e::es) t) (w4:(x==("__debug__" : Str))=false:=by decide) (he:starEach (e::es) X.env=(false,eval e X.env)::starEach es X.env:=by rfl) (jS:(backTo pos (starEach es X.env)).any (·.1)=false:=by rfl) :
  PE X (.Call (.Name x p) (e::es) [] pos) (xA9 sp dvs E t):=by
 intro j8 s σ H Q I h;refine Wu (qR2 I hg hm ?_ w4);refine PySem.W.callWith_K (h₀:=X.base) I.ok.mod.kin hk (thn (ha pos j8 s σ H _ I h) λus s1 ⟨vs,H1,I1,r,q⟩=>⟨I1.kIn,?_⟩) he jS;exact xp4 F hr hb hd hx I1 r q
theorem q65 {pl:Sem Bool}(he:PE X o ta) (c:Cls X.K C) (hm:Meth X.K C m f) (F:FnOk X.prog X.w X.K X.mg X.base CX k f fd ps sp) (hr:Room k X.A) (hb:Binds X.K fd ps ds) (hd:Vals dvs ds) (hx:qD3 CX X E) (ha:PA X (e::es) t)
  (kF:starEach (e::es) X.env=(false,eval e X.env)::starEach es X.env:=by rfl) (jS:(backTo pos (starEach es X.env)).any (·.1)=false:=by rfl)
  (ht:eval (.Call (.Attribute o m apos) (e::es) [] pos) X.env=(do
   let ov <- eval o X.env
   standAt apos.atName
   let (f,first) <- holding [ov] (getMethod ov m pl)
   callWith pos f first (backTo pos (starEach (e::es) X.env)) (backToKw pos (keywordEach [] X.env))):=by rfl) :
  PE X (.Call (.Attribute o m apos) (e::es) [] pos) (xI7 C m sp dvs E ta t):=by
 intro j8 s σ H Q I h;refine PySem.W.methodCall_KW (pl:=pl) (thn (he j8 s σ H _ I h) λu s1 ⟨x,H1,I1,rx,a,dx,fs,ex,ea,l,q⟩=>?_) ht;subst ex;obtain rfl:u=Value.ref a:=rx;refine q07 I1 ea c hm l ?_;refine PySem.W.callWith_K (first:=[.ref a]) (h₀:=X.base) I.ok.mod.kin hm.kp (thn (ha pos j8 s1 σ H1 _ I1 q) λus s2 ⟨vs,H2,I2,r,q2⟩=>⟨I2.kIn,?_⟩) kF jS;exact xp4 (us:=.ref a::us) (vs:=.ref a::vs) F hr hb hd hx I2 (.cons rfl r) q2
structure Mk (K:PySem.W.Frag) (C f:Addr):Prop where
 makes:PySem.W.makesIn K C=true
 init:PySem.W.findIn K (.ref C) "__init__" = some (some (.ref f))
 fn:PySem.W.isFn K (.ref f)=true
 kp:PySem.W.keepIn K (.ref C)=true
theorem xi1 {j8:List (Addr×Obj)}{σ:St}{H:Hp}{s:Shared}{Q:VK}{us:List Value}{vs:List V}(M:Mk X.K C f) (F:FnOk X.prog X.w X.K X.mg X.base CX k f fd ps sp) (hr:Room (k+1) X.A) (hb:Binds X.K fd ps ds) (hd:Vals dvs ds)
  (hx:qD3 CX X E) (I:Inv X j8 σ H s) (r:Vals vs us)
  (h:∀x dx,H x=none->H dx=none->dx≠x->sp (.ref x::(vs++dvs)) (upd (upd H dx (.own x)) x (.ins C dx [])) (λv H2=>v=.non/\Q (.ref x) H2) E) :
  wpAny (model X.prog X.w) X.A (call (.ref C) us) (EP X j8 σ Q) X.xe s:=by
 have hq:=h (s.heap.objs.size+1) s.heap.objs.size (I.hok.fresh (Wy _)) (I.hok.fresh (Zd _)) (ZA (Yy _));have I2:=Inv.made (C:=C) I;have r2:Vals (V.ref (s.heap.objs.size+1)::(vs++dvs)) (Value.ref (s.heap.objs.size+1)::(us++ds)):=.cons rfl (r.append hd);have hl:(Value.ref (s.heap.objs.size+1)::us++ds).length=ps.length:=by
  have e:=r2.length;rw[F.len _ _ _ _ hq] at e;exact e.symm
 refine wpAny_call (xi0 (f:=f) I.kIn M.makes M.init (Y1.mp M.fn) (WF (F.run _ X.stack _ _ ⟨Value.ref (s.heap.objs.size+1)::us,[]⟩ (Value.ref (s.heap.objs.size+1)::(us++ds)) _ _ E (hr.make C us [])
  (I2.env0.make C us []) (hb _ (Value.ref (s.heap.objs.size+1)::us) I2.kIn hl) r2 hq) λr s' hq'=>?_))
 cases r with
 |error e=>exact hx j8 σ _ _ e s' I2 hq'
 |ok fl=>
  cases fl with
  |ret u=>
   obtain⟨v,H',I3,rv,ev,q3⟩:=I2.after hq';subst ev;exact⟨rv,⟨V.ref (s.heap.objs.size+1),H',I3,rfl,q3⟩⟩
  |next=>exact False.elim hq'
  |brk=>exact False.elim hq'
  |cont=>exact False.elim hq'
theorem xi2 (M:Mk X.K C f) (F:FnOk X.prog X.w X.K X.mg X.base CX k f fd ps sp) (hr:Room (k+1) X.A) (hg:Gl X x) (hm:X.mg x=some (.ref C)) (hb:Binds X.K fd ps ds) (hd:Vals dvs ds) (hx:qD3 CX X E)
  (w4:(x==("__debug__" : Str))=false:=by decide):PE X (.Call (.Name x p) [] [] pos) (xI8 C sp dvs E tNil):=by
 intro j8 s σ H Q I h;refine Wu (qR2 I hg hm ?_ w4);exact PySem.W.callWith_K0 I.kIn M.kp (xi1 (us:=[]) M F hr hb hd hx I .nil h)
end
section
variable {X:Cx}{CX:CXT}{k:Nat}{f C:Addr}{fd:FuncData}{ps ks:List Str}{sp:Sp}{E:XK}{x m:Str}{p pos apos kpos:Pos}{e o:Expr}{es:List Expr}{kws:List Keyword}{te ta:TE}{t tk:TA}{nm:Option Str}
variable {g:List Value->List Value->List Value}{gV:List V->List V->List V}
end
structure FnScope (N P:List Str) (sc:Scope):Prop where
 kind:sc.kind=.function
 co:sc.isCoroutine=false
 gen:sc.isGenerator=false
 nd:N.Nodup
 pre:N.take P.length=P
 par:∀x∈P,sc.names.lookup x=some .local\/sc.names.lookup x=some .cell
 nofree:∀y∈sc.names,y.2≠.free
theorem qL3 {kindOf:Str->Option NameKind}{x:Str}:∀{binds:List (Str×Value)}{m:Str->Option Value},(∀v,(x,v)∉binds)->bindL kindOf binds m x=m x
 |[],_,_=>rfl
 |(n,v)::r,m,h=>by
  unfold bindL;rw[qL3 λw hw=>h w (Zn _ hw)];split
  ·have:x≠n:=by rintro rfl;exact h v Zu
   simp[this]
  ·rfl
theorem qL4 {kindOf:Str->Option NameKind}{x:Str}:∀{binds:List (Str×Value)}{m:Str->Option Value},(∀v,(x,v)∉binds)->bindC kindOf binds m x=m x
 |[],_,_=>rfl
 |(n,v)::r,m,h=>by
  unfold bindC;rw[qL4 λw hw=>h w (Zn _ hw)];split
  ·rfl
  ·have:x≠n:=by rintro rfl;exact h v Zu
   simp[this]
theorem qL5 {kindOf:Str->Option NameKind}{x:Str}{v:Value}:∀{P:List Str}{vs:List Value}{i:Nat}{m:Str->Option Value},P.Nodup->P[i]?=some x->vs[i]?=some v->kindOf x=some .local ->
  bindL kindOf (P.zip vs) m x=some v
 |[],_,_,_,_,h,_,_=>by simp at h
 |_::_,[],_,_,_,_,h,_=>by simp at h
 |p::P,w::vs,0,m,nd,h1,h2,hk=>by
  simp at h1 h2;subst h1;subst h2;show bindL kindOf ((p,w)::P.zip vs) m p=_;unfold bindL;rw[qL3 λv hv=>(YJ.mp nd).1 (VO hv).1,Zp hk];simp
 |p::P,w::vs,i+1,m,nd,h1,h2,hk=>by
  show bindL kindOf ((p,w)::P.zip vs) m x=_;unfold bindL;exact qL5 (i:=i) (YJ.mp nd).2 (by simpa using h1) (by simpa using h2) hk
theorem qL6 {kindOf:Str->Option NameKind}{x:Str}{v:Value}:∀{P:List Str}{vs:List Value}{i:Nat}{m:Str->Option Value},P.Nodup->P[i]?=some x->vs[i]?=some v->kindOf x≠some .local ->
  bindC kindOf (P.zip vs) m x=some v
 |[],_,_,_,_,h,_,_=>by simp at h
 |_::_,[],_,_,_,_,h,_=>by simp at h
 |p::P,w::vs,0,m,nd,h1,h2,hk=>by
  simp at h1 h2;subst h1;subst h2;show bindC kindOf ((p,w)::P.zip vs) m p=_;unfold bindC;rw[qL4 λv hv=>(YJ.mp nd).1 (VO hv).1,Zk hk];simp
 |p::P,w::vs,i+1,m,nd,h1,h2,hk=>by
  show bindC kindOf ((p,w)::P.zip vs) m x=_;unfold bindC;exact qL6 (i:=i) (YJ.mp nd).2 (by simpa using h1) (by simpa using h2) hk
def qL7 (N:List Str) (vs:List V):St:=vs.map some++List.replicate (N.length-vs.length) none
def cxOf (CX:CXT) (P:Program) (w:World) (K:PySem.W.Frag) (mg:Str->Option Value) (base:Heap) (N:List Str) (qual:Str) (scope:Scope) (f:Addr) (cd:Value) (A:Around) (outer:List Env) (s:Shared) (H:Hp) (E:XK):Cx where
 prog:=P
 w:=w
 K:=K
 mg:=mg
 base:=base
 A:=A.deeper (envOfC qual scope s.heap.objs.size f cd)
 N:=N
 s₀:=s
 H₀:=H
 env:=envOfC qual scope s.heap.objs.size f cd
 outer:=outer
 stack:=envOfC qual scope s.heap.objs.size f cd::outer
 ex:=[]
 calm:=true
 fn:=λ_=>true
 pn:=[]
 xe:=λe s'=>wpAny (model P w) (A.deeper (envOfC qual scope s.heap.objs.size f cd)) (leaving (envOfC qual scope s.heap.objs.size f cd) e) (λ_ s''=>CX outer H s E e s'') (λe' s''=>CX outer H s E e' s'') s'
theorem qU4 {sc:Scope}{n:Nat}{x:Str}(h:sc.names.lookup x=some .cell):∃c,(cellsFrom n sc.names []).lookup x=some c:=by
 have q:=PySem.W.cellsFrom_some sc.names n [] (.inl h);exact XB.mp q
theorem q66 {CX:CXT}{P:Program}{w:World}{K:PySem.W.Frag}{mg:Str->Option Value}{base:Heap}{N ps:List Str}{qual:Str}{scope:Scope}{f:Addr}{cd:Value}{A:Around}{outer:List Env}{s s1:Shared}{H:Hp}{E:XK}{us:List Value}{vs:List V}
  (S:FnScope N ps scope) (hd:A.handled=none) (e0:Env0 P w K mg base A outer s H) (hl:vs.length=ps.length) (r:Vals vs us)
  (x:InCallC s s.heap.objs.size (bindL (envOfC qual scope s.heap.objs.size f cd).kindOf (ps.zip us) λ_=>none) (cellsFrom (s.heap.objs.size+1) scope.names []) (bindC (envOfC qual scope s.heap.objs.size f cd).kindOf (ps.zip us) λ_=>none) s1) :
  Inv (cxOf CX P w K mg base N qual scope f cd A outer s H E) [] (qL7 N vs) H s1:=by
 have jS:ps.length<=N.length:=by have:=Yt List.length S.pre;rw[ZX] at this;lia
 obtain⟨h1,tk,rfl,hk⟩:=x.done;have noA:∀b:Addr,b∉(cxOf CX P w K mg base N qual scope f cd A outer s H E).ex:=λb z=>absurd (show b∈([]:List Addr) from z) (by simp);refine⟨⟨e0.mod,S.kind,rfl,rfl,Zd _,λy z c h1 h2=>?_,λy hy=>?_,λy c _ h=>?_,λ_=>hd,Around.frames_deeper e0.frames,.inr ⟨rfl,rfl⟩,λb z=>absurd z (noA b),e0.bs,e0.bsz,λb _ _=>noA b,λb z=>absurd z (noA b),e0.funs,e0.frf⟩,
  rfl,e0.bare,Un.kept hk,⟨_,x.toInCall.ns,λi y v h1 h2 h3=>?_⟩,λy c h=>⟨_,x.cell y c h⟩,e0.hok.fresh (Zd _),λy c h=>?_,λp hp=>absurd (show p∈([]:List (Addr×Obj)) from hp) (by simp),e0.hok.kept hk,?_⟩
 ·exact name_of_addr x.apart (XH h1) (XH h2)
 ·have hy:scope.names.lookup y=some .cell\/scope.names.lookup y=some .free:=hy;rcases hy with hy|hy
  ·exact qU4 hy
  ·exact absurd rfl (S.nofree _ (XH hy))
 ·exact Y6 (x.above y c (XH h))
 ·have hi:i<vs.length:=by
   unfold qL7 at h2;by_cases hi:i<vs.length
   ·exact hi
   ·rw[Zi (by simpa using hi)] at h2;rw[List.getElem?_replicate] at h2;split at h2<;>cases h2
  have ha:vs[i]?=some v:=by
   unfold qL7 at h2;rw[Zh (by simpa using hi),Zb] at h2;cases e:vs[i]? with
   |none=>rw[e] at h2;cases h2
   |some a=>rw[e] at h2;cases h2;rfl
  obtain⟨u,hu,rv⟩:=r.get ha;have hp:ps[i]?=some y:=by
   rw[<- S.pre,YH (by lia)];exact h1
  have ndP:ps.Nodup:=by rw[<- S.pre];exact S.nd.sublist (List.take_sublist _ _)
  refine⟨u,rv,?_⟩;rcases S.par y (Zm hp) with k|k
  ·exact .inl ⟨k,qL5 ndP hp hu k⟩
  ·obtain⟨c,e⟩:=qU4 (n:=s.heap.objs.size+1) k;refine .inr ⟨.inl k,c,e,?_⟩;have q:=x.cell y c e;rw[qL6 ndP hp hu (by show scope.names.lookup y≠_;rw[k];decide)] at q;exact q
 ·exact e0.hok.fresh (Y6 (x.above y c (XH h)))
 ·unfold qL7;show _=N.length;rw[Zr,Ze,List.length_replicate];lia
theorem xI9 {CX:CXT}{P:Program}{w:World}{K:PySem.W.Frag}{mg:Str->Option Value}{base:Heap}{k:Nat}{f:Addr}{name qual:Str}{params:Arguments}{body:List Stmt}{scope:Scope}{dV kV doc pm cdv ct oc:Value}{an od:Option Addr}
  {osl:Array (Option Value)}{N ps:List Str}{sp:Sp}(lk:K.lookup f=some ⟨oc,od,.func (PySem.W.fnOf name qual params body scope dV kV doc pm an cdv ct),osl⟩) (vB:PySem.W.codeIn K cdv qual=true) (S:FnScope N ps scope)
  (len:∀vs H Q E,sp vs H Q E->vs.length=ps.length)
  (hbody:∀(A:Around) (outer:List Env) (s:Shared) (H:Hp) (vs:List V) (Q:VK) (E:XK),Room k (A.deeper (envOfC qual scope s.heap.objs.size f cdv))->sp vs H Q E ->
   ∃t,PSs (cxOf CX P w K mg base N qual scope f cdv A outer s H E) body t/\t { nx:=λ_ H'=>Q .non H',rt:=Q } (qL7 N vs) H) :
  FnOk P w K mg base CX (k+1) f (PySem.W.fnOf name qual params body scope dV kV doc pm an cdv ct) ps sp:=by
 refine⟨len,λA outer s H args us vs Q E hr e0 hb r vK=>?_⟩;have hl:=len _ _ _ _ vK;have KX:K.In s.heap:=e0.mod.kin.keeps λb o e=>(e0.bs b o e).1;have lim:s.heap.NoLimit:=e0.mod.nolimit.keeps λb o e=>(e0.bs b o e).1;have jE:∀y∈ps.zip us,scope.names.lookup y.1=some .local\/(scope.names.lookup y.1=some .cell/\((cellsFrom (s.heap.objs.size+1) scope.names []).lookup y.1).isSome=true):=λ⟨n,v⟩ hy=>by
  rcases S.par n (VO hy).1 with q|q
  ·exact .inl q
  ·exact .inr ⟨q,PySem.W.cellsFrom_some _ _ _ (.inl q)⟩
 refine codeAny_call_function hr.depth (KX _ _ lk) rfl S.co S.gen rfl (PySem.W.codeRec_of KX vB) (hb _ _ _ _ ?_);refine wpAny_newFunctionEnv_cells S.kind jE λenv he s1 x=>?_;subst he;refine⟨lim.keeps x.toInCall.keep,codeAny_func ?_⟩;obtain⟨t,ht,hq⟩:=hbody A outer s H vs Q E (hr.deeper _) vK;have I:Inv (cxOf CX P w K mg base N qual scope f cdv A outer s H E) [] (qL7 N vs) H s1:=q66 S hr.hd e0 hl r x;refine Y0 (ht [] s1 (qL7 N vs) H _ I hq) (λfl s' hs=>?_) λe s' hs=>hs;have fin:∀{σ':St}{H':Hp}{v:V}{u:Value},Inv (cxOf CX P w K mg base N qual scope f cdv A outer s H E) [] σ' H' s'->RelV v u->Q v H'->CE outer P w H s Q u s':=
  λ{σ' H' v u} J rv q=>⟨v,H',J.os,J.bare,J.base,J.hok,rv,q⟩
 cases fl with
 |ret u=>
  obtain⟨v,σ',H',J,rv,q⟩:=hs;exact fin J rv q
 |next=>
  obtain⟨σ',H',J,q⟩:=hs;exact fin (v:=V.non) (u:=Value.none) J rfl q
 |brk=>
  obtain⟨_,_,_,q⟩:=hs;exact False.elim q
 |cont=>
  obtain⟨_,_,_,q⟩:=hs;exact False.elim q
section
variable {X:Cx}{x:Str}{p pos:Pos}{e:Expr}{es:List Expr}{t:TA}{id T:String}{r:List V->Hp->VK->Prop}
def tCB (r:List V->Hp->VK->Prop) (t:TA):TE:=λσ H Q=>t σ H λvs H1=>r vs H1 Q
theorem qa7 (hc:qh1 X (.builtin id) r) (hg:Gl X x) (hm:X.mg x=none) (hv:bootBuiltins x=some (.builtin id)) (ha:PA X (e::es) t) (hn:x ≠ "__name__":=by decide) (w4:(x==("__debug__" : Str))=false:=by decide)
  (he:starEach (e::es) X.env=(false,eval e X.env)::starEach es X.env:=by rfl) (jS:(backTo pos (starEach es X.env)).any (·.1)=false:=by rfl):PE X (.Call (.Name x p) (e::es) [] pos) (tCB r t):=by
 intro j8 s σ H Q I h;refine Wu (qC8 I hg hm hv ?_ hn w4);exact PyProof.Rows.callWith_builtin1 (thn (ha pos j8 s σ H _ I h) λus s1 ⟨vs,H1,I1,r1,q1⟩=>hc j8 s1 σ H1 vs us Q I1 r1 q1) he jS
theorem qb4 (hc:qh1 X (.type T) r) (hg:Gl X x) (hm:X.mg x=none) (hv:bootBuiltins x=some (.type T)) (ha:PA X (e::es) t) (hn:x ≠ "__name__":=by decide) (w4:(x==("__debug__" : Str))=false:=by decide)
  (he:starEach (e::es) X.env=(false,eval e X.env)::starEach es X.env:=by rfl) (jS:(backTo pos (starEach es X.env)).any (·.1)=false:=by rfl):PE X (.Call (.Name x p) (e::es) [] pos) (tCB r t):=by
 intro j8 s σ H Q I h;refine Wu (qC8 I hg hm hv ?_ hn w4);exact Xg (thn (ha pos j8 s σ H _ I h) λus s1 ⟨vs,H1,I1,r1,q1⟩=>hc j8 s1 σ H1 vs us Q I1 r1 q1) he jS
end
end L2
namespace HT
open PySem PyProof.Rows
section
open PySem.SeqAt
open PySem.AutoSeq1 (wpAny_loadPart')
open PySem.MeetsSeq PySem.MeetsSeq2 PySem.MeetsSeq3
end
section
variable {prog:Program}{w:World}{A:Around}{E:Value->Shared->Prop}{s:Shared}
theorem cat_tup {t b:Addr}{vs ws:List Value}{Q:Value->Shared->Prop}(ht:IsTup s.heap t vs.toArray) (hb:IsTup s.heap b ws.toArray) (hv:vs≠[])
  (h1:ws=[]->Q (.ref t) s) (h2:ws≠[]->Q (.ref s.heap.objs.size) { s with heap:=s.heap.push { cls:=.type "tuple",data:=.seq (vs++ws).toArray } })
  (hsz:vs.length+ws.length<=sizeLine):wpAny (model prog w) A (binaryOp .Add (.ref t) (.ref b)) Q E s:=by
 obtain⟨⟨cls,dd,data,sl⟩,ho,hc,n,hd⟩:=id ht;obtain⟨⟨cls2,dd2,data2,sl2⟩,vW,vH,n2,jR⟩:=id hb;simp only at hc hd vH jR;subst hc hd vH jR;have e:vs.toArray++ws.toArray=(vs++ws).toArray:=by simp
 by_cases hw:ws=[]
 ·exact concat_meets ⟨_,ho,rfl⟩ ⟨_,vW,rfl⟩ noFill_tuple_add seq_tuple_add WG Wz (Wn _ _)
   (tuple_addW1 t b vs.toArray ws.toArray n n2 dd dd2 sl sl2 (by simpa using hv) (by simp[hw])) ⟨ho,vW,h1 hw⟩
 ·refine concat_meets ⟨_,ho,rfl⟩ ⟨_,vW,rfl⟩ noFill_tuple_add seq_tuple_add WG Wz (Wn _ _)
   (tuple_addW2 t b vs.toArray ws.toArray n n2 dd dd2 sl sl2 (by simpa using hv) (by simpa using hw) (by rw[ZF,ZF];exact hsz)) ⟨ho,vW,?_⟩
  rw[e];exact h2 hw
def sIx (n d:Nat):Option Int->Nat
 |none=>d
 |some v=>if v<0 then (v+(n:Int)).toNat else min v.toNat n
theorem sIx_none (n d:Nat):sIx n d none=d:=rfl
theorem sIx_nat (n d k:Nat):sIx n d (some (k:Int))=min k n:=by
 show (if (k:Int)<0 then ((k:Int)+(n:Int)).toNat else min (k:Int).toNat n)=min k n;rw[Zk (by lia),Xb]
theorem xB0 (n d:Nat) (hd:d<=n) (o:Option Int):sIx n d o<=n:=by
 cases o with
 |none=>exact hd
 |some v=>
  show (if v<0 then (v+(n:Int)).toNat else min v.toNat n)<=n;by_cases hv:v<0
  ·rw[Zp hv];lia
  ·rw[Zk hv];exact Nat.min_le_right _ _
theorem q67 (v:Int) (n d:Nat):(if v<0 then max (v+(n:Int)) 0 else min v (n:Int))=((sIx n d (some v):Nat):Int):=by
 show (if v<0 then max (v+(n:Int)) 0 else min v (n:Int))=(((if v<0 then (v+(n:Int)).toNat else min v.toNat n):Nat):Int);by_cases hv:v<0
 ·simp only[Zp hv];lia
 ·simp only[Zk hv];lia
theorem q11 (lo hi:Option Int) (n:Nat):Builtin.Slice.sliceAdjust lo hi 1 (n:Int)=(((sIx n 0 lo:Nat):Int),((sIx n n hi:Nat):Int)):=by
 have h1:¬((1:Int)<0):=by lia
 unfold Builtin.Slice.sliceAdjust;simp only[h1,Z8];refine Prod.ext ?_ ?_
 ·cases lo with
  |none=>rfl
  |some v=>exact q67 v n 0
 ·cases hi with
  |none=>rfl
  |some v=>exact q67 v n n
theorem q12 (i j:Nat):Builtin.Slice.slicePlaces (i:Int) (j:Int) 1=j-i:=by
 unfold Builtin.Slice.slicePlaces;have h1:(1:Int)>0:=by lia
 simp only[h1,Xs,Int.ediv_one];split<;>lia
theorem qD4 {v:Value}{o:Option Int}{Q:Option Int->Shared->Prop}(p:IsPart v o) (h:Q o s):wpAny (model prog w) A (Builtin.Slice.slicePartIndex v) Q E s:=by
 cases p with
 |none=>exact slicePart_none h
 |int i t=>exact slicePart_int h
theorem sliceApplied_gen {sl:Addr}{vl vu:Value}{lo hi:Option Int}{n:Nat}{Q:Int×Int×Nat->Shared->Prop}(hs:s.heap.IsSliceOf sl vl vu .none) (pl:IsPart vl lo) (pu:IsPart vu hi)
  (h:Q (((sIx n 0 lo:Nat):Int),1,sIx n n hi-sIx n 0 lo) s):wpAny (model prog w) A (Builtin.Slice.sliceApplied (.ref sl) (pure (n:Int))) Q E s:=by
 obtain⟨os,kZ,wT,vA⟩:=id hs;unfold Builtin.Slice.sliceApplied Builtin.Slice.sliceFields;refine Za (Za (YV kZ vA (x:=vl) rfl (Za (YV kZ vA (x:=vu) rfl (Za (YV kZ vA (x:=.none) rfl (Zg ?_)))))));refine Za (slicePart_none ?_);show wpAny _ _ (if ((1:Int)==0)=true then _ else _) _ _ s;rw[Zk (by decide)];refine Za (qD4 pl (Za (qD4 pu (Za (Zg ?_)))));show wpAny _ _ (match Builtin.Slice.sliceAdjust lo hi 1 (n:Int) with|(lo,hi)=>pure (lo,(1:Int),Builtin.Slice.slicePlaces lo hi 1)) _ _ s;rw[q11 lo hi n];show wpAny _ _ (pure (((sIx n 0 lo:Nat):Int),(1:Int),Builtin.Slice.slicePlaces ((sIx n 0 lo:Nat):Int) ((sIx n n hi:Nat):Int) 1)) _ _ s;rw[q12];exact Zg h
theorem xi3 (xs:Array Value) (i k:Nat):((List.range k).filterMap λ(m:Nat)=>xs[((i:Int)+(m:Int)*1).toNat]?).toArray=((xs.toList.drop i).take k).toArray:=by
 have e:(λ(m:Nat)=>xs[((i:Int)+(m:Int)*1).toNat]?)=λm=>xs[i+m]?:=by
  funext m;have:((i:Int)+(m:Int)*1).toNat=i+m:=by lia
  rw[this]
 rw[e];have:=pick_run xs i k;rw[List.filterMap_map] at this;have e2:((λx=>xs[x]?)∘λx=>i+x)=λm=>xs[i+m]?:=rfl;rw[e2] at this;rw[this]
theorem getItem_tuple_cut {t sl:Addr}{items:Array Value}{vl vu:Value}{lo hi:Option Int}{Q:Value->Shared->Prop}(ht:IsTup s.heap t items) (hs:s.heap.IsSliceOf sl vl vu .none) (pl:IsPart vl lo) (pu:IsPart vu hi)
  (hw:¬(sIx items.size 0 lo=0/\sIx items.size items.size hi=items.size))
  (h:Q (.ref s.heap.objs.size) { s with heap:=s.heap.push { cls:=.type "tuple",data:=.seq ((items.toList.drop (sIx items.size 0 lo)).take (sIx items.size items.size hi-sIx items.size 0 lo)).toArray } })
  (hsz:items.size<=sizeLine):wpAny (model prog w) A (getItem (.ref t) (.ref sl)) Q E s:=by
 have htake:sizeOk (.seq ((items.toList.drop (sIx items.size 0 lo)).take (sIx items.size items.size hi-sIx items.size 0 lo)).toArray):=by
  show ((items.toList.drop (sIx items.size 0 lo)).take (sIx items.size items.size hi-sIx items.size 0 lo)).toArray.size<=sizeLine;rw[ZF,ZX,WV,ZT];lia
 have hj:sIx items.size items.size hi<=items.size:=xB0 _ _ (Zd _) hi;obtain⟨os,kZ,wT,vA⟩:=id hs;have hTs:s.TypeIs (.ref sl) "slice":=⟨os,kZ,wT⟩;unfold getItem
 try with_reducible refine Yg ?_
 first|refine Za (Zg ?_)|skip
 refine Za (wpAny_sequenceKey ht.typeIs (by decide) ?_);refine Za (ZY (name:=Str.ofString "__getitem__") ht.typeIs Yh
  (Yp Yh ht.typeIs entry_tuple_getitem ?_ (args_tuple_getitem _ _)))
 show wpAny _ _ (Builtin.Tuple.tupleItemsOf (.ref t) >>= _) _ _ s;refine Za (tupleItemsOf_ ht ?_);refine Za (WH hTs ?_);rw[Zp (by decide)];refine Za (sliceApplied_gen hs pl pu ?_);have wO:¬((((sIx items.size 0 lo:Nat):Int)==0&&(1:Int)==1&&(sIx items.size items.size hi-sIx items.size 0 lo)==items.size)=true):=by
  intro q;rw[WW,WW] at q;have q1:((sIx items.size 0 lo:Nat):Int)=0:=eq_of_beq q.1.1;have q2:sIx items.size items.size hi-sIx items.size 0 lo=items.size:=eq_of_beq q.2;exact hw ⟨by lia,by lia⟩
 show wpAny _ _ (if (((sIx items.size 0 lo:Nat):Int)==0&&(1:Int)==1&&(sIx items.size items.size hi-sIx items.size 0 lo)==items.size)=true then _ else _) _ _ s;rw[Zk wO,xi3]
 first
  |exact Za (m:=Builtin.Tuple.tupleExact _) (Z7 (Zg ⟨_,rfl,Zg h⟩) htake)
  |exact Za (m:=Builtin.Tuple.tupleExact _) (Z7 (Za (Zg (Zg ⟨_,rfl,Zg h⟩))) htake)
  |exact Za (Za (m:=Builtin.Tuple.tupleExact _) (Z7 (Zg (Zg ⟨_,rfl,Zg h⟩)) htake))
  |exact Za (Za (m:=Builtin.Tuple.tupleExact _) (Z7 (Zg ⟨_,rfl,Zg h⟩) htake))
end
end HT
namespace L2
open PySem PySem.Spec PyProof.Rows
abbrev TO:=St->Hp->(Option Int->Hp->Prop)->Prop
def PO (X:Cx) (e:Option Expr) (t:TO):Prop:=
 ∀(j8:List (Addr×Obj)) (s:Shared) (σ:St) (H:Hp) (Q:Option Int->Hp->Prop),Inv X j8 σ H s->t σ H Q ->
  wpAny (model X.prog X.w) X.A (evalPart e X.env) (λu s'=>∃o H',Inv X j8 σ H' s'/\IsPart u o/\Q o H') X.xe s
def xs9:TO:=λ_ H Q=>Q none H
def xJ0 (t:TE):TO:=λσ H Q=>t σ H λx H1=>∃i,x=.int i/\Q (some i) H1
section
variable {X:Cx}{e:Expr}{te:TE}{lo hi:Option Expr}{tl th:TO}{pos p2:Pos}
theorem qy5:PO X none xs9:=by
 intro j8 s σ H Q I h;rw[evalPart_none];exact Zg ⟨none,H,I,.none,h⟩
theorem qy6 (h:PE X e te):PO X (some e) (xJ0 te):=by
 intro j8 s σ H Q I hw;rw[evalPart_some];refine thn (h j8 s σ H _ I hw) λu s1 ⟨x,H1,I1,r1,q1⟩=>?_;obtain⟨i,rfl,q⟩:=q1;obtain⟨t,rfl⟩:=r1;exact⟨some i,H1,I1,.int i t,q⟩
def SlR (X:Cx) (r:V->Option Int->Option Int->Hp->VK->Prop):Prop:=
 ∀(j8:List (Addr×Obj)) (s:Shared) (σ:St) (H:Hp) (x:V) (v vl vu:Value) (lo hi:Option Int) (sl:Addr) (Q:VK),Inv X j8 σ H s->RelV x v->s.heap.IsSliceOf sl vl vu .none->IsPart vl lo->IsPart vu hi->r x lo hi H Q ->
  ∃T id,typeLookup (.type T) "__getitem__" = pure (some (.builtin id))/\s.TypeIs v T/\wpAny (model X.prog X.w) X.A (getItem v (.ref sl)) (EP X j8 σ Q) X.xe s
def tSl (r:V->Option Int->Option Int->Hp->VK->Prop) (te:TE) (tl th:TO):TE:=λσ H Q=>te σ H λx H1=>tl σ H1 λl H2=>th σ H2 λu H3=>r x l u H3 Q
theorem qq9 {r:V->Option Int->Option Int->Hp->VK->Prop}(hr:SlR X r) (he:PE X e te) (hl:PO X lo tl) (hu:PO X hi th):PE X (.Subscript e (.Slice lo hi none p2) pos) (tSl r te tl th):=by
 intro j8 s σ H Q I h;refine Subscript_ (thn (he j8 s σ H _ I h) λv s1 ⟨x,H1,I1,r1,q1⟩=>?_);refine wpAny_Slice (thn (hl j8 s1 σ H1 _ I1 q1) λvl s2 ⟨l,H2,I2,pl,q2⟩=>thn (hu j8 s2 σ H2 _ I2 q2) λvu s3 ⟨u,H3,I3,pu,q3⟩=>?_);rw[evalPart_none];refine Zg ?_;have I4:Inv X j8 σ H3 { s3 with heap:=s3.heap.push { cls:=.type "slice",data:=.fields #[vl,vu,.none] } }:=I3.kept (t':=s3.toks) λb ob q=>Zf _ q;obtain⟨T,id,hT,ht,hg⟩:=hr j8 { s3 with heap:=s3.heap.push { cls:=.type "slice",data:=.fields #[vl,vu,.none] } } σ H3 x v vl vu l u s3.heap.objs.size Q I4 r1 (Heap.IsSliceOf.new ..) pl pu q3;show wpAny (model X.prog X.w) X.A (subscriptTail e (.Slice lo hi none p2) v (.ref s3.heap.objs.size)) (EP X j8 σ Q) X.xe { s3 with heap:=s3.heap.push { cls:=.type "slice",data:=.fields #[vl,vu,.none] } };exact tail_any (ops:=[.ref s3.heap.objs.size,v]) ht hT hg (by with_unfolding_all rfl)
def cutV (xs:List V) (lo hi:Option Int):List V:=(xs.drop (HT.sIx xs.length 0 lo)).take (HT.sIx xs.length xs.length hi-HT.sIx xs.length 0 lo)
theorem qR4 (xs:List V) (lo hi:Option Int):(cutV xs lo hi).length<=xs.length:=by
 unfold cutV;rw[ZX,WV];lia
def rSlT (K:PySem.W.Frag):V->Option Int->Option Int->Hp->VK->Prop:=λx lo hi H Q=>∃a xs,x=.ref a/\SqT K H a xs /\
 ¬(HT.sIx xs.length 0 lo=0/\HT.sIx xs.length xs.length hi=xs.length)/\∀p,H p=none->Q (.ref p) (upd H p (.tup (cutV xs lo hi)))
theorem qU5:SlR X (rSlT X.K):=by
 intro j8 s σ H x v vl vu lo hi sl Q I rx hs pl pu h;obtain⟨a,xs,rfl,hx,hw,q⟩:=h;cases rx;obtain⟨its,r,ht,hz⟩:=I.tuple hx;have j9:its.toArray.size=xs.length:=by rw[ZF];exact r.length.symm
 refine⟨"tuple",_,Yh.lookup,ht.typeIs,?_⟩;refine HT.getItem_tuple_cut ht hs pl pu (by rw[j9];exact hw) ?_ (by rw[j9];exact hz);rw[j9];refine⟨.ref s.heap.objs.size,_,I.laid (t':=s.toks) (o:=.tup (cutV xs lo hi)) (λb ob q=>Zf _ q) (Zd _) ?_,rfl,q _ (I.hok.fresh (Zd _))⟩;exact⟨ZL (qR4 xs lo hi) hz,_,(r.drop (HT.sIx xs.length 0 lo)).take (HT.sIx xs.length xs.length hi-HT.sIx xs.length 0 lo),IsTupX.new _ _⟩
def xJ1 (K:PySem.W.Frag):R2:=λx y H Q=>∃a b xs ys,x=.ref a/\y=.ref b/\SqT K H a xs/\SqT K H b ys/\xs≠[]/\xs.length+ys.length<=sizeLine /\
 (ys=[]->Q (.ref a) H)/\(ys≠[]->∀p,H p=none->Q (.ref p) (upd H p (.tup (xs++ys))))
theorem Vals.nil_iff {xs:List V}{us:List Value}(r:Vals xs us):us=[]<->xs=[]:=by
 cases r with
 |nil=>simp
 |cons _ _=>simp
theorem xt0:OpR X (binaryOp .Add) (xJ1 X.K):=by
 intro j8 s σ H x y v u Q I rx ry h;obtain⟨a,b,xs,ys,rfl,rfl,ha,hb,hx,hz,q1,q2⟩:=h;cases rx;cases ry;obtain⟨its,r1,p1,_⟩:=I.tuple ha;obtain⟨its2,r2,p2,_⟩:=I.tuple hb;refine HT.cat_tup p1 p2 (λz=>hx (r1.nil_iff.mp z)) (λz=>⟨.ref a,H,I,rfl,q1 (r2.nil_iff.mp z)⟩) (λz=>?_) (by rw[<- r1.length,<- r2.length];exact hz);refine⟨.ref s.heap.objs.size,_,I.laid (t':=s.toks) (o:=.tup (xs++ys)) (λb ob q=>Zf _ q) (Zd _) ?_,rfl,q2 (λw=>z (r2.nil_iff.mpr w)) _ (I.hok.fresh (Zd _))⟩;exact⟨by rw[Zr];exact hz,_,r1.append r2,IsTupX.new _ _⟩
end
def ixN (n:Nat) (i:Int):Option Nat:=if 0<=i then (if i<n then some i.toNat else none) else if -(n:Int)<=i then some (i+n).toNat else none
def atI {α:Type}(xs:List α) (i:Int):Option α:=(ixN xs.length i).bind λj=>xs[j]?
theorem q68 {n:Nat}{i:Int}{j:Nat}(h:ixN n i=some j):seqIndex? i n=some j/\j<n/\-(n:Int)<=i/\i<n:=by
 unfold ixN at h;by_cases h0:0<=i
 ·rw[Zp h0] at h;by_cases h1:i<n
  ·rw[Zp h1] at h;have e:i.toNat=j:=Zv h;exact⟨by rw[seqIndex_of h0 h1,e],by lia,by lia,h1⟩
  ·rw[Zk h1] at h;cases h
 ·rw[Zk h0] at h;by_cases h1:-(n:Int)<=i
  ·rw[Zp h1] at h;have e:(i+n).toNat=j:=Zv h;exact⟨by rw[seqIndex_neg (by lia) h1,e],by lia,h1,by lia⟩
  ·rw[Zk h1] at h;cases h
theorem q69 {α:Type}{xs:List α}{i:Int}{v:α}(h:atI xs i=some v):∃j,seqIndex? i xs.length=some j/\xs[j]?=some v/\j<xs.length/\-(xs.length:Int)<=i/\i<xs.length:=by
 unfold atI at h;cases e:ixN xs.length i with
 |none=>rw[e] at h;cases h
 |some j=>
  rw[e] at h;obtain⟨h1,h2,h3,h4⟩:=q68 e;exact⟨j,h1,h,h2,h3,h4⟩
theorem qe0 {α:Type}{xs:List α}{j:Nat}{v:α}(h:xs[j]?=some v):atI xs (j:Int)=some v:=by
 have hj:j<xs.length:=(gS_ h).1;have e:ixN xs.length (j:Int)=some j:=by
  unfold ixN;rw[Zp (by lia),Zp (by lia)];simp
 unfold atI;rw[e];exact h
def q70 (b:Expr):Prop:=∀o i,subscripted b false o i=operate [o,i] (getItem o i)
def IxR (X:Cx) (r:R2):Prop:=
 ∀(value slice:Expr) (j8:List (Addr×Obj)) (s:Shared) (σ:St) (H:Hp) (x y:V) (v u:Value) (Q:VK),Inv X j8 σ H s->RelV x v->RelV y u->r x y H Q ->
  subscripted slice false v u=operate [v,u] (getItem v u)->wpAny (model X.prog X.w) X.A (subscriptTail value slice v u) (EP X j8 σ Q) X.xe s
def MtR (X:Cx) (id:String) (r:V->List V->Hp->VK->Prop):Prop:=
 ∀(j8:List (Addr×Obj)) (s:Shared) (σ:St) (H:Hp) (x:V) (xs:List V) (v:Value) (us:List Value) (Q:VK),Inv X j8 σ H s->RelV x v->Vals xs us->r x xs H Q ->
  wpAny (model X.prog X.w) X.A (call (.builtin id) (v::us)) (EP X j8 σ Q) X.xe s
section
variable {X:Cx}{a b:Expr}{ta tb:TE}{pos:Pos}
theorem IxR.or {r r':R2}(h:IxR X r) (h':IxR X r'):IxR X (λx y H Q=>r x y H Q\/r' x y H Q):=by
 intro value slice j8 s σ H x y v u Q I rx ry q hs;rcases q with q|q
 ·exact h value slice j8 s σ H x y v u Q I rx ry q hs
 ·exact h' value slice j8 s σ H x y v u Q I rx ry q hs
theorem xJ2 {r:R2}(hr:IxR X r) (ha:PE X a ta) (hb:PE X b tb) (hs:q70 b):PE X (.Subscript a b pos) (tOp r ta tb):=by
 intro j8 s σ H Q I h;exact Subscript_ (binT ha hb I h λv u s2 x y H2 I2 rx ry q=>hr a b j8 s2 σ H2 x y v u Q I2 rx ry q (hs _ _))
def rIxL (K:PySem.W.Frag):R2:=λx y H Q=>∃p xs i v,x=.ref p/\y=.int i/\SqL K H p xs/\atI xs i=some v/\Q v H
def rIxT (K:PySem.W.Frag):R2:=λx y H Q=>∃p xs i v,x=.ref p/\y=.int i/\SqT K H p xs/\atI xs i=some v/\Q v H
theorem qd7:IxR X (rIxL X.K):=by
 intro value slice j8 s σ H x y v u Q I rx ry h hs;obtain⟨p,xs,i,z,rfl,rfl,hq,he,q⟩:=h;cases rx;obtain⟨t,rfl⟩:=ry;obtain⟨its,r,pl,hz⟩:=I.list hq;obtain⟨j,h1,h2,h3,h4,h5⟩:=q69 he;obtain⟨w,ew,rw'⟩:=r.get h2;have hl:=r.length;have hn:=qU2;have fin:EP X j8 σ Q w s:=⟨z,H,I,rw',q⟩;by_cases h0:0<=i
 ·have hj:i.toNat=j:=by
   rw[seqIndex_of h0 h5] at h1;exact Zv h1
  exact item_listR pl.isList h0 (by lia) (by rw[hj];simpa using ew) fin hs
 ·have hj:(i+(its.toArray.size:Int)).toNat=j:=by
   rw[seqIndex_neg (by lia) h4] at h1;rw[ZF,<- hl];exact Zv h1
  exact subscriptTail_builtinR (x:=w) pl.isList.typeIs slot_list_getitem.lookup
   (wpAny_getItem_list_neg (Q:=λr s'=>r=w/\EP X j8 σ Q r s') pl.isList (by lia) (by rw[ZF]<;>lia) (by lia) (by rw[hj];simpa using ew) ⟨rfl,fin⟩) hs
theorem qd1:IxR X (rIxT X.K):=by
 intro value slice j8 s σ H x y v u Q I rx ry h hs;obtain⟨p,xs,i,z,rfl,rfl,hq,he,q⟩:=h;cases rx;obtain⟨t,rfl⟩:=ry;obtain⟨its,r,pl,hz⟩:=I.tuple hq;obtain⟨j,h1,h2,h3,h4,h5⟩:=q69 he;obtain⟨w,ew,rw'⟩:=r.get h2;have hl:=r.length;have hn:=qU2;have fin:EP X j8 σ Q w s:=⟨z,H,I,rw',q⟩;exact subscriptTail_builtinR (x:=w) pl.typeIs slot_tuple_getitem.lookup
  (getItem_tuple (j:=j) (Q:=λr s'=>r=w/\EP X j8 σ Q r s') pl (by lia) (by lia) (by rw[ZF,<- hl];exact h1) (by simpa using ew) ⟨rfl,fin⟩) hs
theorem q13 (its:List Value) (n j:Nat) (u:Value):Obj.mapSeq (·.setIfInBounds j u) { cls:=.type "list",data:=.seq its.toArray n }={ cls:=.type "list",data:=.seq (its.set j u).toArray n }:=by
 simp[Obj.mapSeq]
theorem Inv.lst {j8:List (Addr×Obj)}{σ:St}{H:Hp}{s:Shared}{p:Addr}{xs:List V}(I:Inv X j8 σ H s) (h:H p=some (.lst xs)) :
  ∃(its:List Value) (n:Nat),Vals xs its/\s.heap.get? p=some { cls:=.type "list",data:=.seq its.toArray n }/\xs.length<=sizeLine:=by
 obtain⟨z,its,n,r,e⟩:=I.hok p _ h;exact⟨its,n,r,e,z⟩
theorem Inv.lstUpd {j8:List (Addr×Obj)}{σ:St}{H:Hp}{s:Shared}{p:Addr}{xs ys:List V}{its its':List Value}{n n':Nat}{f:Obj->Obj}(I:Inv X j8 σ H s) (h:H p=some (.lst xs))
  (ho:s.heap.get? p=some { cls:=.type "list",data:=.seq its.toArray n }) (hf:f { cls:=.type "list",data:=.seq its.toArray n }={ cls:=.type "list",data:=.seq its'.toArray n' }) (r:Vals ys its') (hz:ys.length<=sizeLine) (t:Nat) :
  Inv X j8 σ (upd H p (.lst ys)) { s with heap:=s.heap.update p f,toks:=t }:=by
 have e:(s.heap.update p f).get? p=some { cls:=.type "list",data:=.seq its'.toArray n' }:=by
  rw[Xo f ho (by rw[hf]<;>rfl),hf]
 refine I.write (x:=p) (e:=p) (by rw[h];trivial) (.inl rfl) (λb u hb q=>(Heap.get?_update_other _ _ (Yx hb)).trans q) ⟨_,e⟩ ?_;exact⟨hz,its',n',r,e⟩
def xJ3:V->V->V->Hp->(Hp->Prop)->Prop:=λo i v H Q=>∃p xs k j,o=.ref p/\i=.int k/\H p=some (.lst xs)/\ixN xs.length k=some j/\Q (upd H p (.lst (xs.set j v)))
theorem qU6:PSet X xJ3:=by
 intro j8 s σ H o i v ov iv u Q I ro ri rv h;obtain⟨p,xs,k,j,rfl,rfl,hp,hj,q⟩:=h;cases ro;obtain⟨t,rfl⟩:=ri;obtain⟨its,n,r,ho,hz⟩:=I.lst hp;obtain⟨h1,h2,h3,h4⟩:=q68 hj;have hl:=r.length;have hn:=qU2;have I':Inv X j8 σ (upd H p (.lst (xs.set j v))) { s with heap:=s.heap.update p (Obj.mapSeq (·.setIfInBounds j u)) }:=
  I.lstUpd hp ho (q13 its n j u) (r.set rv j) (by rw[List.length_set];exact hz) s.toks
 by_cases h0:0<=k
 ·have hk:k.toNat=j:=by
   rw[seqIndex_of h0 h4] at h1;exact Zv h1
  exact PySem.W.ki_setAt ho h0 (by lia) (by rw[ZF,<- hl];exact h4) (by rw[hk];exact⟨_,I',q⟩)
 ·have hk:(k+(its.toArray.size:Int)).toNat=j:=by
   rw[seqIndex_neg (by lia) h3] at h1;rw[ZF,<- hl];exact Zv h1
  exact PySem.W.ki_setBack ho (by lia) (by rw[ZF,<- hl];exact h3) (by lia) (by rw[hk];exact⟨_,I',q⟩)
theorem qa9:qh1 X (.builtin "len") (λxs H Q=>∃p ys,xs=[.ref p]/\(SqL X.K H p ys\/SqT X.K H p ys)/\Q (.int ys.length) H):=by
 intro j8 s σ H xs us Q I r h;obtain⟨p,ys,rfl,hq,q⟩:=h;obtain⟨u,rfl,rx⟩:=qj8 r;cases rx;have hn:=qU2;rcases hq with hq|hq
 ·obtain⟨its,r',pl,hz⟩:=I.list hq;have j9:=r'.length;exact Calls.call_len_list pl.isList (by simp only[ZF]<;>lia) ⟨.int ys.length,H,I.tok _,⟨s.toks+1,by rw[ZF,j9]⟩,q⟩
 ·obtain⟨its,r',pl,hz⟩:=I.tuple hq;have j9:=r'.length;exact len_tuple pl (by simp only[ZF]<;>lia) ⟨.int ys.length,H,I.tok _,⟨s.toks+1,by rw[ZF,j9]⟩,q⟩
theorem qf4:qh1 X (.type "tuple") (λxs H Q=>∃p ys,xs=[.ref p]/\((SqL X.K H p ys/\∀l,H l=none->Q (.ref l) (upd H l (.tup ys)))\/(SqT X.K H p ys/\Q (.ref p) H))):=by
 intro j8 s σ H xs us Q I r h;obtain⟨p,ys,rfl,h⟩:=h;obtain⟨u,rfl,rx⟩:=qj8 r;cases rx;rcases h with ⟨hq,q⟩|⟨hq,q⟩
 ·obtain⟨its,r',pl,hz⟩:=I.list hq;have j9:=r'.length;refine call_tuple_list pl.isList (λh' kp=>?_) (by simp only[ZF]<;>lia);have I1:Inv X j8 σ H { s with heap:=h' }:=I.kept (t':=s.toks) kp;have I2:Inv X j8 σ (upd H h'.objs.size (.tup ys)) { s with heap:=h'.push { cls:=.type "tuple",data:=.seq its.toArray } }:=
   I1.laid (t':=s.toks) (λb o e=>Zf _ e) (Zd _) (show ObjOk X.prog X.w _ _ _ (.tup ys) from ⟨hz,its,r',IsTupX.new _ _⟩)
  exact⟨.ref h'.objs.size,_,I2,rfl,q _ (I1.hok.fresh (Zd _))⟩
 ·obtain⟨its,r',pl,hz⟩:=I.tuple hq;exact call_tuple_same pl ⟨.ref p,H,I,rfl,q⟩
def tyV (K:PySem.W.Frag) (T:String) (x:V) (H:Hp):Prop:=match x with
 |.str _=>T = "str"
 |.int _=>T = "int"
 |.ref p=>(T = "list" /\ ∃xs,SqL K H p xs)\/(T = "tuple" /\ ∃o,K.lookup p=some o/\o.cls=.type "tuple" /\ o.dict=none) \/
   (T = "dict" /\ ((∃kvs,H p=some (.dK kvs))\/∃kvs,H p=some (.dT kvs)))\/(T = "set" /\ ∃S n,H p=some (.set S n))
 |_=>False
theorem xB1 {j8:List (Addr×Obj)}{σ:St}{H:Hp}{s:Shared}{T:String}{x:V}{v:Value}(I:Inv X j8 σ H s) (r:RelV x v) (ty:tyV X.K T x H) :
  s.TypeIs v T/\∀a,v=.ref a->∃ob,s.heap.get? a=some ob/\ob.dict=none:=by
 cases x with
 |str z=>
  obtain⟨t,rfl⟩:=r;cases (show T = "str" from ty);exact⟨typeIs_str s z t,λ_ e=>nomatch e⟩
 |int i=>
  obtain⟨t,rfl⟩:=r;cases (show T = "int" from ty);exact⟨typeIs_int s i t,λ_ e=>nomatch e⟩
 |ref p=>
  cases r;rcases ty with ⟨rfl,xs,hq⟩|⟨rfl,o,hk,hc,hd⟩|⟨rfl,hk⟩|⟨rfl,S,n,hk⟩
  ·obtain⟨its,_,pl,_⟩:=I.list hq;refine⟨pl.isList.typeIs,λa e=>?_⟩;cases e;obtain⟨o,n,e,c,hd,_⟩:=pl;exact⟨o,e,hd⟩
  ·refine⟨⟨o,I.kIn p o hk,hc⟩,λa e=>?_⟩;cases e;exact⟨o,I.kIn _ o hk,hd⟩
  ·have z:∃o,s.heap.get? p=some o/\o.ExactDict:=by
    rcases hk with ⟨kvs,hk⟩|⟨kvs,hk⟩
    ·obtain⟨_,_,_,_,o,_,_,e,ex,_⟩:=I.hok p _ hk;exact⟨o,e,ex⟩
    ·obtain⟨_,_,_,_,o,_,_,e,ex,_⟩:=I.hok p _ hk;exact⟨o,e,ex⟩
   obtain⟨o,e,ex⟩:=z;refine⟨⟨o,e,ex.1⟩,λa e2=>?_⟩;cases e2;exact⟨o,e,ex.2.1⟩
  ·obtain⟨o,_,_,_,e,ex,_⟩:=I.hok p _ hk;refine⟨⟨o,e,ex.1⟩,λa e2=>?_⟩;cases e2;exact⟨o,e,ex.2.1⟩
 |_=>exact False.elim ty
def tBM (K:PySem.W.Frag) (T:String) (r:V->List V->Hp->VK->Prop) (to:TE) (t:TA):TE:=λσ H Q=>to σ H λx H1=>tyV K T x H1/\t σ H1 λxs H2=>r x xs H2 Q
variable {o e:Expr}{es:List Expr}{to:TE}{t:TA}{name:Str}{apos cpos:Pos}{T id:String}{r:V->List V->Hp->VK->Prop}
theorem q14 (pa:PlainAttrs T) (slot:Slot T name id) (hty:typeOf (.builtin id)=pure (.type "method_descriptor")) (hm:MtR X id r) (ho:PE X o to) (ha:PA X (e::es) t)
  (hbase:attributeBase o name X.env (eval o X.env)=eval o X.env:=by rfl)
  (hfew:((backTo cpos (starEach (e::es) X.env)).all (λx=>!x.1)&&(backToKw cpos (keywordEach [] X.env)).all (λx=>x.1.isSome)
   && decide ((e::es).length+([]:List Keyword).length+(if ([]:List Keyword).isEmpty then 0 else 1)<30))=true:=by rfl)
  (hline:(apos.endLine==cpos.line)=true:=by rfl) (hs:starEach (e::es) X.env=(false,eval e X.env)::starEach es X.env:=by rfl) (hplain:(backTo cpos (starEach es X.env)).any (·.1)=false:=by rfl) :
  PE X (.Call (.Attribute o name apos) (e::es) [] cpos) (tBM X.K T r to t):=by
 intro j8 s σ H Q I h;refine wpAny_Call_method_late hbase hfew hline rfl (thn (ho j8 s σ H _ I h) λv s1 ⟨x,H1,I1,r1,ty,q1⟩=>?_);obtain⟨h1,h2⟩:=xB1 I1 r1 ty;refine⟨T,id,pa,slot,hty,h1,h2,?_⟩;have hA:=ha cpos j8 s1 σ H1 _ I1 q1;rw[hs] at hA ⊢;refine Calls.callWith_builtin (by show (false||(backTo cpos (starEach es X.env)).any (·.1))=false;rw[hplain]<;>rfl) (Calls.evalArgs_plain ?_);exact thn hA λus s2 ⟨vs,H2,I2,r2,q2⟩=>hm j8 s2 σ H2 x vs v us Q I2 r1 r2 q2
end
def MtM (X:Cx) (id:String) (r:V->List V->Hp->VK->Prop):Prop:=
 ∀(j8:List (Addr×Obj)) (s:Shared) (σ:St) (H:Hp) (x:V) (xs:List V) (v:Value) (us:List Value) (Q:VK),Inv X j8 σ H s->RelV x v->Vals xs us->r x xs H Q ->
  wpAny (model X.prog X.w) X.A (call (.builtin id) (v::us)) (EP X j8 σ Q) X.xe s
theorem Vals.one:∀{x:V}{us:List Value},Vals [x] us->∃u,us=[u]/\RelV x u
 |_,_,.cons r .nil=>⟨_,rfl,r⟩
section
variable {X:Cx}{j8:List (Addr×Obj)}{σ:St}{H:Hp}{s:Shared}{l b:Addr}{xs ys zs:List V}
theorem Inv.lset {its its':List Value}{n:Nat}{f:Array Value->Array Value}{t':Nat}(I:Inv X j8 σ H s) (hH:H l=some (.lst xs))
  (e:s.heap.get? l=some { cls:=.type "list",data:=.seq its.toArray n }) (hf:f its.toArray=its'.toArray) (hv:Vals ys its') (hz:ys.length<=sizeLine) :
  Inv X j8 σ (upd H l (.lst ys)) { s with heap:=s.heap.update l (Obj.mapSeq f),toks:=t' }:=by
 have q:=PySem.IsL.update e f;rw[hf] at q;refine I.write (x:=l) (e:=l) (by rw[hH];exact trivial) (.inl rfl) (λb' u hb hu=>(Heap.get?_update_other s.heap (Obj.mapSeq f) (Yx hb)).trans hu) ⟨_,q⟩ ?_;exact⟨hz,its',_,hv,q⟩
theorem Inv.lnew {its:List Value}{t':Nat}(I:Inv X j8 σ H s) (hv:Vals ys its) (hz:ys.length<=sizeLine) :
  Inv X j8 σ (upd H s.heap.objs.size (.lst ys)) { s with heap:=s.heap.push { cls:=.type "list",data:=.seq its.toArray },toks:=t' }:=
 I.laid (λ_ _ q=>Zf _ q) (Zd _) ⟨hz,its,0,hv,Zo _ rfl⟩
theorem Inv.fresh (I:Inv X j8 σ H s):H s.heap.objs.size=none:=I.hok.fresh (Zd _)
theorem Inv.lstM (I:Inv X j8 σ H s) (hH:H l=some (.lst xs)):xs.length<=sizeLine/\∃(its:List Value) (n:Nat),Vals xs its/\xs.length=its.length/\s.heap.get? l=some { cls:=.type "list",data:=.seq its.toArray n }:=by
 obtain⟨z,its,n,r,e⟩:=I.hok l _ hH;exact⟨z,its,n,r,r.length,e⟩
theorem xi4 {n:Nat}(h:n<=sizeLine):Builtin.List.listTooLong n=false:=by
 unfold Builtin.List.listTooLong;exact Zq (by lia)
end
section
variable {X:Cx}
def xt1:V->List V->Hp->VK->Prop:=λx vs H Q=>∃l xs y,x=.ref l/\vs=[y]/\H l=some (.lst xs)/\xs.length<sizeLine/\Q .non (upd H l (.lst (xs++[y])))
theorem qf2:MtM X "list.append" xt1:=by
 intro j8 s σ H x vs v us Q I rx rv h;obtain⟨l,xs,y,rfl,rfl,hH,hz,q⟩:=h;cases rx;obtain⟨u,rfl,ru⟩:=rv.one;obtain⟨z,its,n,r,hl,e⟩:=I.lstM hH;refine call_meets F.slot_list_append ⟨_,e,rfl⟩ F.entry_list_append (F.args_list_append_2 _ _) (PySem.list_append l its.toArray n u (by rw[ZF];lia)) ⟨e,?_⟩;refine⟨.non,_,I.lset (its':=its++[u]) hH e (by simp) (r.append (.cons ru .nil)) ?_,rfl,q⟩;rw[Zr,YY];lia
def xt2:V->List V->Hp->VK->Prop:=λx vs H Q=>∃l b xs zs,x=.ref l/\vs=[.ref b]/\H l=some (.lst xs)/\H b=some (.lst zs)/\xs.length+zs.length<=sizeLine/\Q .non (upd H l (.lst (xs++zs)))
theorem q71:MtM X "list.extend" xt2:=by
 intro j8 s σ H x vs v us Q I rx rv h;obtain⟨l,b,xs,zs,rfl,rfl,hH,hB,hz,q⟩:=h;cases rx;obtain⟨u,rfl,ru⟩:=rv.one;cases ru;obtain⟨z,its,n,r,hl,e⟩:=I.lstM hH;obtain⟨z2,its2,n2,r2,jW,e2⟩:=I.lstM hB;have hsz:its.toArray.size+its2.toArray.size<=sizeLine:=by rw[ZF,ZF];lia
 have hlong:¬(!its.toArray.isEmpty&&Builtin.List.listTooLong (its.toArray.size+its2.toArray.size))=true:=by
  rw[xi4 hsz,WI];exact ZD
 refine call_meets F.slot_list_extend ⟨_,e,rfl⟩ F.entry_list_extend (F.args_list_extend_2 _ _)
  (AutoSeq1.list_extend_list_list_0 l its.toArray n b its2.toArray n2 hlong (by rw[ZF];lia) (by lia)) ⟨e,e2,?_⟩
 refine⟨.non,_,I.lset (its':=its++its2) hH e (by simp) (r.append r2) ?_,rfl,q⟩;rw[Zr];lia
def rCat:R2:=λx y H Q=>∃l b xs zs,x=.ref l/\y=.ref b/\H l=some (.lst xs)/\H b=some (.lst zs)/\xs.length+zs.length<=sizeLine/\∀p,H p=none->Q (.ref p) (upd H p (.lst (xs++zs)))
theorem qU7:OpR X (binaryOp .Add) rCat:=by
 intro j8 s σ H x y v u Q I rx ry h;obtain⟨l,b,xs,zs,rfl,rfl,hH,hB,hz,q⟩:=h;cases rx;cases ry;obtain⟨z,its,n,r,hl,e⟩:=I.lstM hH;obtain⟨z2,its2,n2,r2,jW,e2⟩:=I.lstM hB;refine PySem.P.add_list e e2 ?_ (by rw[ZF,ZF];lia);have ea:its.toArray++its2.toArray=(its++its2).toArray:=by simp
 rw[ea];exact⟨.ref _,_,I.lnew (t':=s.toks) (r.append r2) (by rw[Zr];lia),rfl,q _ I.fresh⟩
end
section
variable {prog:Program}{w:World}{A:Around}{E:Value->Shared->Prop}{s:Shared}
end
section
variable {X:Cx}
end
end L2
namespace Att
open PySem PySem.W PySem.Calls PyProof.Rows
theorem qy7 {P:Params}{h:Heap}:∀(ns:List Int) (vs:List Value),WellAll P h vs (ns.map WData.int)->IntsAre vs ns:=by
 intro ns
 induction ns with
 |nil=>
  intro vs w;rw[WJ] at w;cases w;exact .nil
 |cons n ns ih=>
  intro vs w;rw[ZC] at w;cases w with
  |cons a b=>
   cases a;exact .cons _ _ (ih _ b)
theorem q72 {l:OpenLaw}{n:Nat}(hn:l.most=some n){P:Params}{h:Heap}{args:List WData}{vals:List Value}
  (hpre:l.row.toRowW.claim.pre args=true) (hwl:WellAll P h vals args) :
  ∃a vs ns,vals=[Value.ref a]/\args=[WData.list (ns.map WData.int)]/\h.get? a=some { cls:=.type "list",data:=.seq vs.toArray }/\IntsAre vs ns/\ns.length<=n:=by
 have hsh:WShape.hasAll [] args [.list .int]=true:=(pre_splitW hpre).1;have hc:l.pre.holds [] { args:=args }=true:=(pre_splitW hpre).2;obtain⟨d,r,rfl,h1,h2⟩:=hasAllW_cons hsh;obtain rfl:=hasAllW_nil h2;obtain⟨xs,rfl,h3⟩:=hasW_list h1;obtain⟨ns,rfl⟩:=items_int h3;have j9:ns.length<=n:=by
  unfold OpenLaw.pre at hc;have h4:(WTm.not (.lt (.lit (.int (n:Int))) (.len (.arg 0)))).holds [] { args:=[.list (ns.map .int)] }=true:=by
   have h4:=(holds_andW hc).1;rw[hn] at h4;exact h4
  have h5:=condW_of h4 (w_not (w_lt w_lit (w_len_list (w_arg rfl))));rw[Ze] at h5;refine Wf λq=>?_;have q':(n:Int)<((ns.length:Nat):Int):=by lia
  first
   |(rw[Zl q'] at h5;exact absurd h5 (by decide))
   |(simp at h5;lia)
 cases hwl with
 |cons w1 w2=>
  cases w2;cases w1 with
  |list ho jG=>exact⟨_,_,ns,rfl,rfl,ho,qy7 ns _ jG,j9⟩
theorem q73 (l:OpenLaw) (args:List WData):l.row.toRowW.claim.post args (.bool true) args=true:=
 postW_of (r:=l.row.toRowW) (X:=(true==true))
  (show WShape.has [] (.bool true) .bool=true by first|rfl|decide|simp[WShape.has,WShape.arms,WShape.armsAll])
  (show (WTm.eq .res (.lit (.bool true))).value [] { args:=args,res:=some (.bool true),after:=args }=some (.bool (true==true)) from w_eq_bool (w_res rfl) w_lit) rfl
theorem attach_call {l:OpenLaw}{n:Nat}{q:Program}{loose:List Str}{XP:(Str->Option Value)->Heap->Prop}{YP:World->Heap->Prop}{d:DefRec}
  (hn:l.most=some n) (hdf:d.params.defaults=[])
  (call:∀(w:World) (s₀ s₁:Shared) (mg mb:Str->Option Value) (fa:Addr) (o:Obj) (pm cd doc:Value) (a:Addr) (vs:List Value) (ns:List Int),
   Ground q loose [] XP w s₀ mg mb s₁.heap->YP w s₁.heap ->
   s₁.heap.get? fa=some o->o.data=.func (docDef d.name d.params d.body d.scope pm cd doc)->s₁.heap.CodeRec cd d.name->mg d.name=some (.ref fa) ->
   s₁.heap.get? a=some { cls:=.type "list",data:=.seq vs.toArray }->IntsAre vs ns->ns.length<=n->s₁.gens=#[] ->
   codeAny (model l.prog w) callerA (.call (.ref fa) ⟨[.ref a],[]⟩) (λr s'=>r=.ok (.ret (.bool true))/\OldK s₁.heap s'.heap/\s'.os=s₁.os/\AllBare s'.gens) s₁) :
  WalkO q loose XP YP l.row.toRowW d [] (λf vs=>PySem.call f vs):=by
 intro w s₀ s₁ mg mb G Y fa o pm cd doc dV kV ho hd vB hD hmg hg args vals as hpre hlay hrd hwl hlo;obtain rfl:dV=.none:=Dflts.none hD hdf;obtain rfl:kV=.none:=Dflts.noKw hD;obtain⟨a,vs,ns,rfl,rfl,hobj,hints,j9⟩:=q72 hn hpre hwl;refine enter_call (WF (call w s₀ s₁ mg mb fa o pm cd doc a vs ns G Y ho (fd_plain hd) vB hmg hobj hints j9 hg) λr s' hq=>?_);obtain⟨rfl,h2,h3,h4⟩:=hq;exact⟨.inl ⟨.bool true,.bool true,[],rfl,λ_=>rfl,.bool true,q73 l _,λ_=>⟨List.Pairwise.nil,λ_ hm=>(nomatch hm)⟩⟩,h2,h3,h4⟩
section
variable {prog:Program}{w:World}{A:Around}{E:Value->Shared->Prop}{s:Shared}{K:Frag}
end
end Att
namespace L2
open PySem PySem.Spec PyProof.Rows
theorem qL8:∀{vs:List Value}{ns:List Int},IntsAre vs ns->Vals (ns.map V.int) vs
 |_,_,.nil=>.nil
 |_,_,.cons n t h=>.cons ⟨t,rfl⟩ (qL8 h)
def Only (H:Hp):Prop:=∀b,H b=none\/∃o xs,H b=some (.frz o (.lst xs))
theorem xi5 {P:Program}{w:World}{K:PySem.W.Frag}{mg mb:Str->Option Value}{CX:CXT}{k:Nat}{fa a:Addr}{fd:FuncData}{x:Str}{sp:Sp}{s₁:Shared}{vs:List Value}{ns:List Int}
  (KX:K.In s₁.heap) (hns:s₁.heap.Ns mainGlobals mg) (hb:s₁.heap.Ns builtinsNs mb) (hbb:∀x:Str,x ≠ "__name__" -> mb x=bootBuiltins x) (hlim:s₁.heap.NoLimit) (hg:s₁.gens=#[])
  (ha:s₁.heap.get? a=some { cls:=.type "list",data:=.seq vs.toArray }) (hi:IntsAre vs ns) (hl:ns.length<=sizeLine) (hr:Room k callerA)
  (F:∀base:Heap,K.In base->base.Ns mainGlobals mg->FnOk P w K mg base CX k fa fd [x] sp) (hbind:∀(s:Shared) (u:Value),BindsTo s fd ⟨[u],[]⟩ [(x,u)])
  (vK:∀H:Hp,Only H->SqL K H a (ns.map V.int)->sp [.ref a] H (λv _=>v=.bl true) λ_ _ _=>False)
  (hCX:∀H e s',CX [] H s₁ (λ_ _ _=>False) e s'->False) :
  codeAny (model P w) callerA (.call (.ref fa) ⟨[.ref a],[]⟩) (λr s'=>r=.ok (.ret (.bool true))/\OldK s₁.heap s'.heap/\s'.os=s₁.os/\AllBare s'.gens) s₁:=by
 have rv:=qL8 hi;have lenV:=hi.length;have core:∀H:Hp,Only H->SqL K H a (ns.map V.int)->HOk P w H s₁.heap->(∀b,H b≠none->b=a)->(H a≠none->K.lookup a=none) ->
   codeAny (model P w) callerA (.call (.ref fa) ⟨[.ref a],[]⟩) (λr s'=>r=.ok (.ret (.bool true))/\OldK s₁.heap s'.heap/\s'.os=s₁.os/\AllBare s'.gens) s₁:=by
  intro H hO hS hok hA hK;have base_of:∀{b:Addr}{o:Obj},s₁.heap.get? b=some o->H b=none->(hidT s₁.heap H).get? b=some o:=λe n=>xh5 e n;have noA:∀{b:Addr}{o:Obj}{es:Array DictEntry}{ep:Nat},s₁.heap.get? b=some o->o.data=.dict es ep->H b=none:=λ{b o es ep} e d=>by
   cases q:H b with
   |none=>rfl
   |some u=>
    have e':b=a:=hA b (by rw[q];simp);subst e';rw[ha] at e;cases e;have d':Data.seq vs.toArray _=Data.dict es ep:=d;cases d'
  have nsK:∀{b:Addr}{m:Str->Option Value},s₁.heap.Ns b m->(hidT s₁.heap H).Ns b m:=λ{b m} ⟨o,es,ep,e,d,r⟩=>⟨o,es,ep,base_of e (noA e d),d,r⟩;have hKb:K.In (hidT s₁.heap H):=λb o e=>base_of (KX b o e) (by
   cases q:H b with
   |none=>rfl
   |some u=>
    have e':b=a:=hA b (by rw[q];simp);subst e';rw[hK (by rw[q];simp)] at e;cases e)
  have hM:Mod K mg (hidT s₁.heap H):=⟨hKb,nsK hns,⟨mb,nsK hb,hbb⟩,let ⟨mc,h1,h2⟩:=hlim;⟨mc,nsK h1,h2⟩⟩;have e0:Env0 P w K mg (hidT s₁.heap H) callerA [] s₁ H:=⟨rfl,hM,λb o e=>xs4 e,WE (q49 _ _),trivial,λb hb=>absurd (show b∈([]:List Addr) from hb) (by simp),hok,.of_eq hg⟩;refine WF ((F _ hKb (nsK hns)).run callerA [] s₁ H ⟨[.ref a],[]⟩ [.ref a] [.ref a] _ _ hr e0 (hbind s₁ (.ref a)) (.cons rfl .nil) (vK H hO hS)) λr s' h=>?_;cases r with
  |error e=>exact (hCX H e s' h).elim
  |ok fl=>
   cases fl with
   |next=>exact False.elim h
   |brk=>exact False.elim h
   |cont=>exact False.elim h
   |ret u=>
    obtain⟨v,H',os,bare,un,hok',r',q⟩:=h;have q':v=.bl true:=q;subst q';obtain rfl:u=Value.bool true:=r';refine⟨rfl,OldK.of_keep λb o e=>?_,os,bare⟩;cases q:H b with
    |none=>exact un.keep b o e q (by intro z;exact absurd (show b∈([]:List Addr) from z) (by simp)) (by simp)
    |some u=>
     rcases hO b with z|⟨ob,xs,z⟩
     ·rw[q] at z;cases z
     ·have z2:=un.frzs b ob _ z;obtain⟨e1,_⟩:=hok b _ z;obtain⟨e2,_⟩:=hok' b _ z2;rw[e] at e1;cases e1;exact e2
 cases hk:K.lookup a with
 |some o=>
  have e:=KX a o hk;rw[ha] at e;cases e;refine core (λ_=>none) (λ_=>.inl rfl) (.inr ⟨_,vs.toArray,_,hk,rfl,rfl,rfl,by rw[ZF,lenV];exact hl,by simpa using rv⟩) (λb u z=>by have z':(none:Option HO)=some u:=z;cases z') (λb z=>absurd rfl z) λz=>absurd rfl z
 |none=>
  refine core (λb=>if b=a then some (.frz { cls:=.type "list",data:=.seq vs.toArray } (.lst (ns.map V.int))) else none) (λb=>?_) (.inl (.inr ⟨{ cls:=.type "list",data:=.seq vs.toArray },Zp rfl⟩)) (λb u z=>?_) (λb z=>?_) λ_=>hk
  ·by_cases hb:b=a
   ·exact .inr ⟨_,_,Zp hb⟩
   ·exact .inl (Zk hb)
  ·by_cases hb:b=a
   ·have z':=(Zp hb).symm.trans z;cases z';subst hb;exact⟨ha,by rw[Ze];exact hl,vs,_,rv,ha⟩
   ·have z':=(Zk hb).symm.trans z;cases z'
  ·by_cases hb:b=a
   ·exact hb
   ·exact absurd (Zk hb) z
theorem xt3 {l:PySem.W.OpenLaw}{n k:Nat}{q:Program}{loose:List Str}{XP:(Str->Option Value)->Heap->Prop}{YP:World->Heap->Prop}{d:DefRec}{K:Params->PySem.W.Frag}{CX:World->CXT}{sp:World->Sp}{x:Str}
  (hn:l.most=some n) (hn2:n<=sizeLine) (hdf:d.params.defaults=[]) (hr:Room k callerA)
  (hY:∀(w:World) (h:Heap),YP w h->(K w.params).In h)
  (F:∀(w:World) (mg:Str->Option Value) (fa:Addr) (h:Heap),(K w.params).In h->h.Ns mainGlobals mg->mg d.name=some (.ref fa) ->
   ∃fd:FuncData,(∀(s:Shared) (u:Value),BindsTo s fd ⟨[u],[]⟩ [(x,u)]) /\
    ∀base:Heap,(K w.params).In base->base.Ns mainGlobals mg->FnOk l.prog w (K w.params) mg base (CX w) k fa fd [x] (sp w))
  (vK:∀(w:World) (H:Hp) (a:Addr) (ns:List Int),ns.length<=n->Only H->SqL (K w.params) H a (ns.map V.int)->sp w [.ref a] H (λv _=>v=.bl true) λ_ _ _=>False)
  (hCX:∀(w:World) (H:Hp) (s:Shared) (e:Value) (s':Shared),CX w [] H s (λ_ _ _=>False) e s'->False) :
  PySem.W.WalkO q loose XP YP l.row.toRowW d [] (λf vs=>PySem.call f vs):=by
 refine Att.attach_call hn hdf λw s₀ s₁ mg mb fa o pm cd doc a vs ns G Y ho hd vB hmg hobj hints j9 hg=>?_;have KX:=hY w _ Y;obtain⟨fd,hb,hF⟩:=F w mg fa _ KX G.T.g hmg;exact xi5 KX G.T.g G.T.b G.T.builtins G.T.nolimit hg hobj hints (ZL j9 hn2) hr hF hb (λH hO hS=>vK w H a ns j9 hO hS) λH e s'=>hCX w H s₁ e s'
abbrev CX0:CXT:=λ_ _ _ _ _ _=>False
abbrev E0:XK:=λ_ _ _=>False
theorem q74 {X:Cx}:qD3 CX0 X E0:=λ_ _ _ _ _ _ _ h=>h.elim
structure Fun (K:PySem.W.Frag) (x qual:Str) (st:Stmt) (f:Addr) (fd:FuncData):Prop where
 ex:∃(oc:Value) (od:Option Addr) (kV doc pm:Value) (an:Option Addr) (cdv ct:Value) (osl:Array (Option Value)),
  fd=PySem.W.fnOf x qual (qi7 st) (qh9 st) (qa4 st) .none kV doc pm an cdv ct/\K.lookup f=some ⟨oc,od,.func fd,osl⟩/\PySem.W.codeIn K cdv qual=true
 kp:PySem.W.keepIn K (.ref f)=true
section
variable {P:Program}{w:World}{K:PySem.W.Frag}{mg:Str->Option Value}{base:Heap}
theorem Fun.ok {x qual:Str}{st:Stmt}{f:Addr}{fd:FuncData}{N ps:List Str}{k:Nat}{sp:Sp}(F:Fun K x qual st f fd) (S:FnScope N ps (qa4 st)) (len:∀vs H Q E,sp vs H Q E->vs.length=ps.length)
  (hbody:∀(cdv:Value) (A:Around) (outer:List Env) (s:Shared) (H:Hp) (vs:List V) (Q:VK) (E:XK),Room k (A.deeper (envOfC qual (qa4 st) s.heap.objs.size f cdv))->sp vs H Q E ->
   ∃t,PSs (cxOf CX0 P w K mg base N qual (qa4 st) f cdv A outer s H E).nox (qh9 st) t/\t { nx:=λ_ H'=>Q .non H',rt:=Q } (qL7 N vs) H):FnOk P w K mg base CX0 (k+1) f fd ps sp:=by
 obtain⟨oc,od,kV,doc,pm,an,cdv,ct,osl,rfl,lk,vB⟩:=F.ex;refine xI9 lk vB S len λA outer s H vs Q E hr vK=>?_;obtain⟨t,h,q⟩:=hbody cdv A outer s H vs Q E hr vK;exact⟨t,h.nox,q⟩
theorem Fun.binds {x qual:Str}{st:Stmt}{f:Addr}{fd:FuncData}{ps:List Str}(F:Fun K x qual st f fd)
  (h:∀(kV doc pm:Value) (an:Option Addr) (cdv ct:Value) (us:List Value),us.length=ps.length->bindArgs (PySem.W.fnOf x qual (qi7 st) (qh9 st) (qa4 st) .none kV doc pm an cdv ct) ⟨us,[]⟩=pure (ps.zip us)):Binds K fd ps []:=by
 obtain⟨oc,od,kV,doc,pm,an,cdv,ct,osl,rfl,lk,vB⟩:=F.ex;exact .all (h kV doc pm an cdv ct)
theorem q75 {x qual:Str}{st:Stmt}{f:Addr}{oc:Value}{od an:Option Addr}{osl:Array (Option Value)}{kV doc pm cdv ct:Value}(l:K.lookup f=some ⟨oc,od,.func (PySem.W.fnOf x qual (qi7 st) (qh9 st) (qa4 st) .none kV doc pm an cdv ct),osl⟩)
  (c:PySem.W.codeIn K cdv qual=true) (k:PySem.W.keepIn K (.ref f)=true):Fun K x qual st f (PySem.W.fnOf x qual (qi7 st) (qh9 st) (qa4 st) .none kV doc pm an cdv ct):=⟨⟨oc,od,kV,doc,pm,an,cdv,ct,osl,rfl,l,c⟩,k⟩
end
theorem qm2 {n:Nat}(h:n<=1000):n<sizeLine:=Y2 h (by decide)
section
variable {X:Cx}
theorem pv (i:Nat){x:Str}{pos:Pos}(hN:X.N[i]?=some x:=by rfl) (hv:Vis X.env.scope x:=by first|exact Or.inl rfl|exact Or.inr (Or.inl rfl)|exact Or.inr (Or.inr rfl)) (hd:(x==("__debug__" : Str))=false:=by decide)
  (vB:(x==("__classdict__" : Str))=false:=by decide):PE X (.Name x pos) (tVar i):=xA2 hN hv hd vB
end
theorem iteF {A B:Prop}(h:B):if false=true then A else B:=by
 rw[Zk ZD];exact h
theorem iteT {A B:Prop}(h:A):if true=true then A else B:=by
 rw[Zp rfl];exact h
theorem ite2 {c A B:Prop}[Decidable c] (h1:c->A) (h2:¬c->B):if c then A else B:=by
 by_cases h:c
 ·rw[Zp h];exact h1 h
 ·rw[Zk h];exact h2 h
theorem xJ4 {c A B:Prop}[Decidable c] (hc:c) (h:B):if (!decide c)=true then A else B:=by
 rw[Zl hc];exact iteF h
def Same (H H':Hp):Prop:=∀b o,H b=some o->H' b=some o
theorem Same.refl (H:Hp):Same H H:=λ_ _ h=>h
theorem Same.trans {H H1 H2:Hp}(a:Same H H1) (b:Same H1 H2):Same H H2:=λc o h=>b c o (a c o h)
theorem Same.seq {K:PySem.W.Frag}{H H':Hp}{a:Addr}{xs:List V}(e:Same H H') (h:SqL K H a xs):SqL K H' a xs:=by
 rcases h with (h|⟨o,h⟩)|h
 ·exact .inl (.inl (e _ _ h))
 ·exact .inl (.inr ⟨o,e _ _ h⟩)
 ·exact .inr h
section
variable {κ:Type}[DecidableEq κ]
def valV (kvs:List (κ×V)) (k:κ):Option V:=(kvs.find? λkv=>decide (kv.1=k)).map (·.2)
def putK (kvs:List (κ×V)) (k:κ) (v:V):List (κ×V):=
 if (kvs.any λkv=>decide (kv.1=k))=true then kvs.map (λkv=>if kv.1=k then (kv.1,v) else kv) else kvs++[(k,v)]
theorem xi6 {k:κ}:valV ([]:List (κ×V)) k=none:=rfl
theorem qf5 {p:κ×V}{r:List (κ×V)}{k:κ}(e:p.1=k):valV (p::r) k=some p.2:=by simp[valV,XW,e]
theorem qe3 {p:κ×V}{r:List (κ×V)}{k:κ}(e:¬p.1=k):valV (p::r) k=valV r k:=by simp[valV,XW,e]
theorem qi1 (k:κ):∀kvs:List (κ×V),(kvs.any λkv=>decide (kv.1=k))=(valV kvs k).isSome
 |[]=>rfl
 |p::r=>by
  rw[XC];by_cases e:p.1=k
  ·simp only[qf5 e,Zl e,Bool.true_or,Option.isSome_some]
  ·rw[qe3 e,Zq e,Bool.false_or];exact qi1 k r
theorem qU8 (k j:κ) (y:V):∀kvs:List (κ×V),valV (kvs.map λkv=>if kv.1=k then (kv.1,y) else kv) j=(valV kvs j).map λx=>if j=k then y else x
 |[]=>rfl
 |p::r=>by
  have ih:=qU8 k j y r;rw[ZC];by_cases h:p.1=k
  ·rw[Zp h];by_cases e:p.1=j
   ·rw[qf5 (p:=(p.1,y)) e,qf5 e,W9,Zp (e.symm.trans h)]
   ·rw[qe3 (p:=(p.1,y)) e,qe3 e,ih]
  ·rw[Zk h];by_cases e:p.1=j
   ·rw[qf5 (p:=p) e,qf5 e,W9,Zk (λz=>h (e.trans z))]
   ·rw[qe3 (p:=p) e,qe3 e,ih]
theorem qL9 (k j:κ) (y:V):∀kvs:List (κ×V),valV kvs k=none->valV (kvs++[(k,y)]) j=if j=k then some y else valV kvs j
 |[],_=>by
  by_cases e:k=j
  ·rw[Zp e.symm];exact qf5 (p:=(k,y)) e
  ·rw[Zk (λz=>e z.symm)];exact qe3 (p:=(k,y)) e
 |p::r,hn=>by
  rw[List.cons_append];have hk:¬p.1=k:=λz=>by rw[qf5 z] at hn;cases hn
  rw[qe3 hk] at hn;have ih:=qL9 k j y r hn;by_cases e:p.1=j
  ·rw[qf5 e,qf5 e,Zk (λz=>hk (e.trans z))]
  ·rw[qe3 e,qe3 e,ih]
theorem qG2 (kvs:List (κ×V)) (k j:κ) (y:V):valV (putK kvs k y) j=if j=k then some y else valV kvs j:=by
 unfold putK;by_cases a:(kvs.any λkv=>decide (kv.1=k))=true
 ·rw[Zp a,qU8];rw[qi1] at a;by_cases e:j=k
  ·obtain⟨x,hx⟩:=XB.mp a;rw[Zp e,e,hx,W9,Zp rfl]
  ·rw[Zk e];cases valV kvs j with
   |none=>rfl
   |some x=>rw[W9,Zk e]
 ·rw[Zk a];refine qL9 k j y kvs ?_;rw[qi1] at a;cases q:valV kvs k with
  |none=>rfl
  |some x=>rw[q] at a;exact (a rfl).elim
theorem qk9 (kvs:List (κ×V)) (k:κ) (v:V):(putK kvs k v).length<=kvs.length+1:=by
 unfold putK;split
 ·rw[Ze];lia
 ·rw[Zr,ZJ,VP];lia
theorem xi7 {kvs:List (κ×V)}{k:κ}(v:V) (h:valV kvs k=none):putK kvs k v=kvs++[(k,v)]:=by
 unfold putK;rw[qi1,h];exact Zk (by decide)
theorem RelO.isSome_eq {o:Option V}{u:Option Value}(r:RelO o u):o.isSome=u.isSome:=by
 cases o with
 |none=>cases u with
  |none=>rfl
  |some _=>exact (show False from r).elim
 |some _=>cases u with
  |none=>exact (show False from r).elim
  |some _=>rfl
theorem RelO.getD {o:Option V}{u:Option Value}{d:V}{d':Value}(r:RelO o u) (rd:RelV d d'):RelV (o.getD d) (u.getD d'):=by
 cases o with
 |none=>cases u with
  |none=>exact rd
  |some _=>exact (show False from r).elim
 |some _=>cases u with
  |none=>exact (show False from r).elim
  |some _=>exact r
theorem KV.val {kvs:List (κ×V)}{vs:List (κ×Value)}(r:KV kvs vs) (k:κ):RelO (valV kvs k) (valueAt vs k):=by
 unfold KV at r
 induction r with
 |nil=>exact True.intro
 |@cons p q ps qs h t ih=>
  obtain⟨h1,h2⟩:=h;by_cases e:p.1=k
  ·have e':q.1=k:=h1.symm.trans e;have b:valueAt (q::qs) k=some q.2:=by simp[valueAt,XW,e']
   rw[qf5 e,b];exact h2
  ·have e':¬q.1=k:=λz=>e (h1.trans z);have b:valueAt (q::qs) k=valueAt qs k:=by simp[valueAt,XW,e']
   rw[qe3 e,b];exact ih
theorem KV.any {kvs:List (κ×V)}{vs:List (κ×Value)}(r:KV kvs vs) (k:κ):(kvs.any λkv=>decide (kv.1=k))=vs.any λkv=>decide (kv.1=k):=by
 unfold KV at r
 induction r with
 |nil=>rfl
 |cons h t ih=>rw[XC,XC,ih,h.1]
theorem KV.repl {kvs:List (κ×V)}{vs:List (κ×Value)}(r:KV kvs vs) (k:κ){y:V}{u:Value}(ry:RelV y u) :
  KV (kvs.map λkv=>if kv.1=k then (kv.1,y) else kv) (vs.map λkv=>if kv.1=k then (kv.1,u) else kv):=by
 unfold KV at r ⊢
 induction r with
 |nil=>exact .nil
 |@cons p q ps qs h t ih=>
  rw[ZC,ZC];refine .cons ?_ ih;obtain⟨h1,h2⟩:=h;by_cases e:p.1=k
  ·rw[Zp e,Zp (h1.symm.trans e)];exact⟨h1,ry⟩
  ·rw[Zk e,Zk (λz=>e (h1.trans z))];exact⟨h1,h2⟩
theorem KV.put {kvs:List (κ×V)}{vs:List (κ×Value)}(r:KV kvs vs) (k:κ){y:V}{u:Value}(ry:RelV y u):KV (putK kvs k y) (stored vs k u):=by
 unfold putK stored;rw[r.any k];by_cases e:(vs.any λkv=>decide (kv.1=k))=true
 ·rw[Zp e,Zp e];exact r.repl k ry
 ·rw[Zk e,Zk e];exact Paired.snoc r ⟨rfl,ry⟩
theorem KV.keys {kvs:List (κ×V)}{vs:List (κ×Value)}(r:KV kvs vs):kvs.map (·.1)=vs.map (·.1):=by
 unfold KV at r
 induction r with
 |nil=>rfl
 |cons h t ih=>rw[ZC,ZC,ih,h.1]
theorem KV.length {kvs:List (κ×V)}{vs:List (κ×Value)}(r:KV kvs vs):kvs.length=vs.length:=Wm r
end
theorem qR5 {P:Program}{w:World}{k:Key}{u:Value}(r:RelV (kV k) u):(qc6 P w).is k u=true:=by
 cases k with
 |inl i=>obtain⟨t,e⟩:=(show ∃t,u=Value.int i t from r);subst e;exact qR0 P w i t
 |inr x=>obtain⟨t,e⟩:=(show ∃t,u=Value.str x t from r);subst e;exact qR1 P w x t
theorem qy8 {P:Program}{w:World}:∀{ks:List Key}{us:List Value},Vals (ks.map kV) us->ItemsAre (qc6 P w) ks us
 |[],_,r=>by rw[WJ] at r;cases r;exact .nil
 |k::ks,_,r=>by
  rw[ZC] at r;cases r with
  |cons h t=>exact .cons (qR5 h) (qy8 t)
abbrev KT (H:Hp):List (List Key×V)->List (List Key×Addr×Value)->Prop:=Paired λp q=>p.1=q.1/\H q.2.1=some (.tup (p.1.map kV))/\RelV p.2 q.2.2
theorem KT.val {H:Hp}{kvs:List (List Key×V)}{xs:List (List Key×Addr×Value)}(r:KT H kvs xs) (k:List Key):RelO (valV kvs k) ((atKey xs k).map (·.2)):=by
 induction r with
 |nil=>exact True.intro
 |@cons p q ps qs h t ih=>
  obtain⟨h1,_,h2⟩:=h;by_cases e:p.1=k
  ·have e':q.1=k:=h1.symm.trans e;have b:atKey (q::qs) k=some q.2:=by simp[atKey,XW,e']
   rw[qf5 e,b];exact h2
  ·have e':¬q.1=k:=λz=>e (h1.trans z);have b:atKey (q::qs) k=atKey qs k:=by simp[atKey,XW,e']
   rw[qe3 e,b];exact ih
theorem KT.repl {H:Hp}{kvs:List (List Key×V)}{xs:List (List Key×Addr×Value)}(r:KT H kvs xs) (k:List Key){y:V}{u:Value}(ry:RelV y u) :
  KT H (kvs.map λkv=>if kv.1=k then (kv.1,y) else kv) (xs.map (putAt k u)):=by
 induction r with
 |nil=>exact .nil
 |@cons p q ps qs h t ih=>
  rw[ZC,ZC];refine .cons ?_ ih;obtain⟨h1,h2,h3⟩:=h;unfold putAt;by_cases e:p.1=k
  ·rw[Zp e,Zp (h1.symm.trans e)];exact⟨h1,h2,ry⟩
  ·rw[Zk e,Zk (λz=>e (h1.trans z))];exact⟨h1,h2,h3⟩
theorem KT.put {H:Hp}{kvs:List (List Key×V)}{xs:List (List Key×Addr×Value)}(r:KT H kvs xs) (k:List Key){b:Addr}{y:V}{u:Value}(hb:H b=some (.tup (k.map kV))) (ry:RelV y u) :
  KT H (putK kvs k y) (storedH xs k b u):=by
 have e:(kvs.any λkv=>decide (kv.1=k))=(atKey xs k).isSome:=by
  rw[qi1,(r.val k).isSome_eq,VA]
 unfold putK storedH;rw[e];by_cases q:(atKey xs k).isSome=true
 ·rw[Zp q,Zp q];exact r.repl k ry
 ·rw[Zk q,Zk q];exact Paired.snoc r ⟨rfl,hb,ry⟩
theorem KT.keeps {H H':Hp}{kvs:List (List Key×V)}{xs:List (List Key×Addr×Value)}(r:KT H kvs xs) (ht:∀b ys,H b=some (.tup ys)->H' b=some (.tup ys)):KT H' kvs xs:=
 Paired.mapP r λ_ _ z=>⟨z.1,ht _ _ z.2.1,z.2.2⟩
section
variable {P:Program}{w:World}{H:Hp}{h:Heap}{a:Addr}
theorem xB2 {u:HO}(ok:HOk P w H h) (e:Rd H a u):ObjOk P w H h a u:=e.ok ok
theorem qM0 {kvs:List (Key×V)}(ok:HOk P w H h) (e:Rd H a (.dK kvs)):kvs.length<=sizeLine/\(a==sysModules)=false/\∃vs,KV kvs vs/\h.DictOf (qc6 P w) a vs:=
 show ObjOk P w H h a (.dK kvs) from xB2 ok e
theorem xt4 {kvs:List (Key×V)}(ok:HOk P w H h) (e:H a=some (.dK kvs)):kvs.length<=sizeLine/\(a==sysModules)=false/\∃vs,KV kvs vs/\h.DictOf (qc6 P w) a vs:=qM0 ok (.inl e)
theorem qy9 {ks:List Key}(ok:HOk P w H h) (e:H a=some (.tup (ks.map kV))):(tupleKind (qc6 P w)).is h ks a:=by
 obtain⟨_,its,r,o,h1,h2,n,h3⟩:=(show ObjOk P w H h a (.tup (ks.map kV)) from ok a _ e);exact⟨o,its.toArray,n,h1,h2,h3,by simpa using qy8 r⟩
theorem qR6 {kvs:List (List Key×V)}(ok:HOk P w H h) (e:Rd H a (.dT kvs)):kvs.length<=sizeLine/\(a==sysModules)=false /\
  ∃xs,KT H kvs xs/\h.DictOfH (tupleKind (qc6 P w)) a xs:=by
 obtain⟨z,y,xs,r,o,es,ep,h1,h2,h3,h4,h5⟩:=(show ObjOk P w H h a (.dT kvs) from xB2 ok e);refine⟨z,y,xs,r,o,es,ep,h1,h2,h3,h4,λx hx=>?_,h5⟩;have all:∀{l:List (List Key×V)}{m:List (List Key×Addr×Value)},KT H l m->∀x∈m,(tupleKind (qc6 P w)).is h x.1 x.2.1:=by
  intro l m q
  induction q with
  |nil=>intro x hx;exact nomatch hx
  |@cons p q ps qs hq t ih=>
   intro x hx;rcases ZB.mp hx with e|hx
   ·subst e;exact qy9 ok (by rw[<- hq.1];exact hq.2.1)
   ·exact ih x hx
 exact all r x hx
theorem xB3 {kvs:List (List Key×V)}(ok:HOk P w H h) (e:H a=some (.dT kvs)):kvs.length<=sizeLine/\(a==sysModules)=false /\
  ∃xs,KT H kvs xs/\h.DictOfH (tupleKind (qc6 P w)) a xs:=qR6 ok (.inl e)
end
def DGet (H:Hp) (a:Addr) (y:V) (r:Option V):Prop:=
 (∃kvs k,Rd H a (.dK kvs)/\y=kV k/\r=valV kvs k)\/∃kvs k b,Rd H a (.dT kvs)/\y=.ref b/\H b=some (.tup (k.map kV))/\r=valV kvs k
def DPut (H:Hp) (a:Addr) (y v:V) (H':Hp):Prop:=
 (∃kvs k,H a=some (.dK kvs)/\y=kV k/\kvs.length<sizeLine/\H'=upd H a (.dK (putK kvs k v))) \/
 ∃kvs k b,H a=some (.dT kvs)/\y=.ref b/\H b=some (.tup (k.map kV))/\kvs.length<sizeLine/\H'=upd H a (.dT (putK kvs k v))
theorem DGet.k {H:Hp}{a:Addr}{kvs:List (Key×V)}{k:Key}(e:H a=some (.dK kvs)):DGet H a (kV k) (valV kvs k):=.inl ⟨kvs,k,.inl e,rfl,rfl⟩
theorem DGet.t {H:Hp}{a b:Addr}{kvs:List (List Key×V)}{k:List Key}(e:H a=some (.dT kvs)) (eb:H b=some (.tup (k.map kV))):DGet H a (.ref b) (valV kvs k):=.inr ⟨kvs,k,b,.inl e,rfl,eb,rfl⟩
theorem DPut.k {H:Hp}{a:Addr}{kvs:List (Key×V)}{k:Key}{v:V}(e:H a=some (.dK kvs)) (hl:kvs.length<sizeLine):DPut H a (kV k) v (upd H a (.dK (putK kvs k v))):=.inl ⟨kvs,k,e,rfl,hl,rfl⟩
theorem DPut.t {H:Hp}{a b:Addr}{kvs:List (List Key×V)}{k:List Key}{v:V}(e:H a=some (.dT kvs)) (eb:H b=some (.tup (k.map kV))) (hl:kvs.length<sizeLine) :
  DPut H a (.ref b) v (upd H a (.dT (putK kvs k v))):=.inr ⟨kvs,k,b,e,rfl,eb,hl,rfl⟩
section
variable {X:Cx}{j8:List (Addr×Obj)}{σ:St}{H:Hp}{s:Shared}{a:Addr}{y v:V}{u r:Value}{o:Option V}{A:Around}{E:Value->Shared->Prop}
theorem Inv.big (I:Inv X j8 σ H s):sysModules<s.heap.objs.size:=by
 have h:mainGlobals<s.heap.objs.size:=(I.mod.glob.keeps I.bk).lt;exact Vj (by decide) h
theorem q76 {Q:Value->Shared->Prop}(hu:A.units+1<cLine) (I:Inv X j8 σ H s) (g:DGet H a y (some v)) (ry:RelV y u) (h:∀w' s',Inv X j8 σ H s'->RelV v w'->Q w' s') :
  wpAny (model X.prog X.w) A (getItem (.ref a) u) Q E s:=by
 rcases g with ⟨kvs,k,e,ey,l⟩|⟨kvs,k,b,e,ey,eb,l⟩
 ·subst ey;obtain⟨z,hd,vs,rel,dd⟩:=qM0 I.hok e;obtain⟨w',hw,rw'⟩:=RelO.some_of (v:=v) (o:=valueAt vs k) (by rw[l];exact rel.val k);exact wpAny_getItem_of (qR5 ry) dd.mapOf hw (h w' _ (I.tok _) rw')
 ·subst ey;cases (show u=Value.ref b from ry);obtain⟨z,hd,xs,rel,dd⟩:=qR6 I.hok e;obtain⟨w',hw,rw'⟩:=RelO.some_of (v:=v) (o:=(atKey xs k).map (·.2)) (by rw[l];exact rel.val k);obtain⟨p,hp,k9⟩:=Zj.mp hw;refine wpAny_getItem_heap (Xj hu) (qy9 I.hok eb) dd hp ?_;rw[k9];exact h w' _ (I.tok _) rw'
theorem d_in {Q:Value->Shared->Prop}(hu:A.units+1<cLine) (I:Inv X j8 σ H s) (g:DGet H a y o) (ry:RelV y u) (h:∀s',Inv X j8 σ H s'->Q (.bool o.isSome) s') :
  wpAny (model X.prog X.w) A (compareOp .In u (.ref a)) Q E s:=by
 rcases g with ⟨kvs,k,e,ey,l⟩|⟨kvs,k,b,e,ey,eb,l⟩
 ·subst ey;obtain⟨z,hd,vs,rel,dd⟩:=qM0 I.hok e;refine wpAny_in_of (qR5 ry) hd dd.mapOf ?_;rw[<- (rel.val k).isSome_eq,<- l];exact h _ (I.tok _)
 ·subst ey;cases (show u=Value.ref b from ry);obtain⟨z,hd,xs,rel,dd⟩:=qR6 I.hok e;refine wpAny_in_heap (Xj hu) (qy9 I.hok eb) hd dd ?_;have q:=(rel.val k).isSome_eq;rw[VA] at q;rw[<- q,<- l];exact h _ (I.tok _)
theorem xt5 {Q:Value->Shared->Prop}(hu:A.units+1<cLine) (I:Inv X j8 σ H s) (g:DGet H a y o) (ry:RelV y u) (h:∀s',Inv X j8 σ H s'->Q (.bool (!o.isSome)) s') :
  wpAny (model X.prog X.w) A (compareOp .NotIn u (.ref a)) Q E s:=by
 rcases g with ⟨kvs,k,e,ey,l⟩|⟨kvs,k,b,e,ey,eb,l⟩
 ·subst ey;obtain⟨z,hd,vs,rel,dd⟩:=qM0 I.hok e;refine wpAny_notIn_of (qR5 ry) hd dd.mapOf ?_;rw[<- (rel.val k).isSome_eq,<- l];exact h _ (I.tok _)
 ·subst ey;cases (show u=Value.ref b from ry);obtain⟨z,hd,xs,rel,dd⟩:=qR6 I.hok e;refine wpAny_notIn_heap (Xj hu) (qy9 I.hok eb) hd dd ?_;have q:=(rel.val k).isSome_eq;rw[VA] at q;rw[<- q,<- l];exact h _ (I.tok _)
theorem qG3 {h':Heap}{t':Nat}{ob:HO}(I:Inv X j8 σ H s) (mu:Mut (H a)) (hs:Heap.SameBut a s.heap h') (he:∃q,h'.get? a=some q) (new:ObjOk X.prog X.w (upd H a ob) h' a ob) :
  Inv X j8 σ (upd H a ob) { s with heap:=h',toks:=t' }:=
 I.write (x:=a) (e:=a) mu (.inl rfl) (λb q hb z=>(hs.2 b hb).trans z) he new
theorem xp5 {P:Program}{w:World}{H':Hp}{h':Heap}{kvs:List (Key×V)}{vs:List (Key×Value)}(z:kvs.length<=sizeLine) (hd:(a==sysModules)=false) (rel:KV kvs vs) (dd:h'.DictOf (qc6 P w) a vs) :
  ObjOk P w H' h' a (.dK kvs):=⟨z,hd,vs,rel,dd⟩
theorem q77 {H':Hp}{Q:Unit->Shared->Prop}(hu:A.units+1<cLine) (I:Inv X j8 σ H s) (g:DPut H a y v H') (ry:RelV y u) (rv:RelV v r) (h:∀s',Inv X j8 σ H' s'->Q () s') :
  wpAny (model X.prog X.w) A (setItem (.ref a) u r) Q E s:=by
 rcases g with ⟨kvs,k,e,ey,l,eH⟩|⟨kvs,k,b,e,ey,eb,l,eH⟩
 ·subst ey eH;obtain⟨z,hd,vs,rel,dd⟩:=xt4 I.hok e;have hz:vs.length<=sizeLine:=by rw[<- rel.length];exact z
  have hl:(putK kvs k v).length<=sizeLine:=by have:=qk9 kvs k v;lia
  refine wpAny_setItem_pairs (hsz:=hz) (qR5 ry) dd λh' dd' hs=>h _ ?_;have he:∃q,h'.get? a=some q:=let ⟨q,_,_,hq,_⟩:=dd';⟨q,hq⟩;exact qG3 I (by rw[e];exact True.intro) hs he (xp5 hl hd (rel.put k rv) dd')
 ·subst ey eH;cases (show u=Value.ref b from ry);obtain⟨z,hd,xs,rel,dd⟩:=xB3 I.hok e;have hz:xs.length<=sizeLine:=by rw[<- Wm rel];exact z
  have hl:(putK kvs k v).length<=sizeLine:=by have:=qk9 kvs k v;lia
  refine wpAny_setItem_heap (hsz:=hz) (Xj hu) (qy9 I.hok eb) dd λh' dd' hs=>h _ ?_;obtain⟨q,es,ep,hq,h2,h3,h4,_,h5⟩:=dd';refine qG3 I (by rw[e];exact True.intro) hs ⟨q,hq⟩ ⟨hl,hd,_,(rel.put k eb rv).keeps λc ys ec=>?_,q,es,ep,hq,h2,h3,h4,h5⟩;rw[qa5 (qp3 ec e (λz=>nomatch z))];exact ec
end
section
variable {X:Cx}{j8:List (Addr×Obj)}{σ:St}{H:Hp}{s:Shared}{a:Addr}{kvs:List (Key×V)}{k:Key}{u:Value}{A:Around}{E:Value->Shared->Prop}
theorem xJ5 {Q:Value->Shared->Prop}(I:Inv X j8 σ H s) (e:Rd H a (.dK kvs)) (h:∀t s',Inv X j8 σ H s'->Q (.int kvs.length t) s'):wpAny (model X.prog X.w) A (call (.builtin "len") [.ref a]) Q E s:=by
 obtain⟨z,hd,vs,rel,dd⟩:=qM0 I.hok e;refine call_len_dict hd dd (by rw[<- rel.length];rw[Y9] at z;lia) ?_;rw[<- rel.length];exact h _ _ (I.tok _)
end
def NoSl (i:Expr):Prop:=∀ov iv,subscripted i false ov iv=operate [ov,iv] (getItem ov iv)
theorem xt6 {prog:Program}{w:World}{A:Around}{E:Value->Shared->Prop}{s:Shared}{env:Env}{value slice:Expr}{pos:Pos}{T id:String}{Q:Value->Shared->Prop}
  (hl:typeLookup (.type T) "__getitem__" = pure (some (.builtin id))) (hs:NoSl slice)
  (h:wpAny (model prog w) A (eval value env) (λo s₁=>wpAny (model prog w) A (eval slice env) (λi s₂=>s₂.TypeIs o T/\wpAny (model prog w) A (getItem o i) Q E s₂) E s₁) E s) :
  wpAny (model prog w) A (eval (.Subscript value slice pos) env) Q E s:=by
 refine Subscript_ (Y0 h (λo s₁ h₁=>Y0 h₁ (λi s₂ h₂=>?_) λ_ _ x=>x) λ_ _ x=>x);obtain⟨hT,h₂⟩:=h₂;unfold subscriptTail;refine Za ?_;rw[getitemInPython_of_ne hT.not_modules];refine Za (wpAny_specialOf hT hl ?_);have fin:wpAny (model prog w) A (subscripted slice false o i) (λr s₃=>wpAny (model prog w) A (letTemporaryGo value o r >>= λ_=>pure r) Q E s₃) E s₂:=by
  rw[hs o i];exact wpAny_operating (Y0 h₂ (λr s₃ h₃=>Za (wpAny_letTemporaryGo (Zg h₃))) λ_ _ x=>x)
 first
  |exact Zg (Za fin)
  |exact Za (Zg (Za fin))
  |exact Za fin
theorem qR7 {X:Cx}{j8:List (Addr×Obj)}{σ:St}{H:Hp}{s:Shared}{a:Addr}{y:V}{o:Option V}(I:Inv X j8 σ H s) (g:DGet H a y o):s.TypeIs (.ref a) "dict":=by
 rcases g with ⟨kvs,k,e,_,_⟩|⟨kvs,k,b,e,_,_,_⟩
 ·obtain⟨_,_,vs,_,dd⟩:=qM0 I.hok e;exact dd.typeIs
 ·obtain⟨_,_,xs,_,dd⟩:=qR6 I.hok e;exact dd.typeIs
def xJ6 (td ty:TE):TE:=λσ H Q=>td σ H λx H1=>ty σ H1 λy H2=>∃a v,x=.ref a/\DGet H2 a y (some v)/\Q v H2
def tDIn (ty td:TE):TE:=λσ H Q=>ty σ H λy H1=>td σ H1 λx H2=>∃a o,x=.ref a/\DGet H2 a y o/\Q (.bl o.isSome) H2
def xt7 (ty td:TE):TE:=λσ H Q=>ty σ H λy H1=>td σ H1 λx H2=>∃a o,x=.ref a/\DGet H2 a y o/\Q (.bl (!o.isSome)) H2
def xJ7 (td ty tv:TE):TS:=λD σ H=>tv σ H λv H1=>td σ H1 λx H2=>ty σ H2 λy H3=>∃a H4,x=.ref a/\DPut H3 a y v H4/\D.nx σ H4
section
variable {X:Cx}{o i e value:Expr}{pos pos' tpos:Pos}{td ty tv:TE}
theorem qG4 (hu:X.A.units+1<cLine) (ho:PE X o td) (hi:PE X i ty) (hs:NoSl i):PE X (.Subscript o i pos) (xJ6 td ty):=by
 intro j8 s σ H Q I h;refine xt6 PySem.F.slot_dict_getitem.lookup hs (thn (ho j8 s σ H _ I h) λu s1 ⟨x,H1,I1,rx,q1⟩=>thn (hi j8 s1 σ H1 _ I1 q1) λiv s2 ⟨y,H2,I2,ry,a,v,ex,g,q2⟩=>?_);subst ex;obtain rfl:u=Value.ref a:=rx;exact⟨qR7 I2 g,q76 hu I2 g ry λw' s3 I3 rw'=>⟨v,H2,I3,rw',q2⟩⟩
theorem xp6 (hu:X.A.units+1<cLine) (hi:PE X i ty) (ho:PE X o td):PC X .In i o (tDIn ty td):=by
 intro j8 s σ H Q I h;refine thn (hi j8 s σ H _ I h) λiv s1 ⟨y,H1,I1,ry,q1⟩=>thn (ho j8 s1 σ H1 _ I1 q1) λu s2 ⟨x,H2,I2,rx,a,ov,ex,g,q2⟩=>?_;subst ex;obtain rfl:u=Value.ref a:=rx;exact d_in hu I2 g ry λs3 I3=>⟨.bl ov.isSome,H2,I3,rfl,q2⟩
theorem qm3 (hu:X.A.units+1<cLine) (hi:PE X i ty) (ho:PE X o td):PC X .NotIn i o (xt7 ty td):=by
 intro j8 s σ H Q I h;refine thn (hi j8 s σ H _ I h) λiv s1 ⟨y,H1,I1,ry,q1⟩=>thn (ho j8 s1 σ H1 _ I1 q1) λu s2 ⟨x,H2,I2,rx,a,ov,ex,g,q2⟩=>?_;subst ex;obtain rfl:u=Value.ref a:=rx;exact xt5 hu I2 g ry λs3 I3=>⟨.bl (!ov.isSome),H2,I3,rfl,q2⟩
theorem qu2 (hu:X.A.units+1<cLine) (ho:PE X o td) (hi:PE X i ty) (hv:PE X value tv) (hs:swapsWith value (some (.Subscript o i pos')) pos.line X.env=pure false) :
  PS X (.Assign [.Subscript o i pos'] value pos) (xJ7 td ty tv):=by
 intro j8 s σ H D I h;refine wpAny_Assign_Subscript (thn (hv j8 s σ H _ I h) λr s1 ⟨v,H1,I1,rv,q1⟩=>thn (ho j8 s1 σ H1 _ I1 q1) λu s2 ⟨x,H2,I2,rx,q2⟩=>thn (hi j8 s2 σ H2 _ I2 q2) λiv s3 ⟨y,H3,I3,ry,a,H4,ex,g,q3⟩=>?_) hs;subst ex;obtain rfl:u=Value.ref a:=rx;exact q77 hu I3 g ry rv λs4 I4=>⟨σ,H4,I4,q3⟩
end
theorem xi8 {P:Program}{w:World}{H:Hp}(h:Heap) (hb:sysModules<h.objs.size):ObjOk P w H (h.push { cls:=.type "dict",data:=.dict #[] }) h.objs.size (.dK []):=
 ⟨ZE _,YB.mpr (Yx (ZA hb)),[],.nil,Heap.DictOf.new h⟩
theorem xi9 {P:Program}{w:World}{H:Hp}(h:Heap) (hb:sysModules<h.objs.size):ObjOk P w H (h.push { cls:=.type "dict",data:=.dict #[] }) h.objs.size (.dT []):=
 ⟨ZE _,YB.mpr (Yx (ZA hb)),[],.nil,_,#[],0,Zo _ rfl,⟨rfl,rfl,rfl⟩,rfl,rfl,Vq⟩
def xB4:TE:=λ_ H Q=>∀p,H p=none->Q (.ref p) (upd H p (.dT []))
section
variable {X:Cx}{pos:Pos}
theorem qG5:PE X (.Dict [] [] pos) xB4:=λj8 s σ H Q I h=>
 wpAny_Dict_empty ⟨.ref s.heap.objs.size,_,I.laid (a:=s.heap.objs.size) (o:=.dT []) (t':=s.toks) (λ_ _ q=>Zf _ q) (Zd _) (xi9 s.heap I.big),rfl,h _ (I.hok.fresh (Zd _))⟩
end
def q78:List (TE×TE)->St->Hp->(List (V×V)->Hp->Prop)->Prop
 |[],_,H,Q=>Q [] H
 |(tk,tv)::r,σ,H,Q=>tk σ H λx H1=>tv σ H1 λy H2=>q78 r σ H2 λps H3=>Q ((x,y)::ps) H3
abbrev VV:List (V×V)->List (Value×Value)->Prop:=Paired λp q=>RelV p.1 q.1/\RelV p.2 q.2
def PPs (X:Cx) (pos:Pos) (keys:List (Option Expr)) (values:List Expr) (trs:List (TE×TE)):Prop:=
 ∀(j8:List (Addr×Obj)) (s:Shared) (σ:St) (H:Hp) (Q:List (V×V)->Hp->Prop),Inv X j8 σ H s->q78 trs σ H Q ->
  wpAny (model X.prog X.w) X.A (evalPairs (pairTrees keys values X.env pos)) (λvs s'=>∃ps H',Inv X j8 σ H' s'/\VV ps vs/\Q ps H') X.xe s
theorem xt8 {X:Cx}{pos:Pos}:PPs X pos [] [] []:=λj8 s σ H Q I h=>pairTrees_nil_walk ⟨[],H,I,.nil,h⟩
theorem xj0 {X:Cx}{pos:Pos}{k v:Expr}{ks:List (Option Expr)}{vs:List Expr}{tk tv:TE}{trs:List (TE×TE)}(hk:PE X k tk) (hv:PE X v tv) (hr:PPs X pos ks vs trs) :
  PPs X pos (some k::ks) (v::vs) ((tk,tv)::trs):=λj8 s σ H Q I h=>
 pairTrees_cons_walk (thn (hk j8 s σ H _ I h) λu s1 ⟨x,H1,I1,rx,q1⟩=>thn (hv j8 s1 σ H1 _ I1 q1) λw2 s2 ⟨y,H2,I2,ry,q2⟩=>
  thn (hr j8 s2 σ H2 _ I2 q2) λws s3 ⟨ps,H3,I3,rel,q3⟩=>⟨(x,y)::ps,H3,I3,.cons ⟨rx,ry⟩ rel,q3⟩)
def qz0 (kvs more:List (Key×V)):List (Key×V):=more.foldl (λacc kv=>putK acc kv.1 kv.2) kvs
theorem KV.merge:∀{more:List (Key×V)}{rs:List (Key×Value)}{kvs:List (Key×V)}{vs:List (Key×Value)},KV more rs->KV kvs vs->KV (qz0 kvs more) (merged vs rs):=by
 intro more rs kvs vs r;unfold KV at r
 induction r generalizing kvs vs with
 |nil=>intro q;exact q
 |@cons p q ps qs h t ih=>
  intro r0;have e:KV (putK kvs p.1 p.2) (stored vs q.1 q.2):=by
   have:=r0.put p.1 h.2;rw[<- h.1];exact this
  exact ih e
theorem qr0:∀(more kvs:List (Key×V)),(qz0 kvs more).length<=kvs.length+more.length
 |[],kvs=>by show kvs.length<=kvs.length+0;lia
 |p::r,kvs=>by
  have h1:=qr0 r (putK kvs p.1 p.2);have h2:=qk9 kvs p.1 p.2;show (qz0 (putK kvs p.1 p.2) r).length<=_;rw[ZJ];lia
theorem qD5 {P:Program}{w:World}:∀{kvs:List (Key×V)}{ws:List (Value×Value)},VV (kvs.map λkv=>(kV kv.1,kv.2)) ws->∃rs,Carries (qc6 P w) ws rs/\KV kvs rs
 |[],_,r=>by rw[WJ] at r;cases r;exact⟨[],True.intro,.nil⟩
 |p::kvs,_,r=>by
  rw[ZC] at r;cases r with
  |@cons a b as bs h t=>
   obtain⟨rs,c,q⟩:=qD5 (P:=P) (w:=w) t;obtain⟨b1,b2⟩:=b;exact⟨(p.1,b2)::rs,⟨qR5 h.1,rfl,c⟩,.cons ⟨rfl,h.2⟩ q⟩
def xB5 (trs:List (TE×TE)):TE:=λσ H Q=>∀p,H p=none->q78 trs σ (upd H p (.dK [])) λps H2=>H2 p=some (.dK [])/\∃kvs:List (Key×V),ps=kvs.map (λkv=>(kV kv.1,kv.2))/\kvs.length<=15/\Q (.ref p) (upd H2 p (.dK (qz0 [] kvs)))
theorem xt9 {X:Cx}{pos:Pos}{keys:List (Option Expr)}{values:List Expr}{trs:List (TE×TE)}(h:PPs X pos keys values trs) (jG:keys.all (·.isSome)=true) (hl:keys.length=values.length) (h0:keys≠[])
  (h15:keys.length<=15):PE X (.Dict keys values pos) (xB5 trs):=by
 intro j8 s σ H Q I q;have hn:=I.hok.fresh (Zd s.heap.objs.size);have I1:=I.laid (a:=s.heap.objs.size) (o:=.dK []) (h':=s.heap.push { cls:=.type "dict",data:=.dict #[] }) (t':=s.toks) (λ_ _ q=>Zf _ q) (Zd _) (xi8 s.heap I.big);refine wpAny_Dict_walk (knd:=qc6 X.prog X.w) jG hl h0 h15 (thn (h j8 _ σ _ _ I1 (q _ hn)) λws s2 ⟨ps,H2,I2,rel,e,kvs,ep,lk,q2⟩=>?_);subst ep;obtain⟨rs,c,rk⟩:=qD5 (P:=X.prog) (w:=X.w) rel;obtain⟨z,hd,vs0,r0,dd⟩:=xt4 I2.hok e;cases r0;refine⟨rs,c,dd,λh' dd' hs=>⟨.ref s.heap.objs.size,_,?_,rfl,q2⟩⟩;have hz:(qz0 [] kvs).length<=sizeLine:=by
  have h1:=qr0 kvs [];rw[VP] at h1;rw[Y9];lia
 have he:∃q,h'.get? s.heap.objs.size=some q:=let ⟨q,_,_,hq,_⟩:=dd';⟨q,hq⟩;exact qG3 I2 (by rw[e];exact True.intro) hs he (xp5 hz hd (rk.merge .nil) dd')
structure M2 (X:Cx) (o:Expr) (m:Str) (apos:Pos) (e f:Expr) (cpos:Pos):Prop where
 base:attributeBase o m X.env (eval o X.env)=eval o X.env
 few:((backTo cpos (starEach [e,f] X.env)).all (λx=>!x.1)&&(backToKw cpos (keywordEach [] X.env)).all (λx=>x.1.isSome)
  && decide (([e,f]:List Expr).length+([]:List Keyword).length+(if ([]:List Keyword).isEmpty then 0 else 1)<30))=true
 line:(apos.endLine==cpos.line)=true
 trees:backTo cpos (starEach [e,f] X.env)=[(false,eval e X.env),(false,eval f X.env)]
def IsD (H:Hp) (a:Addr):Prop:=(∃kvs,Rd H a (.dK kvs))\/∃kvs,Rd H a (.dT kvs)
theorem xB6 {X:Cx}{j8:List (Addr×Obj)}{σ:St}{H:Hp}{s:Shared}{a:Addr}(I:Inv X j8 σ H s) (d:IsD H a) :
  s.TypeIs (.ref a) "dict" /\ (∀b,Value.ref a=.ref b->∃ob,s.heap.get? b=some ob/\ob.dict=none)/\(a==sysModules)=false:=by
 rcases d with ⟨kvs,e⟩|⟨kvs,e⟩
 ·obtain⟨_,hd,vs,_,dd⟩:=qM0 I.hok e;refine⟨dd.typeIs,λb q=>?_,hd⟩;cases q;obtain⟨ob,_,_,h1,h2,_⟩:=dd;exact⟨ob,h1,h2.2.1⟩
 ·obtain⟨_,hd,xs,_,dd⟩:=qR6 I.hok e;refine⟨dd.typeIs,λb q=>?_,hd⟩;cases q;obtain⟨ob,_,_,h1,h2,_⟩:=dd;exact⟨ob,h1,h2.2.1⟩
section
variable {X:Cx}{j8:List (Addr×Obj)}{σ:St}{H:Hp}{s:Shared}{a:Addr}{y d:V}{u r:Value}{o:Option V}{A:Around}{E:Value->Shared->Prop}
theorem xB7 {Q:Value->Shared->Prop}(hu:A.units+1<cLine) (I:Inv X j8 σ H s) (g:DGet H a y o) (ry:RelV y u) (rd:RelV d r) (h:∀w' s',Inv X j8 σ H s'->RelV (o.getD d) w'->Q w' s') :
  wpAny (model X.prog X.w) A (call (.builtin "dict.get") [.ref a,u,r]) Q E s:=by
 rcases g with ⟨kvs,k,e,ey,l⟩|⟨kvs,k,b,e,ey,eb,l⟩
 ·subst ey;obtain⟨z,hd,vs,rel,dd⟩:=qM0 I.hok e;refine VM WQ dd.typeIs PySem.F.entry_dict_get (PySem.F.args_dict_get_3 _ _ _) (meets_dict_get_default (qc6 X.prog X.w) a (qR5 ry) hd r) ⟨_,dd.mapOf,h _ _ (I.tok _) ?_⟩;rw[l];exact (rel.val k).getD rd
 ·subst ey;cases (show u=Value.ref b from ry);obtain⟨z,hd,xs,rel,dd⟩:=qR6 I.hok e;refine VM WQ dd.typeIs PySem.F.entry_dict_get (PySem.F.args_dict_get_3 _ _ _) (meetsH_dict_get_default (tupleKind (qc6 X.prog X.w)) a b hd r) ⟨Xj hu,k,xs,qy9 I.hok eb,dd,h _ _ (I.tok _) ?_⟩;rw[l];exact (rel.val k).getD rd
end
def xB8 (td ty tx:TE):TE:=λσ H Q=>td σ H λx H1=>∃a,x=.ref a/\IsD H1 a/\ty σ H1 λy H2=>tx σ H2 λz H3=>∃o,DGet H3 a y o/\Q (o.getD z) H3
section
variable {X:Cx}{o e f:Expr}{apos cpos:Pos}{td ty tx:TE}
theorem qU9 (hu:X.A.units+1<cLine) (ho:PE X o td) (he:PE X e ty) (hf:PE X f tx) (m:M2 X o "get" apos e f cpos):PE X (.Call (.Attribute o "get" apos) [e,f] [] cpos) (xB8 td ty tx):=by
 intro j8 s σ H Q I h;refine wpAny_Call_method m.base m.few m.line PySem.F.plainAttrs_dict WQ PySem.F.type_dict_get (thn (ho j8 s σ H _ I h) λu s1 ⟨x,H1,I1,rx,a,ex,d,q1⟩=>?_);subst ex;obtain rfl:u=Value.ref a:=rx;obtain⟨t1,t2,_⟩:=xB6 I1 d;refine⟨t1,t2,?_⟩;rw[m.trees];refine Calls.callWith_builtin rfl (Calls.evalArgs_plain (Vp (thn (he j8 s1 σ H1 _ I1 q1) λiv s2 ⟨y,H2,I2,ry,q2⟩=>
  Vp (thn (hf j8 s2 σ H2 _ I2 q2) λfv s3 ⟨z,H3,I3,rz,ov,g,q3⟩=>Calls.spliced_nil ?_))))
 exact xB7 hu I3 g ry rz λw' s4 I4 rw'=>⟨_,H3,I4,rw',q3⟩
end
section
variable {X:Cx}{j8:List (Addr×Obj)}{σ:St}{H:Hp}{s:Shared}{a:Addr}{kvs:List (Key×V)}{A:Around}{E:Value->Shared->Prop}
end
section
variable {X:Cx}{j8:List (Addr×Obj)}{σ:St}{H:Hp}{s:Shared}{a:Addr}{y:V}{u:Value}{A:Around}{E:Value->Shared->Prop}
end
section
variable {X:Cx}
theorem q79:qh1 X (.builtin "len") (λxs H Q=>∃a kvs,xs=[V.ref a]/\H a=some (.dK kvs)/\Q (.int kvs.length) H):=by
 intro j8 s σ H xs us Q I r h;obtain⟨a,kvs,rfl,ha,q⟩:=h;obtain⟨u,rfl,ru⟩:=qj8 r;cases ru;exact xJ5 I (.inl ha) λt s' I'=>⟨.int kvs.length,H,I',⟨t,rfl⟩,q⟩
end
section
variable {κ:Type}[DecidableEq κ]
end
end L2
namespace SetT
open PySem
def g:Nat->Nat
 |0=>0
 |n+1=>5*g n+1
def F:Nat->Nat->Nat
 |0,x=>x
 |n+1,x=>5*F n x+1
theorem F_eq (n x:Nat):F n x=x+g n*(4*x+1):=by
 induction n with
 |zero=>simp[F,g]
 |succ n ih=>
  show 5*F n x+1=x+(5*g n+1)*(4*x+1);rw[ih,W0,W1,XD];lia
theorem xu0 (m n x:Nat):F (m+n) x=F m (F n x):=by
 induction m with
 |zero=>simp[F]
 |succ m ih=>
  rw[Nat.succ_add];show 5*F (m+n) x+1=5*F m (F n x)+1;rw[ih]
theorem g_F (n:Nat):g n=F n 0:=by
 rw[F_eq];simp
theorem xJ8 (m n:Nat):g (m+n)=g n+g m*(4*g n+1):=by
 rw[g_F,xu0,F_eq m,<- g_F n]
theorem xB9:∀k:Nat,∃c,g (2^k)=2^k*(2*c+1)
 |0=>⟨0,rfl⟩
 |k+1=>by
  obtain⟨c,hc⟩:=xB9 k;have e:g (2^(k+1))=g (2^k)*(4*g (2^k)+2):=by
   rw[YK,Nat.mul_two,xJ8];generalize g (2^k)=y;rw[VB,VB];lia
  rw[e,hc];refine⟨2^k*(2*c+1)*(2*c+1)+c,?_⟩;rw[YK];generalize 2^k=p;have h1:p*(2*c+1)*(4*(p*(2*c+1))+2)=p*2*((2*c+1)*(2*(p*(2*c+1))+1)):=by
   have:4*(p*(2*c+1))+2=2*(2*(p*(2*c+1))+1):=by lia
   rw[this,XD,XD,Nat.mul_left_comm (2*c+1) 2]
  rw[h1];congr 1;rw[VB,WA,Nat.mul_left_comm,Wg (2*c+1) (p*(2*c+1))];lia
theorem qG6 (k a q:Nat):(2^k*a+q)%2^(k+1)=(2^k*(a%2)+q)%2^(k+1):=by
 have ha:a=2*(a/2)+a%2:=by lia
 have:2^k*a+q=(2^k*(a%2)+q)+2^(k+1)*(a/2):=by
  have h:2^k*a+q=2^k*(2*(a/2)+a%2)+q:=by rw[<- ha]
  rw[h,YK,VB,XD];lia
 rw[this,Nat.add_mul_mod_self_left]
theorem xC0:∀(k x y:Nat),∃r,r<2^k/\F r x%2^k=y%2^k
 |0,x,y=>⟨0,by decide,by simp[Nat.mod_one]⟩
 |k+1,x,y=>by
  obtain⟨r,hr,e⟩:=xC0 k x y;have hp:0<2^k:=Xf k;have h2:(2:Nat)^(k+1)=2^k+2^k:=by rw[YK,Nat.mul_two]
  obtain⟨c,hc⟩:=xB9 k;have e2:F (2^k+r) x=F r x+2^k*(2*c+1)*(4*F r x+1):=by
   rw[xu0,F_eq (2^k),hc]
  have y1:2^k*(y/2^k)+y%2^k=y:=VQ y _;have z1:2^k*(F r x/2^k)+F r x%2^k=F r x:=VQ _ _;by_cases h:F r x/2^k%2=y/2^k%2
  ·refine⟨r,by lia,?_⟩;rw[<- z1,<- y1,qG6,h,<- qG6,e]
  ·refine⟨2^k+r,by lia,?_⟩;rw[e2];generalize F r x=z at *;have o:(2*c+1)*(4*z+1)=2*(c*(4*z+1)+2*z)+1:=by
    rw[W0,W1,XD];lia
   have e3:z+2^k*(2*c+1)*(4*z+1)=2^k*(z/2^k+(2*(c*(4*z+1)+2*z)+1))+z%2^k:=by
    rw[XD,o,VB (2^k) (z/2^k)];lia
   rw[e3,<- y1,qG6,e];have e4:(z/2^k+(2*(c*(4*z+1)+2*z)+1))%2=y/2^k%2:=by lia
   rw[e4,<- qG6]
def qh0 (mask:Nat):Nat->Nat->Nat->Nat
 |0,i,_=>i
 |r+1,i,p=>qh0 mask r (SetTable.leap mask i p).1 (SetTable.leap mask i p).2
theorem qz1 (k:Nat):∀(r i:Nat),qh0 (2^k-1) r (i%2^k) 0=F r i%2^k
 |0,i=>rfl
 |r+1,i=>by
  have hp:0<2^k:=Xf k;show qh0 (2^k-1) r ((i%2^k*5+1+0/32)%(2^k-1+1)) (0/32)=_;have e1:2^k-1+1=2^k:=by lia
  have e2:(i%2^k*5+1+0/32)%2^k=(5*i+1)%2^k:=by
   simp only[Nat.zero_div,Vk];rw[Nat.add_mod,Nat.mul_mod,Nat.mod_mod,<- Nat.mul_mod,<- Nat.add_mod,Wg]
  rw[e1,e2,Nat.zero_div,qz1 k r (5*i+1)];have:F r (5*i+1)=F (r+1) i:=by rw[xu0 r 1 i];rfl
  rw[this]
theorem qD6 (mask:Nat):∀(a b i p:Nat),qh0 mask (a+b) i p=qh0 mask b (qh0 mask a i p) (p/32^a)
 |0,b,i,p=>by simp[qh0]
 |a+1,b,i,p=>by
  rw[Nat.succ_add];show qh0 mask (a+b) _ _=qh0 mask b (qh0 mask a _ _) _;rw[qD6 mask a b];show qh0 mask b _ (p/32/32^a)=_;rw[WK,YK,Wg (32^a) 32]
theorem qM1 (mask:Nat):∀(a i p:Nat),i<mask+1->qh0 mask a i p<mask+1
 |0,i,p,h=>h
 |a+1,i,p,_=>qM1 mask a _ _ (Wv _ (Vl _))
theorem qz2 (k i p j:Nat) (hi:i<2^k) (hp:p<2^64) (hj:j<2^k):∃r,r<13+2^k/\qh0 (2^k-1) r i p=j:=by
 have hk:0<2^k:=Xf k;have hl:=qM1 (2^k-1) 13 i p (by lia);obtain⟨r,hr,e⟩:=xC0 k (qh0 (2^k-1) 13 i p) j;refine⟨13+r,by lia,?_⟩;rw[qD6];have hz:p/32^13=0:=Nat.div_eq_of_lt (Vj hp (by decide));have hm:qh0 (2^k-1) 13 i p=qh0 (2^k-1) 13 i p%2^k:=(VH (by lia)).symm;rw[hz,hm,qz1,e,VH hj]
theorem qM2 (mask i:Nat):SetTable.runEnd mask i-i<=9:=by unfold SetTable.runEnd;split<;>lia
def adv (t:SetTable):Nat->SetTable.Probe->SetTable.Probe
 |0,p=>p
 |n+1,p=>adv t n (t.advance p)
theorem qG7 (t:SetTable):∀(m:Nat) (p:SetTable.Probe),m<=p.more->adv t m p={ p with j:=p.j+m,more:=p.more-m }
 |0,p,_=>by simp[adv]
 |m+1,p,h=>by
  have e:t.advance p={ p with j:=p.j+1,more:=p.more-1 }:=by
   unfold SetTable.advance;rw[Zp (by lia)]
  show adv t m (t.advance p)=_;rw[e,qG7 t m _ (by show m<=p.more-1;lia)];show SetTable.Probe.mk _ _ _ _ _=SetTable.Probe.mk _ _ _ _ _;congr 1
  ·show p.j+1+m=p.j+(m+1);lia
  ·show p.more-1-m=p.more-(m+1);lia
theorem qm4 (t:SetTable):∀(a b:Nat) (p:SetTable.Probe),adv t (a+b) p=adv t b (adv t a p)
 |0,b,p=>by simp[adv]
 |a+1,b,p=>by rw[Nat.succ_add];exact qm4 t a b _
structure Head (t:SetTable) (i perturb:Nat) (d:Option Nat) (p:SetTable.Probe):Prop where
 e:p={ j:=i,more:=SetTable.runEnd t.mask i-i,i:=i,perturb:=perturb,dummy:=d }
theorem q80 {t:SetTable}{i q:Nat}{d:Option Nat}{p:SetTable.Probe}(h:Head t i q d p):∃n,n<=10/\Head t (SetTable.leap t.mask i q).1 (SetTable.leap t.mask i q).2 d (adv t n p):=by
 have hr:=qM2 t.mask i;refine⟨(SetTable.runEnd t.mask i-i)+1,by lia,⟨?_⟩⟩;rw[qm4,qG7 t _ p (by rw[h.e];exact Zd _)];show t.advance _=_;rw[h.e];unfold SetTable.advance;rw[Zk (by show ¬(SetTable.runEnd t.mask i-i)-(SetTable.runEnd t.mask i-i)>0;lia)]
theorem q81 {t:SetTable}{d:Option Nat}:∀(r:Nat){i q:Nat}{p:SetTable.Probe},Head t i q d p->∃n,n<=10*r/\(adv t n p).j=qh0 t.mask r i q/\(adv t n p).dummy=d
 |0,i,q,p,h=>⟨0,Zd _,by show p.j=i;rw[h.e],by show p.dummy=d;rw[h.e]⟩
 |r+1,i,q,p,h=>by
  obtain⟨n,hn,h1⟩:=q80 h;obtain⟨m,hm,e1,e2⟩:=q81 r h1;exact⟨n+m,by lia,by rw[qm4];exact e1,by rw[qm4];exact e2⟩
theorem qM3 (t:SetTable):∀(n:Nat) (p:SetTable.Probe),(adv t n p).dummy=p.dummy
 |0,p=>rfl
 |n+1,p=>by
  show (adv t n (t.advance p)).dummy=_;rw[qM3 t n];unfold SetTable.advance;split<;>rfl
theorem q82 (h:Int):SetTable.bits h<2^64:=by
 unfold SetTable.bits;have:=XR h (show (0:Int)<2^64 by decide);have h0:=Ws h (show (2^64:Int)≠0 by decide);lia
theorem meet {t:SetTable}{k:Nat}(hm:t.mask=2^k-1) (h:Int){j:Nat}(hj:j<2^k):∃n,n<10*SetTable.turns t.mask/\(adv t n (t.probeStart h)).j=j:=by
 have hk:0<2^k:=Xf k;have hd:Head t (SetTable.bits h%(t.mask+1)) (SetTable.bits h) none (t.probeStart h):=⟨rfl⟩;obtain⟨r,hr,e⟩:=qz2 k (SetTable.bits h%(t.mask+1)) (SetTable.bits h) j (by rw[hm];have:=Wv (SetTable.bits h) hk;rw[show 2^k-1+1=2^k by lia];exact this) (q82 h) hj;obtain⟨n,hn,e1,_⟩:=q81 r hd;refine⟨n,?_,by rw[e1];rw[<- hm] at e;exact e⟩;unfold SetTable.turns;lia
theorem qG8 (j:Nat):SetTable.has #[] j=false:=by
 unfold SetTable.has;simp
theorem q83 {t:SetTable}(hd:t.dummies=#[]) (j:Nat):(t.slot j=.empty)\/∃i,t.slot j=.live i/\t.place[i]?=some j:=by
 unfold SetTable.slot;simp only;split
 ·rename_i h;exact .inr ⟨_,rfl,by simpa using h⟩
 ·rw[hd,qG8];exact .inl rfl
theorem q84 {t:SetTable}(hd:t.dummies=#[]){j:Nat}(h:j∉t.place.toList):t.slot j=.empty:=by
 rcases q83 hd j with e|⟨i,_,e⟩
 ·exact e
 ·refine absurd ?_ h;have:=Array.mem_of_getElem? e;simpa using this
theorem xp7:∀(n:Nat) (l:List Nat),l.length<n->∃j,j<n/\j∉l
 |0,l,h=>absurd h (Yk _)
 |n+1,l,h=>by
  by_cases hn:n∈l
  ·obtain⟨j,hj,hl⟩:=xp7 n (l.erase n) (by rw[List.length_erase_of_mem hn];have:=List.length_pos_of_mem hn;lia);refine⟨j,by lia,λm=>hl ?_⟩;exact (List.mem_erase_of_ne (by lia)).mpr m
  ·exact⟨n,Yy n,hn⟩
structure Grown (t:SetTable) (n:Nat):Prop where
 pl:t.place.size=n
 du:t.dummies=#[]
 ma:∃k,t.mask=2^k-1/\1<=k
 le:n<=t.mask
theorem Grown.fill {t:SetTable}{n:Nat}(h:Grown t n):t.fill=n:=by unfold SetTable.fill;rw[h.pl,h.du];rfl
theorem Grown.way {t:SetTable}{n:Nat}(h:Grown t n):t.gaveWay=false:=by
 obtain⟨k,e,hk⟩:=h.ma;unfold SetTable.gaveWay;rw[e];obtain⟨k,rfl⟩:∃m,k=m+1:=⟨k-1,by lia⟩;have:=Xf k;have e2:(2^(k+1)-1)%2=1:=by rw[YK];lia
 rw[e2]
 rfl
theorem Grown.meets {t:SetTable}{n:Nat}(g:Grown t n) (h:Int):∃m,m<10*SetTable.turns t.mask/\t.slot (adv t m (t.probeStart h)).j=.empty:=by
 obtain⟨k,e,_⟩:=g.ma;have hk:=Xf k;obtain⟨j,hj,hl⟩:=xp7 (2^k) t.place.toList (by simp only[ZT,g.pl];have:=g.le;lia);obtain⟨m,hm,ej⟩:=meet e h hj;exact⟨m,hm,by rw[ej];exact q84 g.du hl⟩
theorem ql0 {α:Type}(xs:Array α) (p:Nat) (x:α):(SetTable.insertAt xs p x).size=xs.size+1:=by
 unfold SetTable.insertAt;simp;lia
theorem Grown.put {t:SetTable}{n:Nat}(g:Grown t n) (hf:t.tooFull=false) (j:Nat):Grown (t.put j).1 (n+1):=by
 have e:(t.put j).1={ t with place:=SetTable.insertAt t.place (SetTable.below t.place j) j }:=by
  unfold SetTable.put;simp only;rw[g.du,qG8];simp[g.du]
 rw[e];refine⟨by rw[ql0,g.pl],g.du,g.ma,?_⟩;show n+1<=t.mask;unfold SetTable.tooFull at hf;rw[g.fill] at hf;have:=YO hf;lia
theorem qM4 {mask:Nat}{owner:Array (Option Nat)}:∀(f r i p:Nat),r<f->(owner.getD (qh0 mask r i p) (some 0)).isNone=true ->
  ∃j,SetTable.layClean.free mask owner f i p=some j/\(owner.getD j (some 0)).isNone=true
 |0,r,i,p,h,_=>absurd h (Yk _)
 |f+1,r,i,p,h,hn=>by
  unfold SetTable.layClean.free;cases e:(List.range (SetTable.runEnd mask i+1-i)).find? λk=>(owner.getD (i+k) (some 0)).isNone with
  |some k=>
   have:=List.find?_some e;exact⟨i+k,rfl,this⟩
  |none=>
   cases r with
   |zero=>
    have h0:∀x∈List.range (SetTable.runEnd mask i+1-i),¬(owner.getD (i+x) (some 0)).isNone=true:=by simpa using e
    have hm:0∈List.range (SetTable.runEnd mask i+1-i):=ZH.mpr (by unfold SetTable.runEnd;split<;>lia);exact absurd hn (h0 0 hm)
   |succ r=>exact qM4 f r _ _ (by lia) hn
def cnt (owner:Array (Option Nat)):Nat:=(owner.toList.filter Option.isSome).length
theorem qv8:∀(l:List (Option Nat)) (j k:Nat),l[j]?=some none->((l.set j (some k)).filter Option.isSome).length=(l.filter Option.isSome).length+1
 |[],j,k,h=>by simp at h
 |a::l,0,k,h=>by
  have:a=none:=by simpa using h
  subst this;simp
 |a::l,j+1,k,h=>by
  have ih:=qv8 l j k (by simpa using h);rw[List.set_cons_succ,Y3,Y3];split
  ·rw[ZJ,ZJ,ih]
  ·exact ih
theorem q85:∀(l:List (Option Nat)),(l.filter Option.isSome).length<l.length->∃j:Nat,l[j]?=some none
 |[],h=>by simp at h
 |none::l,_=>⟨0,rfl⟩
 |some a::l,h=>by
  obtain⟨j,hj⟩:=q85 l (by simpa using h);exact⟨j+1,by simpa using hj⟩
structure Laid (mask:Nat) (owner:Array (Option Nat)) (K:Nat):Prop where
 sz:owner.size=mask+1
 ct:cnt owner=K
 lt:∀v,some v∈owner.toList->v<K
theorem Laid.step {mask k K:Nat}{owner:Array (Option Nat)}(hm:mask=2^k-1) (g:Laid mask owner K) (hK:K<=mask) (h:Int) :
  ∃j,SetTable.layClean.free mask owner (SetTable.turns mask) (SetTable.bits h%(mask+1)) (SetTable.bits h)=some j/\Laid mask (owner.setIfInBounds j (some K)) (K+1):=by
 have hk:=Xf k;obtain⟨j0,vR⟩:=q85 owner.toList (by
  have:=g.ct;unfold cnt at this;rw[this,ZT,g.sz];lia)
 have hl:j0<mask+1:=by
  have:=(gS_ vR).1;rw[ZT,g.sz] at this;exact this
 have e1:mask+1=2^k:=by lia
 obtain⟨r,hr,er⟩:=qz2 k (SetTable.bits h%(mask+1)) (SetTable.bits h) j0 (by rw[<- e1];exact Wv _ (Vl _)) (q82 h) (by lia);rw[<- hm] at er;have hgd:∀j,(owner.getD j (some 0)).isNone=true<->owner.toList[j]?=some none:=λj=>by
  rw[Z9];by_cases hj:j<owner.size
  ·simp[Array.getD,hj]
  ·simp[Array.getD,hj]
 obtain⟨j,ej,hj⟩:=qM4 (mask:=mask) (owner:=owner) (SetTable.turns mask) r _ _ (by unfold SetTable.turns;lia) (by rw[er];exact (hgd j0).mpr vR);have hj':=(hgd j).mp hj;refine⟨j,ej,by rw[Wo];exact g.sz,?_,λv hv=>?_⟩
 ·unfold cnt;rw[X9,qv8 _ _ _ hj'];have:=g.ct;unfold cnt at this;rw[this]
 ·rw[X9] at hv;rcases List.mem_or_eq_of_mem_set hv with hv|hv
  ·have:=g.lt v hv;lia
  ·have:v=K:=by simpa using hv
   lia
theorem qV0 {mask k:Nat}(hm:mask=2^k-1):∀(hs:List Int) (owner:Array (Option Nat)) (K:Nat),Laid mask owner K->K+hs.length<=mask ->
  ∃owner',(hs.foldl (λ(acc:Option (Array (Option Nat)×Nat)) (h:Int)=>do
   let (owner,k) <- acc
   let j <- SetTable.layClean.free mask owner (SetTable.turns mask) (SetTable.bits h%(mask+1)) (SetTable.bits h)
   pure (owner.setIfInBounds j (some k),k+1)) (some (owner,K)))=some (owner',K+hs.length)/\Laid mask owner' (K+hs.length)
 |[],owner,K,g,_=>⟨owner,rfl,g⟩
 |h::hs,owner,K,g,hl=>by
  rw[ZJ] at hl;obtain⟨j,ej,g'⟩:=g.step hm (by lia) h;obtain⟨o',e',g''⟩:=qV0 hm hs _ (K+1) g' (by lia);refine⟨o',?_,by rw[ZJ,show K+(hs.length+1)=K+1+hs.length by lia];exact g''⟩;rw[Yd,ZJ,show K+(hs.length+1)=K+1+hs.length by lia,<- e'];congr 1;show (SetTable.layClean.free mask owner (SetTable.turns mask) (SetTable.bits h%(mask+1)) (SetTable.bits h)).bind _=_;rw[ej]
  rfl
theorem xu1 {mask k:Nat}(hm:mask=2^k-1) (hs:Array Int) (hl:hs.size<=mask):∃owner,SetTable.layClean mask hs=some owner/\Laid mask owner hs.size:=by
 have g0:Laid mask (Array.replicate (mask+1) none) 0:=⟨by simp,by unfold cnt;simp,λv hv=>by simp at hv⟩;obtain⟨o,e,g⟩:=qV0 hm hs.toList _ 0 g0 (by simpa using hl);refine⟨o,?_,by simpa using g⟩;unfold SetTable.layClean;rw[<- Vr,e]
 rfl
theorem qG9 {α β:Type}{f g:α->Option β}:∀(l:List α),(∀x∈l,f x=g x)->l.filterMap f=l.filterMap g
 |[],_=>rfl
 |a::l,h=>by
  rw[Yi,Yi,h a Zu,qG9 l λx hx=>h x (Zn _ hx)]
theorem qV1:∀(l:List (Option Nat)) (a:Nat),((List.range' a l.length).filterMap λj=>((l[j-a]?).getD none).map (λv=>(j,v))).length=(l.filter Option.isSome).length
 |[],a=>rfl
 |x::l,a=>by
  rw[ZJ,List.range'_succ,Yi];have ih:=qV1 l (a+1);have e:(List.range' (a+1) l.length).filterMap (λj=>(((x::l)[j-a]?).getD none).map (λv=>(j,v)))=(List.range' (a+1) l.length).filterMap λj=>((l[j-(a+1)]?).getD none).map (λv=>(j,v)):=by
   refine qG9 _ λj hj=>?_;have:=(List.mem_range'_1.mp hj).1;obtain⟨d,rfl⟩:∃d,j=a+1+d:=⟨j-(a+1),by lia⟩;rw[show a+1+d-a=d+1 by lia,show a+1+d-(a+1)=d by lia,List.getElem?_cons_succ]
  rw[e,Wh];cases x with
  |none=>simpa using ih
  |some v=>simpa using ih
theorem q86 {mask k finger moves:Nat}{led plain:Bool}(hm:mask=2^k-1) (h1:1<=k) (hs:Array Int) (hl:hs.size<=mask) :
  ∃t order,SetTable.laid mask finger moves led plain hs=some (t,order)/\Grown t hs.size/\t.mask=mask/\t.led=led/\t.moves=moves/\order.size=hs.size/\∀v∈order,v<hs.size:=by
 obtain⟨owner,e,g⟩:=xu1 hm hs hl;have el:∀a:Nat,(List.range (mask+1)).filterMap (λj=>(owner.getD j none).map (λv=>(j,v)))=(List.range' 0 owner.toList.length).filterMap λj=>((owner.toList[j-0]?).getD none).map (λv=>(j,v)):=λ_=>by
  rw[ZT,g.sz,<- List.range_eq_range'];refine qG9 _ λj hj=>?_;have hj':=ZH.mp hj;rw[Nat.sub_zero,Z9];simp[Array.getD,g.sz,hj']
 have len:((List.range (mask+1)).filterMap (λj=>(owner.getD j none).map (λv=>(j,v)))).length=hs.size:=by
  rw[el 0,qV1,<- g.ct]
  rfl
 refine⟨_,_,by unfold SetTable.laid;rw[e];rfl,⟨?_,rfl,⟨k,hm,h1⟩,hl⟩,rfl,rfl,rfl,?_,λv hv=>?_⟩
 ·show ((((List.range (mask+1)).filterMap (λj=>(owner.getD j none).map (λv=>(j,v)))).map (·.1)).toArray).size=_;rw[ZF,Ze,len]
 ·show ((((List.range (mask+1)).filterMap (λj=>(owner.getD j none).map (λv=>(j,v)))).map (·.2)).toArray).size=_;rw[ZF,Ze,len]
 ·have hv':v∈((List.range (mask+1)).filterMap (λj=>(owner.getD j none).map (λv=>(j,v)))).map (·.2):=by simpa using hv
  obtain⟨q,hq,rfl⟩:=ZR.mp hv';obtain⟨j,hj,ej⟩:=Vo.mp hq;obtain⟨v',ev,rfl⟩:=Zj.mp ej;refine g.lt v' ?_;have hj':=ZH.mp hj;have:owner[j]'(by rw[g.sz];exact hj')=some v':=by simpa [Array.getD,g.sz,hj'] using ev
  rw[<- this];simp
theorem qM5:∀(f k n:Nat),3<=k->n<2^(k+f)->∃k',SetTable.sizeAbove.go n f (2^k)=2^k'/\3<=k'/\n<2^k'/\(2^k<=2*n+8->2^k'<=2*n+8)
 |0,k,n,hk,h=>⟨k,rfl,hk,h,λz=>z⟩
 |f+1,k,n,hk,h=>by
  unfold SetTable.sizeAbove.go;by_cases hc:2^k<=n
  ·rw[Zp hc,<- YK];obtain⟨k',e,h1,h2,h3⟩:=qM5 f (k+1) n (by lia) (by rw[show k+1+f=k+(f+1) by lia];exact h);exact⟨k',e,h1,h2,λ_=>h3 (by rw[YK];lia)⟩
  ·rw[Zk hc];exact⟨k,rfl,hk,by lia,λz=>z⟩
theorem qv9 {n:Nat}(h:n<2^60):∃k,SetTable.sizeAbove n=2^k/\3<=k/\n<2^k/\2^k<=2*n+8:=by
 obtain⟨k,e,h1,h2,h3⟩:=qM5 64 3 n (by decide) (Vj h (by decide));exact⟨k,e,h1,h2,h3 (by show 8<=2*n+8;lia)⟩
theorem qR8 {t:SetTable}{hs:Array Int}{wanted:Nat}(hw:wanted<2^60) (hl:hs.size<wanted) :
  ∃t' order,t.relaid hs wanted=some (t',order)/\Grown t' hs.size/\wanted<=t'.mask/\t'.mask<=2*wanted+8/\t'.led=t.led/\order.size=hs.size/\∀v∈order,v<hs.size:=by
 obtain⟨k,e,h1,h2,h3⟩:=qv9 hw;have hk:=Xf k;obtain⟨t',order,el,g,em,eled,_,eo,ev⟩:=q86 (mask:=2^k-1) (k:=k) (finger:=t.finger) (moves:=t.movedTo (2^k-1)) (led:=t.led) (plain:=t.plain) rfl (by lia) hs (by lia);refine⟨t',order,?_,g,by rw[em];lia,by rw[em];lia,eled,eo,ev⟩;unfold SetTable.relaid;rw[e];exact el
theorem qm5 {α:Type}{es:Array α}{order:Array Nat}(h:∀v∈order,v<es.size):(order.filterMap (es[·]?)).size=order.size:=by
 rw[<- ZT,Array.toList_filterMap,<- ZT (xs:=order)];have:∀l:List Nat,(∀v∈l,v<es.size)->(l.filterMap (es[·]?)).length=l.length:=λl=>by
  induction l with
  |nil=>intro _;rfl
  |cons a l ih=>
   intro hh;rw[Yi];have ha:=hh a Zu;rw[show es[a]?=some es[a] by simp[ha]];simp[ih λv hv=>hh v (Zn _ hv)]
 exact this _ λv hv=>h v (by simpa using hv)
end SetT
namespace SetT
open PySem PySem.Spec PyProof.Rows
section
variable {prog:Program}{w:World}{K:Type}[DecidableEq K]{knd:KeyKind prog w K}{A:Around}{E:Value->Shared->Prop}{s:Shared}
theorem qz3 (n:Nat){v:Value}(h:carriedByValue v=true):ofAClassStatement n v=pure false:=by
 cases v with
 |ref a=>simp[carriedByValue] at h
 |_=>first|rfl|(unfold ofAClassStatement;rfl)|(cases n<;>rfl)
theorem seqItems?_of {M:Model}{a:Addr}{o:Obj}{items:Array Value}{n:Nat}{Q:Option (Array Value)->Shared->Prop}(ho:s.heap.get? a=some o) (hd:o.data=.seq items n) (h:Q (some items) s) :
  wpAny M A (seqItems? (.ref a)) Q E s:=wpAny_seqItems ho hd h
theorem qr1 {ks:List K}{a:Addr}{Q:Bool->Shared->Prop}(hk:IsTupleKey knd s.heap ks a) (h:Q false s):wpAny (model prog w) A (ofAClassStatement 8 (.ref a)) Q E s:=by
 have hT:=hk.typeIs;obtain⟨o,items,n,ho,_,hd,hi⟩:=hk;unfold ofAClassStatement;refine Za (WH hT ?_);show wpAny _ _ ((if ("tuple" == "tuple")=true then pure true else isSubtype (.type "tuple") (.type "tuple")) >>= _) _ _ s;rw[Zp (by decide)];refine Za (Zg ?_);simp only[XE,Zy,Z8];refine Za (seqItems?_of ho hd ?_);dsimp only;refine Za ?_;show wpAny _ _ (forIn items _ _) _ _ s;rw[<- Array.forIn_toList];refine wpAny_forIn_list _ (λrest r s'=>r.1=none/\s'=s/\∀v∈rest,carriedByValue v=true) _ ?_ ?_ _ _ ⟨rfl,rfl,hi.byValue⟩
 ·rintro v rest r s' ⟨hr,rfl,jG⟩;rw[qz3 _ (jG v Zu)];refine Za (Zg ?_);simp only[Zy,Z8];exact Zg ⟨rfl,rfl,λu hu'=>jG u (Zn _ hu')⟩
 ·rintro⟨r1,r2⟩ s' ⟨hr,rfl,_⟩;simp only at hr;subst hr;exact Zg h
theorem xC1 {ks:List K}{a:Addr}{Q:Bool->Shared->Prop}(hk:IsTupleKey knd s.heap ks a) (h:Q false s){stored:List Value}(kF:∀y∈stored,∃b ks',y=.ref b/\IsTupleKey knd s.heap ks' b) :
  wpAny (model prog w) A (searchCouldBeSeen (.ref a) stored) Q E s:=by
 unfold searchCouldBeSeen;refine Za ?_;refine wpAny_forIn_list _ (λrest r s'=>r.1=none/\s'=s/\∀y∈rest,∃b ks',y=.ref b/\IsTupleKey knd s.heap ks' b) _ ?_ ?_ _ _ ⟨rfl,rfl,kF⟩
 ·rintro y rest r s' ⟨hr,rfl,jG⟩;obtain⟨b,ks',rfl,hb⟩:=jG y Zu;have rest':∀y∈rest,∃b ks',y=.ref b/\IsTupleKey knd s'.heap ks' b:=λu hu'=>jG u (Zn _ hu');dsimp only;split
  ·exact Zg ⟨rfl,rfl,rest'⟩
  ·refine Za (wpAny_eqIsQuiet_tuple hk ?_);simp only[XE,Zy,Z8];refine Za (wpAny_eqIsQuiet_tuple hb ?_);simp only[XE,Zy,Z8];refine Za (qr1 hk ?_);simp only[Zy,Z8];refine Za (qr1 hb ?_);simp only[Zy,Z8];exact Zg ⟨rfl,rfl,rest'⟩
 ·rintro⟨r1,r2⟩ s' ⟨hr,rfl,_⟩;simp only at hr;subst hr;exact Zg h
def Hb (v:Value):Prop:=∃b,∀n,hashByValue n v=pure b
theorem Hb.int (k:Int) (t:Tok):Hb (.int k t):=⟨true,λn=>by cases n<;>rfl⟩
theorem Hb.str (x:Str) (t:Tok):Hb (.str x t):=⟨false,λn=>by cases n<;>rfl⟩
theorem qM6 {a:Addr}{o:Obj}{items:Array Value}{n:Nat}{Q:Bool->Shared->Prop}(ho:s.heap.get? a=some o) (hc:o.cls=.type "tuple") (hd:o.data=.seq items n) (hi:∀v∈items.toList,Hb v) (h:∀b,Q b s) :
  wpAny (model prog w) A (hashByValue 8 (.ref a)) Q E s:=by
 have hT:s.TypeIs (.ref a) "tuple":=⟨o,ho,hc⟩;unfold hashByValue;refine Za (wpAny_specialOf hT F.slot_tuple_hash.lookup ?_);dsimp only;refine Za (seqItems?_of ho hd ?_);dsimp only [Option.getD];refine Za ?_;show wpAny _ _ (forIn items _ _) _ _ s;rw[<- Array.forIn_toList];refine wpAny_forIn_list _ (λrest r s'=>r.1=none/\s'=s/\∀v∈rest,Hb v) _ ?_ ?_ _ _ ⟨rfl,rfl,hi⟩
 ·rintro v rest r s' ⟨hr,rfl,jG⟩;obtain⟨b,hb⟩:=jG v Zu;rw[hb];refine Za (Zg ?_);cases b with
  |true=>
   simp only[XE,Zy,Z8];exact Zg ⟨rfl,rfl,λu hu'=>jG u (Zn _ hu')⟩
  |false=>
   simp only[VT,Xs];exact Zg (Zg (h false))
 ·rintro⟨r1,r2⟩ s' ⟨hr,rfl,_⟩;simp only at hr;subst hr;exact Zg (h true)
theorem Grown.fits {t:SetTable}{n:Nat}(g:Grown t n):t.fits n=true:=by
 unfold SetTable.fits;rw[g.pl,g.fill];simp[g.le]
theorem qz4 {h:Heap}{a b:Addr}{o:Obj}{ks:List K}{es:Array (Int×Value)}{ep:Nat}{t:SetTable}(x:IsTupleKey knd h ks b) (ho:h.get? a=some o) (hd:o.data=.set es ep t):b≠a:=by
 rintro rfl;obtain⟨o',items,n,ho',_,hd',_⟩:=x;obtain rfl:o'=o:=Zv (ho'.symm.trans ho);rw[hd] at hd';exact nomatch hd'
theorem qr2 {h h':Heap}{a b:Addr}{ks:List K}(x:IsTupleKey knd h ks b) (jH:b≠a) (hs:Heap.SameBut a h h'):IsTupleKey knd h' ks b:=by
 obtain⟨o',items,n,ho',hc,hd',hi⟩:=x;exact⟨o',items,n,(hs.2 b jH).trans ho',hc,hd',hi⟩
theorem q87 {h:Heap}{a:Addr}{o:Obj}{es es':Array (Int×Value)}{ep:Nat}{t t':SetTable}(ho:h.get? a=some o) (hd:o.data=.set es ep t) :
  (h.update a (Obj.putSet es' t')).get? a=some { o with data:=.set es' (ep+1) t' }:=by
 have:=Xo (Obj.putSet es' t') ho (by rw[putSet_of es' t' hd];rfl);rw[putSet_of es' t' hd] at this;exact this
end
section
variable {prog:Program}{w:World}{K:Type}[DecidableEq K]{knd:KeyKind prog w K}
def TupK (knd:KeyKind prog w K) (h:Heap) (ks:List K) (b:Addr):Prop:=∃o items n,h.get? b=some o/\o.cls=.type "tuple" /\ o.data=.seq items n/\ItemsAre knd ks items.toList/\∀v∈items.toList,Hb v
theorem TupK.key {h:Heap}{ks:List K}{b:Addr}(x:TupK knd h ks b):IsTupleKey knd h ks b:=let ⟨o,items,n,h1,h2,h3,h4,_⟩:=x;⟨o,items,n,h1,h2,h3,h4⟩
theorem TupK.hb {h:Heap}{ks:List K}{b:Addr}(x:TupK knd h ks b):∀o items m,h.get? b=some o->o.data=.seq items m->∀v∈items.toList,Hb v:=λo items m e1 e2=>by
 obtain⟨o',items',n',h1,_,h3,_,h5⟩:=x;rw[e1] at h1;cases h1;rw[e2] at h3;cases h3;exact h5
theorem TupK.at {h h':Heap}{ks:List K}{b:Addr}(x:TupK knd h ks b) (k:∀o,h.get? b=some o->h'.get? b=some o):TupK knd h' ks b:=let ⟨o,items,n,h1,r⟩:=x;⟨o,items,n,k o h1,r⟩
variable {A:Around}{R:Result->Shared->Prop}{I:Addr}{fp wr:List Addr}{G:Array GenState->Array GenState->Prop}{n:Nat}{P:Nat->Value->Prop}{St:Nat->Shared->Prop}
def xu2 (knd:KeyKind prog w K) (S:Addr) (wr:List Addr) (P:Nat->Value->Prop) (val:Nat->List K) (h:Heap):Prop:=∀i v,P i v->∃b,v=.ref b/\b≠S/\b∉wr/\TupK knd h (val i) b
def xJ9 (knd:KeyKind prog w K) (wr:List Addr) (h:Heap):Prop:=∀b∈wr,¬∃ks,IsTupleKey knd h ks b
end
end SetT
namespace SetT
open PySem PySem.Spec
section
variable {prog:Program}{w:World}{K:Type}[DecidableEq K]{knd:KeyKind prog w K}{A:Around}{E:Value->Shared->Prop}{s:Shared}
abbrev newS (led:Bool):Obj:={ cls:=.type "set",dict:=none,data:=.set #[] 0 (.fresh 0 0 led) }
end
end SetT
namespace L2
open PySem PySem.Spec PyProof.Rows
section
variable {X:Cx}
theorem qu3 {env:Env}:∀{names:List (Str×NameKind)}{acc:List (Str×Addr)},
  (∀p∈names,p.2=.free->∃c,cellOf env p.1=pure c/\env.cells.lookup p.1=some c) ->
  (∀y c,acc.lookup y=some c->env.cells.lookup y=some c) ->
  ∃cl:List (Str×Addr),(forIn names acc λp cs=>(if p.2==.free then (do let c <- cellOf env p.1;pure (ForInStep.yield ((p.1,c)::cs))) else pure (ForInStep.yield cs):Sem (ForInStep (List (Str×Addr)))))=pure cl /\
   (∀y c,cl.lookup y=some c->env.cells.lookup y=some c)/\(∀y,(acc.lookup y).isSome=true->(cl.lookup y).isSome=true)/\∀p∈names,p.2=.free->(cl.lookup p.1).isSome=true
 |[],acc,_,ha=>⟨acc,by simp,ha,λ_ h=>h,λ_ h=>absurd h (by simp)⟩
 |(n,k)::r,acc,hn,ha=>by
  by_cases hk:k=.free
  ·subst hk;obtain⟨c,e1,e2⟩:=hn (n,.free) Zu rfl;obtain⟨cl,h1,h2,h3,h4⟩:=qu3 (env:=env) (names:=r) (acc:=(n,c)::acc) (λp hp=>hn p (Zn _ hp)) (λy d h=>by
    rw[Yz] at h;cases hy:y==n with
    |true=>rw[hy] at h;cases h;rw[eq_of_beq hy];exact e2
    |false=>rw[hy] at h;exact ha y d h)
   refine⟨cl,?_,h2,λy hy=>h3 y (by
    rw[Yz];cases y==n with
    |true=>rfl
    |false=>exact hy),λp hp hf=>?_⟩
   ·rw[Va];have e1':cellOf env n=pure c:=e1;simp only[Wi,Xs,e1',Vn];exact h1
   ·rcases ZB.mp hp with rfl|hp
    ·exact h3 _ (by simp[Yz])
    ·exact h4 p hp hf
  ·obtain⟨cl,h1,h2,h3,h4⟩:=qu3 (env:=env) (names:=r) (acc:=acc) (λp hp=>hn p (Zn _ hp)) ha;refine⟨cl,?_,h2,h3,λp hp hf=>?_⟩
   ·rw[Va];have:(k==NameKind.free)=false:=by simpa using hk
    simp only[this,Zy,Z8,Vn];exact h1
   ·rcases ZB.mp hp with rfl|hp
    ·exact absurd hf hk
    ·exact h4 p hp hf
def xu3 (wi:TI) (te:TE):TE:=λσ H Q=>wi σ H λJ H1=>∀D,H1 D=none->∃W:Nat->Nat->List V->Hp->Prop,(∃m,W 0 m [] (upd H1 D (.lst []))) /\
 ∀i m xs H2,W i m xs H2->H2 D=some (.lst xs)/\xs.length<sizeLine/\((J.stop i H2/\Q (.ref D) H2)\/(J.go i H2/\∀y H3,J.yld i H2 y H3 ->
  te (some y::σ) H3 λv H4=>H4 D=some (.lst xs)/\∃m',m'<m/\W (i+1) m' (xs++[v]) (upd H4 D (.lst (xs++[v])))))
theorem qm6 {scope:Scope}{env:Env}(hf:∀p∈scope.names,p.2=.free->∃c,env.cells.lookup p.1=some c) :
  ∃cl:List (Str×Addr),closureFor scope env=pure cl/\(∀y c,cl.lookup y=some c->env.cells.lookup y=some c)/\∀p∈scope.names,p.2=.free->(cl.lookup p.1).isSome=true:=by
 obtain⟨cl,h1,h2,_,h4⟩:=qu3 (env:=env) (names:=scope.names) (acc:=[]) (λp hp hk=>by
  obtain⟨c,e⟩:=hf p hp hk;refine⟨c,?_,e⟩;unfold cellOf;rw[e]) (λy c h=>by simp at h)
 refine⟨cl,?_,h2,h4⟩;unfold closureFor;refine Eq.trans ?_ h1;simp only[bind_pure]
theorem qj1 {env:Env}:∀{names:List (Str×NameKind)}{y:Str}{k:NameKind},(names.map λ(n,k)=>if (k==NameKind.free&&env.scope.kind==.function&&env.kindOf n==some .cell) then (n,NameKind.cell) else (n,k)).lookup y=some k ->
  (∀p∈names,p.2≠.cell)->(k=.cell\/k=.free)->∃p∈names,p.1=y/\p.2=.free
 |[],_,_,h,_,_=>by simp at h
 |(n,k0)::r,y,k,h,hc,hk=>by
  rw[ZC] at h;by_cases hy:y=n
  ·subst hy;by_cases h0:k0=.free
   ·exact⟨(y,k0),Zu,rfl,h0⟩
   ·exfalso;have e:(k0==NameKind.free)=false:=by simpa using h0
    simp only[e,VS,Zy,Z8,Yz,Wi,Option.some.injEq] at h;rcases hk with z|z
    ·exact hc _ Zu (h.trans z)
    ·exact h0 (h.trans z)
  ·have hb:(y==n)=false:=by simpa using hy
   have h':(r.map λ(n,k)=>if (k==NameKind.free&&env.scope.kind==.function&&env.kindOf n==some .cell) then (n,NameKind.cell) else (n,k)).lookup y=some k:=by
    revert h;dsimp only;split<;>(intro h;simpa only [Yz,hb] using h)
   obtain⟨p,hp,e⟩:=qj1 h' (λp hp=>hc p (Zn _ hp)) hk;exact⟨p,Zn _ hp,e⟩
theorem qr3 {env:Env}:∀{names:List (Str×NameKind)}{y:Str},(names.map λ(n,k)=>if (k==NameKind.free&&env.scope.kind==.function&&env.kindOf n==some .cell) then (n,NameKind.cell) else (n,k)).lookup y=some .local ->
  names.lookup y=some .local
 |[],_,h=>by simp at h
 |(n,k0)::r,y,h=>by
  rw[ZC] at h;by_cases hy:y=n
  ·subst hy;rw[Yz,Wi];revert h;dsimp only;split
   ·intro h;simp[Yz] at h
   ·intro h;simpa [Yz] using h
  ·have hb:(y==n)=false:=by simpa using hy
   rw[Yz,hb];refine qr3 (env:=env) ?_;revert h;dsimp only;split<;>(intro h;simpa only [Yz,hb] using h)
end
end L2
namespace L2
open PySem PySem.Spec PyProof.Rows PySem.W
section
variable {M:Model}{A:Around}{E:Value->Shared->Prop}{s:Shared}{base:Heap}{env:Env}{outer:List Env}{L e:Addr}{oe:Obj}{vs:Array Value}{head:Value}{hadNext:Bool}
end
end L2
namespace L2
open PySem PySem.Spec PyProof.Rows
section
variable {P:Program}{w:World}{H H1 H':Hp}{h h1 h':Heap}{outer:List Env}{env:Env}{x L:Addr}{cls:Value}
end
section
variable {P:Program}{w:World}{K:PySem.W.Frag}{mg:Str->Option Value}{base:Heap}{N:List Str}{qual:Str}{scope:Scope}{f:Addr}{cd:Value}{A:Around}{outer:List Env}{s₀:Shared}{H₀:Hp}{E:XK}
end
def SetN (r:Addr) (n:Nat) (h:Heap):Prop:=∃o es ep t,h.get? r=some o/\o.ExactSet/\o.data=.set es ep t/\t.fits es.size=true/\es.size=n
section
variable {X:Cx}
theorem xK0 {k:Key}{u:Value}(r:RelV (kV k) u):SetT.Hb u:=by
 cases k with
 |inl i=>obtain⟨t,rfl⟩:=r;exact SetT.Hb.int i t
 |inr x=>obtain⟨t,rfl⟩:=r;exact SetT.Hb.str x t
theorem xp8:∀{ks:List Key}{us:List Value},Vals (ks.map kV) us->∀v∈us,SetT.Hb v
 |[],_,.nil,v,hv=>by cases hv
 |k::ks,_,.cons r t,v,hv=>by
  rcases ZB.mp hv with rfl|hv
  ·exact xK0 r
  ·exact xp8 t v hv
theorem xu4 {P:Program}{w:World}{H:Hp}{h:Heap}{b:Addr}{ks:List Key}(ok:HOk P w H h) (e:H b=some (.tup (ks.map kV))):SetT.TupK (qc6 P w) h ks b:=by
 obtain⟨_,its,r,o,ho,hc,n,hd⟩:=ok b _ e;exact⟨o,its.toArray,n,ho,hc,hd,by simpa using qy8 r,λv hv=>xp8 r v (by simpa using hv)⟩
theorem qR9:qh1 X (.builtin "len") (λxs H Q=>∃(r:Addr) (n:Nat),xs=[.ref r]/\H r=some (.ext (SetN r n))/\n<=1200/\Q (.int n) H):=by
 intro j8 s σ H xs us Q I rv h;obtain⟨r,n,rfl,hr,hn,q⟩:=h;obtain⟨u,rfl,ru⟩:=qj8 rv;cases ru;obtain⟨⟨o,es,ep,t,ho,wE,hd,hf,rfl⟩,_⟩:=I.hok r _ hr;have hb:(es.size:Int)<=1200:=by lia
 exact call_len_set ho wE hd hf (Int.lt_of_le_of_lt hb (by decide)) ⟨.int es.size,H,I.tok _,⟨_,rfl⟩,q⟩
end
mutual
inductive DataAt (H:Hp):V->PyData->Prop
 |non:DataAt H .non .none
 |bl (b:Bool):DataAt H (.bl b) (.bool b)
 |int (i:Int):DataAt H (.int i) (.int i)
 |str (x:Str):DataAt H (.str x) (.str x)
 |lst {a:Addr}{xs:List V}{ds:List PyData}(h:H a=some (.lst xs)) (r:DatasAt H xs ds):DataAt H (.ref a) (.list ds)
 |tup {a:Addr}{xs:List V}{ds:List PyData}(h:H a=some (.tup xs)) (r:DatasAt H xs ds):DataAt H (.ref a) (.tuple ds)
inductive DatasAt (H:Hp):List V->List PyData->Prop
 |nil:DatasAt H [] []
 |cons {x:V}{xs:List V}{d:PyData}{ds:List PyData}(h:DataAt H x d) (r:DatasAt H xs ds):DatasAt H (x::xs) (d::ds)
end
section
variable {P:Program}{w:World}{H:Hp}{h:Heap}
mutual
theorem DataAt.reads (ok:HOk P w H h):∀{x:V}{d:PyData}{u:Value},DataAt H x d->RelV x u->∃as,Reads h u d as
 |_,_,u,.non,r=>⟨[],by cases (show u=Value.none from r);exact .none⟩
 |_,_,u,.bl b,r=>⟨[],by cases (show u=Value.bool b from r);exact .bool b⟩
 |_,_,u,.int i,r=>⟨[],by obtain⟨t,rfl⟩:=r;exact .int i t⟩
 |_,_,u,.str x,r=>⟨[],by obtain⟨t,rfl⟩:=r;exact .str x t⟩
 |_,_,u,.lst (a:=a) e rs,r=>by
  cases (show u=Value.ref a from r);obtain⟨_,its,n,rv,ho⟩:=ok a _ e;obtain⟨as,ra⟩:=DatasAt.reads ok rs rv;exact⟨a::as,.list ho rfl rfl (by simpa using ra)⟩
 |_,_,u,.tup (a:=a) e rs,r=>by
  cases (show u=Value.ref a from r);obtain⟨_,its,rv,o,ho,hc,n,hd⟩:=ok a _ e;obtain⟨as,ra⟩:=DatasAt.reads ok rs rv;exact⟨as,.tuple ho hc hd (by simpa using ra)⟩
theorem DatasAt.reads (ok:HOk P w H h):∀{xs:List V}{ds:List PyData}{us:List Value},DatasAt H xs ds->Vals xs us->∃as,ReadsAll h us ds as
 |_,_,_,.nil,.nil=>⟨[],.nil⟩
 |_,_,_,.cons h1 r1,.cons r rr=>by
  obtain⟨as,ra⟩:=DataAt.reads ok h1 r;obtain⟨bs,rb⟩:=DatasAt.reads ok r1 rr;exact⟨as++bs,.cons ra rb⟩
end
mutual
theorem DataAt.same {H':Hp}(s:∀b o,H b=some o->H' b=some o):∀{x:V}{d:PyData},DataAt H x d->DataAt H' x d
 |_,_,.non=>.non
 |_,_,.bl b=>.bl b
 |_,_,.int i=>.int i
 |_,_,.str x=>.str x
 |_,_,.lst e r=>.lst (s _ _ e) (DatasAt.same s r)
 |_,_,.tup e r=>.tup (s _ _ e) (DatasAt.same s r)
theorem DatasAt.same {H':Hp}(s:∀b o,H b=some o->H' b=some o):∀{xs:List V}{ds:List PyData},DatasAt H xs ds->DatasAt H' xs ds
 |_,_,.nil=>.nil
 |_,_,.cons h r=>.cons (DataAt.same s h) (DatasAt.same s r)
end
theorem DatasAt.ints:∀(ns:List Int),DatasAt H (ns.map V.int) (ns.map PyData.int)
 |[]=>.nil
 |n::ns=>.cons (.int n) (DatasAt.ints ns)
end
section
variable {X:Cx}
theorem qV2 {k:Nat}(hr:Room k X.A):OpR X (compareOp .Eq) (λx y H Q=>∃d e,DataAt H x d/\DataAt H y e/\d.canLay0=true/\e.canLay0=true/\d.depth<=60/\Q (.bl (PyData.eqv d e)) H):=by
 intro j8 s σ H x y v u Q I rx ry h;obtain⟨d,e,hd,he,c1,c2,dp,q⟩:=h;obtain⟨as,ra⟩:=hd.reads I.hok rx;obtain⟨bs,rb⟩:=he.reads I.hok ry;have un:=hr.units;exact SeqAt.rcAt_reads ra rb c1 c2 (by lia) X.prog X.w X.xe _ ⟨.bl _,H,I,rfl,q⟩
theorem qr4 {k:Nat}(hr:Room k X.A):OpR X (compareOp .NotEq) (λx y H Q=>∃d e,DataAt H x d/\DataAt H y e/\d.canLay0=true/\e.canLay0=true/\d.depth<=60/\Q (.bl (!PyData.eqv d e)) H):=by
 intro j8 s σ H x y v u Q I rx ry h;obtain⟨d,e,hd,he,c1,c2,dp,q⟩:=h;obtain⟨as,ra⟩:=hd.reads I.hok rx;obtain⟨bs,rb⟩:=he.reads I.hok ry;have un:=hr.units;exact SeqAt.rcNeAt_reads ra rb c1 c2 (by lia) X.prog X.w X.xe _ ⟨.bl _,H,I,rfl,q⟩
theorem qD7 {k:Nat}(hr:Room k X.A):qh1 X (.builtin "repr") (λxs H Q=>∃(p:Addr) (d:PyData),xs=[.ref p]/\DataAt H (.ref p) d/\d.showable=true/\d.hasDict=false/\d.depth<=60/\d.shown.length<=sizeLine/\Q (.str d.shown) H):=by
 intro j8 s σ H xs us Q I r h;obtain⟨p,d,rfl,hd,hs,hn,dp,hz,q⟩:=h;obtain⟨u,rfl,rx⟩:=qj8 r;cases rx;obtain⟨as,ra⟩:=hd.reads (u:=.ref p) I.hok rfl;have un:=hr.units;exact repr_of_reads' ra hs (λz=>by rw[hn] at z;cases z) hr.gd (by lia) (λb o e=>e) (λh' u tk kp=>⟨.str _,H,I.kept kp,⟨_,rfl⟩,q⟩) hz
end
theorem ql1:∀(a b:List Int),PyData.eqvAll (a.map PyData.int) (b.map PyData.int)=decide (a=b)
 |[],[]=>by simp[PyData.eqvAll]
 |x::a,[]=>by simp[PyData.eqvAll]
 |[],y::b=>by simp[PyData.eqvAll]
 |x::a,y::b=>by
  show (PyData.eqv (.int x) (.int y)&&PyData.eqvAll (a.map PyData.int) (b.map PyData.int))=_;rw[ql1 a b,show PyData.eqv (.int x) (.int y)=(x==y) by simp[PyData.eqv]];rw[Yn];simp
theorem qp6:∀(a:List Int),PyData.canLayAll0 (a.map PyData.int)=true
 |[]=>by simp[PyData.canLayAll0]
 |x::a=>by
  show (PyData.canLay0 (.int x)&&PyData.canLayAll0 (a.map PyData.int))=true;rw[qp6 a];simp[PyData.canLay0]
def dT (ns:List Int):PyData:=.tuple (ns.map PyData.int)
def dL (ns:List Int):PyData:=.list (ns.map PyData.int)
theorem qV3 (ns:List Int):(dT ns).canLay0=true:=by
 show PyData.canLayAll0 (ns.map PyData.int)=true;exact qp6 ns
theorem qV4 (ns:List Int):(dL ns).canLay0=true:=by
 show PyData.canLayAll0 (ns.map PyData.int)=true;exact qp6 ns
theorem xC2 (a b:List Int):PyData.eqv (dT a) (dT b)=decide (a=b):=by
 show PyData.eqvAll _ _=_;exact ql1 a b
theorem q88 (a b:List Int):PyData.eqv (dL a) (dL b)=decide (a=b):=by
 show PyData.eqvAll _ _=_;exact ql1 a b
end L2
namespace PyProof.Rows
open PySem
def xu5:Bool->Keyed->Array Keyed->Nat->Nat->Nat->StateT SortSt Sem (Option Nat):=sortPriv% PySem.Builtin.gallop
def KLt (prog:Program) (w:World) (A:Around) (s:Shared) (κ:KeyKind) (kd:SortKind):Prop:=
 ∀(E:Value->Shared->Prop) (x y:Value) (a b:κ.α) (Q:Bool->Shared->Prop),κ.keyOf x=some a->κ.keyOf y=some b->Q (κ.blt a b) s->wpAny (model prog w) A (keyLt' kd x y) Q E s
section
variable {prog:Program}{w:World}{A:Around}{E:Value->Shared->Prop}{s:Shared}{κ:KeyKind}
theorem qz5 {kd:SortKind}(hO:KLt prog w A s κ kd){st:SortSt}{x y:Keyed}{a b:κ.α}{Q:Option Bool->SortSt->Prop}(hk:kindOf st=kd) (ha:κ.keyOf x.1=some a) (hb:κ.keyOf y.1=some b) (h:Q (some (κ.blt a b)) st) :
  wpS (model prog w) A E s (lt' x y) Q st:=by
 rw[lt'_eq];refine Zt (WZ ?_);rw[hk];refine Zt (VI (XY (hO _ _ _ a b _ ha hb ⟨rfl,?_⟩)));exact Zz h
theorem qb8 {st:SortSt}{arr:Array Keyed}{i:Nat}{x:Keyed}{Q:Keyed->SortSt->Prop}(hi:arr[i]?=some x) (h:Q x st):wpS (model prog w) A E s (elem' arr i) Q st:=by
 rw[elem'_eq,hi];exact Zz h
def asks (left:Bool) (k x:κ.α):Bool:=if left then κ.blt x k else !κ.blt k x
theorem qi5 {kd:SortKind}(hO:KLt prog w A s κ kd){left:Bool}{key:Keyed}{k:κ.α}{arr:Array Keyed}{base n hint c:Nat}{st:SortSt}{Q:Option Nat->SortSt->Prop}(hk:kindOf st=kd) (hkey:κ.keyOf key.1=some k)
  (harr:∀i,i<n->∃x a,arr[base+i]?=some x/\κ.keyOf x.1=some a/\asks left k a=decide (i<c)) (hh:hint<n) (hc:c<=n) (h:Q (some c) st):wpS (model prog w) A E s (xu5 left key arr base n hint) Q st:=by
 have bey:∀(i:Nat) (Q':Option Bool->SortSt->Prop),i<n->Q' (some (decide (i<c))) st->wpS (model prog w) A E s (elem' arr (base+i) >>= λx=>if left=true then lt' x key else lt' key x >>= λr=>pure (Option.map (λx=>!x) r)) Q' st:=λi Q' hi hq=>by
  obtain⟨x,a,e1,e2,e3⟩:=harr i hi;refine Zt (qb8 e1 ?_);unfold asks at e3;cases left with
  |true=>
   rw[Zp rfl] at e3 ⊢;refine qz5 hO hk e2 hkey ?_;rw[e3];exact hq
  |false=>
   rw[Zk (by decide)] at e3 ⊢;refine Zt (qz5 hO hk hkey e2 (Zz ?_));show Q' (some (!κ.blt k a)) st;rw[e3];exact hq
 refine Zt (bey hint _ hh ?_);have fin:∀lo hi,lo<=c->c<=hi->hi<=n->∀(f:Nat->Option (Option Nat)×Nat×Nat->StateT SortSt Sem (ForInStep (Option (Option Nat)×Nat×Nat))) (g:Option (Option Nat)×Nat×Nat->StateT SortSt Sem (Option Nat)),
   (∀x lo hi,lo<hi->hi<=n->∀Q',(∀b,Q' (ForInStep.yield (none,if decide (lo+(hi-lo)/2<c)=true then (lo+(hi-lo)/2+1,hi) else (lo,lo+(hi-lo)/2))) b\/b≠st)->wpS (model prog w) A E s (f x (none,lo,hi)) Q' st) ->
   (∀x lo hi,lo>=hi->f x (none,lo,hi)=pure (ForInStep.done (none,lo,hi)))->(∀lo hi,g (none,lo,hi)=pure (some hi))->wpS (model prog w) A E s (forIn [:n] (none,lo,hi) f >>= g) Q st:=by
  intro lo hi h1 h2 h3 f g hf hf2 hg;refine Zt (Wp (Y7 (I:=λx cc st'=>st'=st/\∃lo hi,cc=(none,lo,hi)/\lo<=c/\c<=hi/\hi<=n/\hi-lo<=n-x) (Q:=λcc st'=>st'=st/\∃lo,cc=(none,lo,c)) ?step ?fin ⟨rfl,lo,hi,rfl,h1,h2,h3,by lia⟩) ?post)
  case post=>
   rintro cc st' ⟨rfl,lo,rfl⟩;rw[hg];exact Zz h
  case fin=>
   rintro cc st' ⟨rfl,lo,hi,rfl,g1,g2,g3,g4⟩;have:hi=c:=by lia
   exact⟨rfl,lo,by rw[this]⟩
  case step=>
   rintro x cc st' _ hx ⟨rfl,lo,hi,rfl,g1,g2,g3,g4⟩;by_cases vS:lo>=hi
   ·rw[hf2 x lo hi vS];have:hi=c:=by lia
    exact Zz ⟨rfl,lo,by rw[this]⟩
   ·refine hf x lo hi (by lia) g3 _ λb=>?_;by_cases hbst:b=st'
    ·left;subst hbst;by_cases hm:lo+(hi-lo)/2<c
     ·rw[Zl hm];exact⟨rfl,_,_,rfl,by lia,g2,g3,by lia⟩
     ·rw[Zq hm];exact⟨rfl,_,_,rfl,g1,by lia,by lia,by lia⟩
    ·exact .inr hbst
 have go:∀(x lo hi:Nat),lo<hi->hi<=n->∀(Q':ForInStep (Option (Option Nat)×Nat×Nat)->SortSt->Prop),(∀b,Q' (ForInStep.yield (none,if decide (lo+(hi-lo)/2<c)=true then (lo+(hi-lo)/2+1,hi) else (lo,lo+(hi-lo)/2))) b\/b≠st) ->
   ∀F:Option Bool->StateT SortSt Sem (ForInStep (Option (Option Nat)×Nat×Nat)),(∀b:Bool,F (some b)=if b=true then pure (ForInStep.yield (none,lo+(hi-lo)/2+1,hi)) else pure (ForInStep.yield (none,lo,lo+(hi-lo)/2))) ->
   wpS (model prog w) A E s ((elem' arr (base+(lo+(hi-lo)/2)) >>= λx=>if left=true then lt' x key else lt' key x >>= λr=>pure (Option.map (λx=>!x) r)) >>= F) Q' st:=by
  intro x lo hi jB hn Q' hq F hF;refine Zt (bey _ _ (by lia) ?_);rw[hF];have q:=(hq st).resolve_right (λz=>z rfl);by_cases hm:lo+(hi-lo)/2<c
  ·rw[Zl hm] at q ⊢;exact Zz q
  ·rw[Zq hm] at q ⊢;exact Zz q
 by_cases hr:hint<c
 ·rw[Zl hr];dsimp only;rw[Zp rfl];refine Zt (Wp (Y7 (I:=λx cc st'=>st'=st/\∃l o,cc=(none,l,o)/\l<o/\hint+l<c/\x<o) (Q:=λcc st'=>st'=st/\∃l o,cc=(none,l,o)/\hint+l<c/\(n-hint<=o\/c<=hint+o)) ?step ?fin ⟨rfl,0,1,rfl,by lia,by lia,by lia⟩) ?post)
  case fin=>
   rintro cc st' ⟨rfl,l,o,rfl,g1,g2,g3⟩;exact⟨rfl,l,o,rfl,g2,.inl (by lia)⟩
  case step=>
   rintro x cc st' _ hx ⟨rfl,l,o,rfl,g1,g2,g3⟩;dsimp only;by_cases ho:o>=n-hint
   ·rw[Zp ho];exact Zz ⟨rfl,l,o,rfl,g2,.inl ho⟩
   ·rw[Zk ho];refine Zt (bey (hint+o) _ (by lia) ?_);by_cases hm:hint+o<c
    ·rw[Zl hm];exact Zz ⟨rfl,o,2*o+1,rfl,by lia,hm,by lia⟩
    ·rw[Zq hm];exact Zz ⟨rfl,l,o,rfl,g2,.inr (by lia)⟩
  case post=>
   rintro cc st' ⟨rfl,l,o,rfl,g2,g3⟩;dsimp only;refine fin (hint+l+1) (hint+min o (n-hint)) (by lia) (by lia) (by lia) _ _ (λx lo hi jB hn' Q' hq=>?_) (λx lo hi vS=>?_) (λlo hi=>rfl)
   ·dsimp only;rw[Zk (by lia)];exact go x lo hi jB hn' Q' hq _ (λb=>rfl)
   ·dsimp only;rw[Zp vS]
 ·rw[Zq hr];dsimp only;rw[Zk (by decide)];refine Zt (Wp (Y7 (I:=λx cc st'=>st'=st/\∃l o,cc=(none,l,o)/\l<o/\c<=hint-l/\l<=hint/\x<o) (Q:=λcc st'=>st'=st/\∃l o,cc=(none,l,o)/\c<=hint-l/\l<=hint/\(hint+1<=o\/(o<=hint/\hint-o<c))) ?step ?fin ⟨rfl,0,1,rfl,by lia,by lia,by lia,by lia⟩) ?post)
  case fin=>
   rintro cc st' ⟨rfl,l,o,rfl,g1,g2,g3,g4⟩;exact⟨rfl,l,o,rfl,g2,g3,.inl (by lia)⟩
  case step=>
   rintro x cc st' _ hx ⟨rfl,l,o,rfl,g1,g2,g3,g4⟩;dsimp only;by_cases ho:o>=hint+1
   ·rw[Zp ho];exact Zz ⟨rfl,l,o,rfl,g2,g3,.inl ho⟩
   ·rw[Zk ho];refine Zt (bey (hint-o) _ (by lia) ?_);by_cases hm:hint-o<c
    ·rw[Zl hm];exact Zz ⟨rfl,l,o,rfl,g2,g3,.inr ⟨by lia,hm⟩⟩
    ·rw[Zq hm];exact Zz ⟨rfl,o,2*o+1,rfl,by lia,by lia,by lia,by lia⟩
  case post=>
   rintro cc st' ⟨rfl,l,o,rfl,g2,g3,g5⟩;dsimp only;refine fin (hint+1-min o (hint+1)) (hint-l) (by lia) (by lia) (by lia) _ _ (λx lo hi jB hn' Q' hq=>?_) (λx lo hi vS=>?_) (λlo hi=>rfl)
   ·dsimp only;rw[Zk (by lia)];exact go x lo hi jB hn' Q' hq _ (λb=>rfl)
   ·dsimp only;rw[Zp vS]
end
def SrtK (κ:KeyKind) (xs:Array Keyed) (lo hi:Nat):Prop:=∀i j,lo<=i->i<=j->j<hi->κ.kle (KK κ xs i) (KK κ xs j)
structure Mv (st st':SortSt) (lo hi:Nat):Prop where
 perm:(arrOf st').Perm (arrOf st)
 kind:kindOf st'=kindOf st
 fail:failedOf st'=failedOf st
 pend:pendingOf st'=pendingOf st
 out:∀k:Nat,k<lo\/hi<=k->(arrOf st')[k]?=(arrOf st)[k]?
theorem Mv.refl (st:SortSt) (lo hi:Nat):Mv st st lo hi:=⟨.refl _,rfl,rfl,rfl,λ_ _=>rfl⟩
theorem Mv.trans {a b c:SortSt}{lo hi:Nat}(h:Mv a b lo hi) (k:Mv b c lo hi):Mv a c lo hi:=
 ⟨k.perm.trans h.perm,k.kind.trans h.kind,k.fail.trans h.fail,k.pend.trans h.pend,λi hi=>(k.out i hi).trans (h.out i hi)⟩
theorem Mv.size {a b:SortSt}{lo hi:Nat}(h:Mv a b lo hi):(arrOf b).size=(arrOf a).size:=h.perm.size_eq
theorem qk3 {κ:KeyKind}{xs ys:Array Keyed}(h:KeysOf κ ys) (p:xs.Perm ys):KeysOf κ xs:=λq hq=>h q ((Wa.mp p).mem_iff.mp hq)
theorem xp9 {κ:KeyKind}{xs:Array Keyed}(h:KeysOf κ xs){i:Nat}(hi:i<xs.size):∃x p a,xs[i]?=some (x,p)/\κ.keyOf x=some a/\KK κ xs i=a:=by
 obtain⟨a,ha⟩:=h xs[i] (by simp);have e:xs[i]?=some xs[i]:=ZN _ i hi;refine⟨xs[i].1,xs[i].2,a,by rw[e],ha,?_⟩;unfold KK;rw[e];simp[ha]
section
variable {prog:Program}{w:World}{A:Around}{E:Value->Shared->Prop}{s:Shared}{κ:KeyKind}
theorem qu4 {kd:SortKind}(hO:KLt prog w A s κ kd){st:SortSt}{i j:Nat}{Q:Option Bool->SortSt->Prop}(hk:kindOf st=kd) (h0:KeysOf κ (arrOf st)) (hi:i<(arrOf st).size) (hj:j<(arrOf st).size)
  (h:Q (some (κ.blt (KK κ (arrOf st) i) (KK κ (arrOf st) j))) st):wpS (model prog w) A E s (ltAt' i j) Q st:=by
 obtain⟨x,p,a,e1,e2,e3⟩:=xp9 h0 hi;obtain⟨y,q,b,f1,f2,f3⟩:=xp9 h0 hj;rw[e3,f3] at h;rw[ltAt'_eq];refine Zt (WZ ?_);exact Zt (qb8 e1 (Zt (qb8 f1 (qz5 hO hk e2 f2 h))))
theorem xj1 {kd:SortKind}(hO:KLt prog w A s κ kd){st:SortSt}{lo n ok:Nat}{Q:Bool->SortSt->Prop}(hk:kindOf st=kd) (h0:KeysOf κ (arrOf st)) (hn:lo+n<=(arrOf st).size) (hok:ok<=n) (hs:SrtK κ (arrOf st) lo (lo+ok))
  (h:∀st',Mv st st' lo (lo+n)->SrtK κ (arrOf st') lo (lo+n)->Q true st'):wpS (model prog w) A E s (binarySort' lo n ok) Q st:=by
 refine Zt (Wp (Y7 (I:=λk c st'=>c=(none,())/\Mv st st' lo (lo+n)/\SrtK κ (arrOf st') lo (lo+min k n)) (Q:=λc st'=>c=(none,())/\Mv st st' lo (lo+n)/\SrtK κ (arrOf st') lo (lo+n)) ?step ?fin ?init) ?post)
 case post=>
  rintro c st' ⟨rfl,m,o⟩;exact Zz (h st' m o)
 case init=>
  refine⟨rfl,Mv.refl _ _ _,λi j h1 h2 h3=>?_⟩;by_cases z:ok=0
  ·have:i=j:=by lia
   rw[this];exact YL _
  ·exact hs i j h1 h2 (by lia)
 case fin=>
  rintro c st' ⟨rfl,m,o⟩;exact⟨rfl,m,λi j h1 h2 h3=>o i j h1 h2 (by lia)⟩
 case step=>
  rintro k c st1 vQ hkn ⟨rfl,m1,o1⟩;have hsz:lo+k<(arrOf st1).size:=by rw[m1.size];lia
  have hk':kindOf st1=kd:=m1.kind.trans hk;have h0':KeysOf κ (arrOf st1):=qk3 h0 m1.perm;have o2:SrtK κ (arrOf st1) lo (lo+k):=λi j h1 h2 h3=>o1 i j h1 h2 (by lia);refine Zt (Wp (Y7 (I:=λx c st2=>st2=st1/\∃l r,c=(none,l,r)/\l<=r/\r<=k/\r-l<=k-x/\(∀i,i<l->κ.kle (KK κ (arrOf st1) (lo+i)) (KK κ (arrOf st1) (lo+k)))/\(∀i,r<=i->i<k->κ.klt (KK κ (arrOf st1) (lo+k)) (KK κ (arrOf st1) (lo+i))))
   (Q:=λc st2=>st2=st1/\∃l r,c=(none,l,r)/\l<=k/\(∀i,i<l->κ.kle (KK κ (arrOf st1) (lo+i)) (KK κ (arrOf st1) (lo+k)))/\(∀i,l<=i->i<k->κ.klt (KK κ (arrOf st1) (lo+k)) (KK κ (arrOf st1) (lo+i)))) ?istep ?ifin ⟨rfl,0,k,rfl,by lia,by lia,by lia,λi hi=>by lia,λi h1 h2=>by lia⟩) ?ipost)
  case ifin=>
   rintro c st2 ⟨rfl,l,r,rfl,g1,g2,g3,g4,g5⟩;have:r=l:=by lia
   exact⟨rfl,l,r,rfl,by lia,g4,by rw[this] at g5;exact g5⟩
  case istep=>
   rintro x c st2 _ hx ⟨rfl,l,r,rfl,g1,g2,g3,g4,g5⟩;dsimp only;by_cases vS:l>=r
   ·rw[Zp vS];have:r=l:=by lia
    exact Zz ⟨rfl,l,r,rfl,by lia,g4,by rw[this] at g5;exact g5⟩
   ·rw[Zk vS];refine Zt (qu4 hO hk' h0' hsz (show lo+(l+r)/2<_ by lia) ?_);cases hb:κ.blt (KK κ (arrOf st2) (lo+k)) (KK κ (arrOf st2) (lo+(l+r)/2))
    ·refine Zz ⟨rfl,(l+r)/2+1,r,rfl,by lia,by lia,by lia,λi hi=>?_,g5⟩;exact ZS (o2 (lo+i) (lo+(l+r)/2) (by lia) (by lia) (by lia)) (show κ.kle _ _ from hb)
    ·refine Zz ⟨rfl,l,(l+r)/2,rfl,by lia,by lia,by lia,g4,λi h1 h2=>?_⟩;exact Wq hb (o2 (lo+(l+r)/2) (lo+i) (by lia) (by lia) (by lia))
  case ipost=>
   rintro c st2 ⟨rfl,l,r,rfl,g1,g4,g5⟩;dsimp only;have ed:lo+k-(lo+l)=k-l:=by lia
   have es:lo+k-(k-l)=lo+l:=by lia
   refine Zt (m:=moveDown' (lo+k) (lo+l)) ?_;rw[moveDown'_eq];refine XF (Zz ⟨rfl,m1.trans ⟨bubble_perm _ _ _,rfl,rfl,rfl,λi hi=>?_⟩,λi j h1 h2 h3=>?_⟩)
   ·show (bubble (arrOf st2) (lo+k) (lo+k-(lo+l)))[i]?=_;rw[ed,getElem?_bubble hsz _ (by lia),es,Zk (by lia),Zk (by lia)]
   ·show κ.kle (KK κ (bubble (arrOf st2) (lo+k) (lo+k-(lo+l))) i) (KK κ (bubble (arrOf st2) (lo+k) (lo+k-(lo+l))) j);have h3':j<lo+(k+1):=by lia
    have low:∀i,lo<=i->i<lo+l->κ.kle (KK κ (arrOf st2) i) (KK κ (arrOf st2) (lo+k)):=λi a b=>by
     have:=g4 (i-lo) (by lia)
     rwa [show lo+(i-lo)=i by lia] at this
    have high:∀i,lo+l<=i->i<lo+k->κ.kle (KK κ (arrOf st2) (lo+k)) (KK κ (arrOf st2) i):=λi a b=>by
     have:=ZZ (g5 (i-lo) (by lia) (by lia))
     rwa [show lo+(i-lo)=i by lia] at this
    rw[ed,KK_bubble hsz (by lia),KK_bubble hsz (by lia),es]
    repeat' split
    all_goals first
     |(exfalso;lia)
     |exact YL _
     |exact low _ (by lia) (by lia)
     |exact high _ (by lia) (by lia)
     |exact o2 _ _ (by lia) (by lia) (by lia)
theorem qV5 {kd:SortKind}(hO:KLt prog w A s κ kd){st:SortSt}{lo a nrem:Nat}{Q:Option (Option Nat)×Nat->SortSt->Prop}(hk:kindOf st=kd) (h0:KeysOf κ (arrOf st)) (hn:lo+nrem<=(arrOf st).size) (ha:1<=a) (han:a<=nrem) (hs:SrtK κ (arrOf st) lo (lo+a))
  (h:∀n,a<=n->n<=nrem->SrtK κ (arrOf st) lo (lo+n)->(n=nrem\/κ.klt (KK κ (arrOf st) (lo+n)) (KK κ (arrOf st) (lo+n-1)))->Q (none,n) st)
  (f:Nat->Option (Option Nat)×Nat->StateT SortSt Sem (ForInStep (Option (Option Nat)×Nat)))
  (hf:∀x n (Q':ForInStep (Option (Option Nat)×Nat)->SortSt->Prop),lo+n<(arrOf st).size->1<=n->Q' (if κ.blt (KK κ (arrOf st) (lo+n)) (KK κ (arrOf st) (lo+n-1))=true then .done (none,n) else .yield (none,n+1)) st->wpS (model prog w) A E s (f x (none,n)) Q' st) :
  wpS (model prog w) A E s (forIn [a:nrem] (none,a) f) Q st:=by
 refine Wp (Y7 (I:=λx c st'=>st'=st/\c=(none,x)/\a<=x/\x<=nrem/\SrtK κ (arrOf st) lo (lo+x)) (Q:=λc st'=>st'=st/\∃n,c=(none,n)/\a<=n/\n<=nrem/\SrtK κ (arrOf st) lo (lo+n)/\(n=nrem\/κ.klt (KK κ (arrOf st) (lo+n)) (KK κ (arrOf st) (lo+n-1)))) ?step ?fin ⟨rfl,rfl,Zd _,han,hs⟩) ?post
 case post=>
  rintro c st' ⟨rfl,n,rfl,g1,g2,g3,g4⟩;exact h n g1 g2 g3 g4
 case fin=>
  rintro c st' ⟨rfl,rfl,g1,g2,g3⟩;exact⟨rfl,_,rfl,g1,g2,g3,.inl (by lia)⟩
 case step=>
  rintro x c st' h1 h2 ⟨rfl,rfl,g1,g2,g3⟩;refine hf x x _ (by lia) (by lia) ?_;cases hb:κ.blt (KK κ (arrOf st') (lo+x)) (KK κ (arrOf st') (lo+x-1))
  ·refine⟨rfl,rfl,by lia,by lia,λi j h3 h4 h5=>?_⟩;by_cases hj:j=lo+x
   ·by_cases hi:i=lo+x
    ·rw[hi,hj];exact YL _
    ·rw[hj];exact ZS (g3 i (lo+x-1) h3 (by lia) (by lia)) (show κ.kle _ _ from hb)
   ·exact g3 i j h3 h4 (by lia)
  ·exact⟨rfl,x,rfl,g1,g2,g3,.inr hb⟩
end
def qM7 (κ:KeyKind) (xs:Array Keyed) (lo m:Nat):Prop:=∀i j,lo<=i->i<=j->j<lo+m->κ.kle (KK κ xs j) (KK κ xs i)
def EqK (κ:KeyKind) (xs:Array Keyed) (lo m q:Nat):Prop:=∀i,lo+m-(q+1)<=i->i<lo+m->KK κ xs i=KK κ xs (lo+m-1)
section
variable {prog:Program}{w:World}{A:Around}{E:Value->Shared->Prop}{s:Shared}{κ:KeyKind}
theorem qw6 {st:SortSt}{i j:Nat}{Q:Unit->SortSt->Prop}(h:Q () (setArr st (mirror (arrOf st) i j ((j-i)/2)))):wpS (model prog w) A E s (reverseSlice' i j) Q st:=by
 rw[reverseSlice'_eq];exact XF h
theorem Mv.rev {st st':SortSt}{lo hi i j:Nat}(h:Mv st st' lo hi) (hi1:lo<=i) (hj:j<=hi) (hs:j<=(arrOf st').size):Mv st (setArr st' (mirror (arrOf st') i j ((j-i)/2))) lo hi:=
 h.trans ⟨mirror_perm _ _ _ _,rfl,rfl,rfl,λk hk=>by
  show (mirror (arrOf st') i j ((j-i)/2))[k]?=_;rw[getElem?_mirror_all hs,Zk (by lia)]⟩
theorem xj2 {st:SortSt}{lo m:Nat}(h:qM7 κ (arrOf st) lo m) (hs:lo+m<=(arrOf st).size):SrtK κ (arrOf (setArr st (mirror (arrOf st) lo (lo+m) ((lo+m-lo)/2)))) lo (lo+m):=λi j h1 h2 h3=>by
 show κ.kle (KK κ (mirror (arrOf st) lo (lo+m) ((lo+m-lo)/2)) i) (KK κ (mirror (arrOf st) lo (lo+m) ((lo+m-lo)/2)) j);rw[KK_mirror hs,KK_mirror hs,Zp (by lia),Zp (by lia)];exact h _ _ (by lia) (by lia) (by lia)
theorem xq0 {st:SortSt}{lo m q:Nat}(h:EqK κ (arrOf st) lo m q) (hs:lo+m<=(arrOf st).size) (k:Nat):KK κ (arrOf (setArr st (mirror (arrOf st) (lo+m-(q+1)) (lo+m) ((lo+m-(lo+m-(q+1)))/2)))) k=KK κ (arrOf st) k:=
 KK_mirror_equal (xs:=arrOf st) hs (λi h1 h2=>h i h1 h2) k
theorem xu6 {G0:Prop}{P G:SortSt->Prop}(a:(∀m,P m->G m)->G0) (b:∀m,P m->G m):G0:=a b
theorem xj3 {kd:SortKind}(hO:KLt prog w A s κ kd){st:SortSt}{lo nrem:Nat}{Q:Option Nat->SortSt->Prop}(hk:kindOf st=kd) (h0:KeysOf κ (arrOf st)) (hn:lo+nrem<=(arrOf st).size) (h1:1<=nrem)
  (h:∀m st',1<=m->m<=nrem->Mv st st' lo (lo+nrem)->SrtK κ (arrOf st') lo (lo+m)->Q (some m) st'):wpS (model prog w) A E s (countRun' lo nrem) Q st:=by
 refine Zt (qV5 hO hk h0 hn (Zd 1) h1 ?_ (λn g1 g2 g3 g4=>?_) _ (λx n Q' e1 e2 hq=>?_))
 ·intro i j a b c;have:i=j:=by lia
  rw[this];exact YL _
 ·dsimp only;by_cases hnn:n=nrem
  ·rw[Zp (by simp[hnn])];exact Zz (h n st g1 g2 (Mv.refl _ _ _) g3)
  ·rw[Zk (by simp[hnn])];have jB:κ.klt (KK κ (arrOf st) (lo+n)) (KK κ (arrOf st) (lo+n-1)):=g4.resolve_left hnn;refine' xu6 (P:=λst1=>Mv st st1 lo (lo+nrem)/\qM7 κ (arrOf st1) lo (n+1)) (G:=_) (λkey=>?ka) (λst1 hP=>?kb)
   case ka=>
    by_cases hn1:n>1
    case pos=>
     rw[Zp hn1];refine Zt (qu4 hO hk h0 (by lia) (by lia) ?_);cases hb:κ.blt (KK κ (arrOf st) lo) (KK κ (arrOf st) (lo+n-1))
     case true=>exact Zz (h n st g1 g2 (Mv.refl _ _ _) g3)
     dsimp only;rw[Zk (by decide)];refine Zt (qw6 ?_);have mv:=(Mv.refl st lo (lo+nrem)).rev (i:=lo) (j:=lo+n) (Zd _) (by lia) (by lia);have alle:∀i,lo<=i->i<lo+n->KK κ (arrOf st) i=KK κ (arrOf st) (lo+n-1):=λi a b=>
      KeyOrd.kle_antisymm (g3 i (lo+n-1) a (by lia) (by lia)) (ZS (show κ.kle _ _ from hb) (g3 lo i (Zd _) a b))
     have kk:∀k,KK κ (arrOf (setArr st (mirror (arrOf st) lo (lo+n) ((lo+n-lo)/2)))) k=KK κ (arrOf st) k:=KK_mirror_equal (xs:=arrOf st) (by lia) alle;have hf:qM7 κ (arrOf (setArr st (mirror (arrOf st) lo (lo+n) ((lo+n-lo)/2)))) lo (n+1):=λi j a b c=>by
      rw[kk,kk];by_cases ej:j=lo+n
      ·by_cases ei:i=lo+n
       ·rw[ei,ej];exact YL _
       ·rw[ej,alle i a (by lia)];exact ZZ jB
      ·rw[alle i a (by lia),alle j (by lia) (by lia)];exact YL _
     generalize setArr st (mirror (arrOf st) lo (lo+n) ((lo+n-lo)/2))=st1 at mv hf ⊢;exact key st1 ⟨mv,hf⟩
    case neg=>
     rw[Zk hn1];have hf:qM7 κ (arrOf st) lo (n+1):=λi j a b c=>by
      by_cases e:i=j
      ·rw[e];exact YL _
      ·have e1:i=lo+n-1:=by lia
       have e2:j=lo+n:=by lia
       rw[e1,e2];exact ZZ jB
     have mv:=Mv.refl st lo (lo+nrem);exact key st ⟨mv,hf⟩
   case kb=>
    obtain⟨mv,hf⟩:=hP;refine Zt (VI (Xk ⟨rfl,?_⟩));refine Zt (Wp (Y7 (I:=λx c st2=>∃q,c=(none,x,q)/\Mv st st2 lo (lo+nrem)/\n+1<=x/\x<=nrem/\qM7 κ (arrOf st2) lo x/\EqK κ (arrOf st2) lo x q/\q+1<=x) (Q:=λc st2=>∃m q,c=(none,m,q)/\Mv st st2 lo (lo+nrem)/\n+1<=m/\m<=nrem/\qM7 κ (arrOf st2) lo m/\EqK κ (arrOf st2) lo m q/\q+1<=m) ?step ?fin ?init) ?post)
    case init=>
     refine⟨0,rfl,mv,Zd _,by lia,hf,λi a b=>?_,by lia⟩;rw[show i=lo+(n+1)-1 by lia]
    case fin=>
     rintro c st2 ⟨q,rfl,r1,r2,r3,r4,r5,r6⟩;exact⟨_,q,rfl,r1,r2,r3,r4,r5,r6⟩
    case step=>
     rintro x c st2 a b ⟨q,rfl,m2,c1,c2,f2,e2,c3⟩;dsimp only;have hk2:=m2.kind.trans hk;have h02:=qk3 h0 m2.perm;have sz2:=m2.size;refine Zt (qu4 hO hk2 h02 (by lia) (by lia) ?_);cases hb:κ.blt (KK κ (arrOf st2) (lo+x)) (KK κ (arrOf st2) (lo+x-1))
     ·dsimp only;rw[Zk (by decide)];refine Zt (qu4 hO hk2 h02 (by lia) (by lia) ?_);cases kE:κ.blt (KK κ (arrOf st2) (lo+x-1)) (KK κ (arrOf st2) (lo+x))
      ·dsimp only;rw[Zk (by decide)];have eqk:KK κ (arrOf st2) (lo+x)=KK κ (arrOf st2) (lo+x-1):=κ.total _ _ hb kE;refine Zz ⟨q+1,rfl,m2,by lia,by lia,λi j d1 d2 d3=>?_,λi d1 d2=>?_,by lia⟩
       ·by_cases ej:j=lo+x
        ·by_cases ei:i=lo+x
         ·rw[ei,ej];exact YL _
         ·rw[ej,eqk];exact f2 i (lo+x-1) d1 (by lia) (by lia)
        ·exact f2 i j d1 d2 (by lia)
       ·rw[show lo+(x+1)-1=lo+x by lia];by_cases ei:i=lo+x
        ·rw[ei]
        ·rw[eqk];exact e2 i (by lia) (by lia)
      ·exact Zz ⟨x,q,rfl,m2,c1,c2,f2,e2,c3⟩
     ·dsimp only;rw[Zp rfl];have nf:∀st3:SortSt,(∀k,KK κ (arrOf st3) k=KK κ (arrOf st2) k)->qM7 κ (arrOf st3) lo (x+1):=λst3 kk i j d1 d2 d3=>by
       rw[kk,kk];by_cases ej:j=lo+x
       ·by_cases ei:i=lo+x
        ·rw[ei,ej];exact YL _
        ·rw[ej];exact ZS (ZZ hb) (f2 i (lo+x-1) d1 (by lia) (by lia))
       ·exact f2 i j d1 d2 (by lia)
      have ne:∀st3:SortSt,EqK κ (arrOf st3) lo (x+1) 0:=λst3 i d1 d2=>by rw[show i=lo+(x+1)-1 by lia]
      by_cases hq:q>0
      ·rw[Zp hq];exact Zt (qw6 (Zz ⟨0,rfl,m2.rev (by lia) (by lia) (by lia),by lia,by lia,nf _ (xq0 e2 (by lia)),ne _,by lia⟩))
      ·rw[Zk hq];exact Zz ⟨0,rfl,m2,by lia,by lia,nf _ (λ_=>rfl),ne _,by lia⟩
    case post=>
     rintro c st2 ⟨m,q,rfl,m2,c1,c2,f2,e2,c3⟩;dsimp only;have sz2:=m2.size;by_cases hq:q>0
     case' neg=>
      rw[Zk hq];have m3:=m2;have f3:=f2;generalize st2=st3 at m3 f3 ⊢
     case' pos=>
      rw[Zp hq];refine Zt (qw6 ?_);have m3:=m2.rev (i:=lo+m-(q+1)) (j:=lo+m) (by lia) (by lia) (by lia);have kk:=xq0 e2 (by lia);have f3:qM7 κ (arrOf (setArr st2 (mirror (arrOf st2) (lo+m-(q+1)) (lo+m) ((lo+m-(lo+m-(q+1)))/2)))) lo m:=λi j d1 d2 d3=>by rw[kk,kk];exact f2 i j d1 d2 d3
      generalize setArr st2 (mirror (arrOf st2) (lo+m-(q+1)) (lo+m) ((lo+m-(lo+m-(q+1)))/2))=st3 at m3 f3 ⊢
     all_goals
      refine Zt (qw6 ?_);have m4:=m3.rev (i:=lo) (j:=lo+m) (Zd _) (by lia) (by rw[m3.size];lia);have o4:=xj2 f3 (by rw[m3.size];lia);have hk4:=m4.kind.trans hk;have h04:=qk3 h0 m4.perm;have z4:=m4.size;generalize setArr st3 (mirror (arrOf st3) lo (lo+m) ((lo+m-lo)/2))=st4 at m4 o4 hk4 h04 z4 ⊢;refine Zt (qV5 hO hk4 h04 (by lia) (show 1<=m by lia) c2 o4 (λk k1 k2 k3 _=>?_) _ (λx k Q' e1 e2 hq=>?_))
      ·exact Zz (h k st4 (by lia) k2 m4 k3)
      ·refine Zt (qu4 hO hk4 h04 e1 (by lia) ?_);cases hb:κ.blt (KK κ (arrOf st4) (lo+k)) (KK κ (arrOf st4) (lo+k-1))
       ·rw[hb] at hq;exact Zz hq
       ·rw[hb] at hq;exact Zz hq
 ·refine Zt (qu4 hO hk h0 e1 (by lia) ?_);cases hb:κ.blt (KK κ (arrOf st) (lo+n)) (KK κ (arrOf st) (lo+n-1))
  ·rw[hb] at hq;exact Zz hq
  ·rw[hb] at hq;exact Zz hq
end
def kv (κ:KeyKind) (p:Keyed):κ.α:=(κ.keyOf p.1).getD κ.dflt
def Asc (κ:KeyKind) (l:List Keyed):Prop:=l.Pairwise λx y=>κ.kle (kv κ x) (kv κ y)
structure Mg (κ:KeyKind) (all out a b:List Keyed):Prop where
 perm:(out++(a++b)).Perm all
 so:Asc κ out
 sa:Asc κ a
 sb:Asc κ b
 la:∀x∈out,∀y∈a,κ.kle (kv κ x) (kv κ y)
 lb:∀x∈out,∀y∈b,κ.kle (kv κ x) (kv κ y)
theorem Mg.takeA {κ:KeyKind}{all out a b:List Keyed}{x:Keyed}(m:Mg κ all out (x::a) b) (h:∀y∈b,κ.kle (kv κ x) (kv κ y)):Mg κ all (out++[x]) a b where
 perm:=by simpa using m.perm
 so:=Wb.mpr ⟨m.so,by simp,λp hp q hq=>by
  have:q=x:=by simpa using hq
  rw[this];exact m.la p hp x (by simp)⟩
 sa:=(Xl.mp m.sa).2
 sb:=m.sb
 la:=λp hp y hy=>by
  rcases Z6.mp hp with z|z
  ·exact m.la p z y (Zn _ hy)
  ·have:p=x:=by simpa using z
   rw[this];exact (Xl.mp m.sa).1 y hy
 lb:=λp hp y hy=>by
  rcases Z6.mp hp with z|z
  ·exact m.lb p z y hy
  ·have:p=x:=by simpa using z
   rw[this];exact h y hy
theorem Mg.swap {κ:KeyKind}{all out a b:List Keyed}(m:Mg κ all out a b):Mg κ all out b a where
 perm:=(List.Perm.append_left out List.perm_append_comm).trans m.perm
 so:=m.so
 sa:=m.sb
 sb:=m.sa
 la:=m.lb
 lb:=m.la
theorem Mg.takeB {κ:KeyKind}{all out a b:List Keyed}{x:Keyed}(m:Mg κ all out a (x::b)) (h:∀y∈a,κ.kle (kv κ x) (kv κ y)):Mg κ all (out++[x]) a b:=(m.swap.takeA h).swap
theorem Mg.doneB {κ:KeyKind}{all out a:List Keyed}(m:Mg κ all out a []):(out++a).Perm all/\Asc κ (out++a):=
 ⟨by simpa using m.perm,Wb.mpr ⟨m.so,m.sa,m.la⟩⟩
theorem Mg.doneAB {κ:KeyKind}{all out a b:List Keyed}(m:Mg κ all out a b) (h:∀y∈b,∀x∈a,κ.kle (kv κ y) (kv κ x)):(out++(b++a)).Perm all/\Asc κ (out++(b++a)):=
 ⟨m.swap.perm,Wb.mpr ⟨m.so,Wb.mpr ⟨m.sb,m.sa,h⟩,λx hx y hy=>(Z6.mp hy).elim (m.lb x hx y) (m.la x hx y)⟩⟩
def xj4:Array Keyed->Array Keyed->StateT SortSt Sem (Array Keyed):=sortPriv% PySem.Builtin.mergeLo
abbrev qr5 (st:SortSt) (g:Nat):SortSt:=SortSt.mk' (kindOf st) (arrOf st) (pendingOf st) g (failedOf st)
theorem Mg.takesA {κ:KeyKind}{all b:List Keyed}:∀{out l a:List Keyed},Mg κ all out (l++a) b->(∀x∈l,∀y∈b,κ.kle (kv κ x) (kv κ y))->Mg κ all (out++l) a b
 |out,[],a,m,_=>by rw[XV];exact m
 |out,x::l,a,m,h=>by
  have:=(m.takeA (λy hy=>h x (by simp) y hy)).takesA (λz hz=>h z (by simp[hz]))
  rwa [Ye] at this
theorem Mg.takesB {κ:KeyKind}{all out l a b:List Keyed}(m:Mg κ all out a (l++b)) (h:∀x∈l,∀y∈a,κ.kle (kv κ x) (kv κ y)):Mg κ all (out++l) a b:=(m.swap.takesA h).swap
theorem qM8 {p:Nat->Bool}:∀n:Nat,(∀i j,i<=j->j<n->p j=true->p i=true)->∃c,c<=n/\∀i,i<n->p i=decide (i<c)
 |0,_=>⟨0,Zd _,λi hi=>absurd hi (Yk _)⟩
 |n+1,h=>by
  obtain⟨c,c1,c2⟩:=qM8 n (λi j a b e=>h i j a (by lia) e);cases e:p n with
  |true=>
   exact⟨n+1,Zd _,λi hi=>by rw[h i n (by lia) (by lia) e,Zl hi]⟩
  |false=>
   refine⟨c,by lia,λi hi=>?_⟩;by_cases en:i=n
   ·rw[en,e,Zq (by lia)]
   ·exact c2 i (by lia)
theorem q89 {a:Array Keyed}{i:Nat}(h:i<a.size):a.toList.drop i=a[i]::a.toList.drop (i+1):=by
 rw[Wk (by simpa using h)];simp
theorem qr6 {κ:KeyKind}{a:Array Keyed}(h:KeysOf κ a){i:Nat}(hi:i<a.size):κ.keyOf a[i].1=some (kv κ a[i]):=by
 obtain⟨x,e⟩:=h a[i] (by simp);rw[e];unfold kv;rw[e];rfl
theorem qk4 {κ:KeyKind}{a:Array Keyed}(h:Asc κ a.toList){i j:Nat}(jT:i<=j) (hj:j<a.size):κ.kle (kv κ a[i]) (kv κ a[j]):=by
 rcases Nat.lt_or_eq_of_le jT with z|z
 ·have:=YX.mp h i j (by simp;lia) (by simpa using hj) z;simpa using this
 ·subst z;exact YL _
theorem qn7 {a:Array Keyed}{i:Nat}{x:Keyed}(h:x∈a.toList.drop i):∃j,∃hj:j<a.size,i<=j/\a[j]=x:=by
 obtain⟨k,hk,e⟩:=YC h;have hk':i+k<a.size:=by simp at hk;lia
 exact⟨i+k,hk',by lia,by rw[<- e];simp⟩
theorem qM9 {κ:KeyKind}{a:Array Keyed}(ka:KeysOf κ a) (sa:Asc κ a.toList) (k:κ.α){base n:Nat}(hn:base+n<=a.size) :
  ∃c,c<=n/\(∀i,i<n->∃x y,a[base+i]?=some x/\κ.keyOf x.1=some y/\asks false k y=decide (i<c))/\∀i,(h:base+i<a.size)->i<n->(i<c->κ.kle (kv κ a[base+i]) k)/\(c<=i->κ.klt k (kv κ a[base+i])):=by
 have key:∀i,(h:base+i<a.size)->KK κ a (base+i)=kv κ a[base+i]:=λi h=>by unfold KK kv;rw[ZN a _ h]
 obtain⟨c,c1,c2⟩:=qM8 (p:=λi=>!κ.blt k (KK κ a (base+i))) n (λi j jT hj e=>by
  simp only[Xu] at e ⊢;rw[key _ (by lia)] at e ⊢;exact ZS (qk4 sa (by lia) (by lia)) e)
 refine⟨c,c1,λi hi=>⟨_,_,ZN a _ (by lia),qr6 ka (by lia),?_⟩,λi h hi=>⟨λhc=>?_,λhc=>?_⟩⟩
 ·rw[<- c2 i hi,key i (by lia)];rfl
 ·have e:=c2 i hi;rw[key i h,Zl hc] at e;exact (Xu _).mp e
 ·have e:=c2 i hi;rw[key i h,Zq (by lia)] at e;exact (Bool.not_eq_false' _).mp e
theorem qV6 {κ:KeyKind}{a:Array Keyed}(ka:KeysOf κ a) (sa:Asc κ a.toList) (k:κ.α){base n:Nat}(hn:base+n<=a.size) :
  ∃c,c<=n/\(∀i,i<n->∃x y,a[base+i]?=some x/\κ.keyOf x.1=some y/\asks true k y=decide (i<c))/\∀i,(h:base+i<a.size)->i<n->(i<c->κ.klt (kv κ a[base+i]) k)/\(c<=i->κ.kle k (kv κ a[base+i])):=by
 have key:∀i,(h:base+i<a.size)->KK κ a (base+i)=kv κ a[base+i]:=λi h=>by unfold KK kv;rw[ZN a _ h]
 obtain⟨c,c1,c2⟩:=qM8 (p:=λi=>κ.blt (KK κ a (base+i)) k) n (λi j jT hj e=>by
  rw[key _ (by lia)] at e ⊢;exact KeyOrd.klt_of_kle_of_klt (qk4 sa (by lia) (by lia)) e)
 refine⟨c,c1,λi hi=>⟨_,_,ZN a _ (by lia),qr6 ka (by lia),?_⟩,λi h hi=>⟨λhc=>?_,λhc=>?_⟩⟩
 ·rw[<- c2 i hi,key i (by lia)];rfl
 ·have e:=c2 i hi;rw[key i h,Zl hc] at e;exact e
 ·have e:=c2 i hi;rw[key i h,Zq (by lia)] at e;exact e
def Mp (κ:KeyKind) (a b out:Array Keyed) (ia ib:Nat):Prop:=Mg κ (a.toList++b.toList) out.toList (a.toList.drop ia) (b.toList.drop ib)
abbrev Rd (κ:KeyKind) (a b out:Array Keyed):Prop:=out.toList.Perm (a.toList++b.toList)/\Asc κ out.toList
section
variable {κ:KeyKind}{a b out:Array Keyed}{ia ib:Nat}
theorem Mp.ta (sb:Asc κ b.toList) (m:Mp κ a b out ia ib) (hia:ia<a.size) (hib:ib<b.size) (h:κ.kle (kv κ a[ia]) (kv κ b[ib])):Mp κ a b (out.push a[ia]) (ia+1) ib:=by
 unfold Mp at m ⊢;rw[q89 hia] at m;rw[X2];refine m.takeA λy hy=>?_;obtain⟨j,hj,h1,rfl⟩:=qn7 hy;exact ZS h (qk4 sb h1 hj)
theorem Mp.tb (sa:Asc κ a.toList) (m:Mp κ a b out ia ib) (hia:ia<a.size) (hib:ib<b.size) (h:κ.kle (kv κ b[ib]) (kv κ a[ia])):Mp κ a b (out.push b[ib]) ia (ib+1):=by
 unfold Mp at m ⊢;rw[q89 hib] at m;rw[X2];refine m.takeB λy hy=>?_;obtain⟨j,hj,h1,rfl⟩:=qn7 hy;exact ZS h (qk4 sa h1 hj)
theorem qV7 {a:Array Keyed}{i k:Nat}(h:i+k<=a.size):a.toList.drop i=(a.extract i (i+k)).toList++a.toList.drop (i+k):=by
 rw[Xv,List.extract_eq_drop_take,<- VU,show i+k-i=k by lia,YF]
theorem q90 {a:Array Keyed}{i k:Nat}(h:i+k<=a.size){x:Keyed}(hx:x∈(a.extract i (i+k)).toList):∃j,∃hj:i+j<a.size,j<k/\a[i+j]=x:=by
 obtain⟨j,hj,e⟩:=YC hx;have hj':j<k:=by simp at hj;lia
 exact⟨j,by lia,hj',by rw[<- e];simp⟩
theorem Mp.as (sb:Asc κ b.toList) (m:Mp κ a b out ia ib){k:Nat}(hk:ia+k<=a.size) (hib:ib<b.size) (h:∀i,(hi:ia+i<a.size)->i<k->κ.kle (kv κ a[ia+i]) (kv κ b[ib])):Mp κ a b (out++a.extract ia (ia+k)) (ia+k) ib:=by
 unfold Mp at m ⊢;rw[qV7 hk] at m;rw[Z3];refine m.takesA λx hx y hy=>?_;obtain⟨i,hi,wR,rfl⟩:=q90 hk hx;obtain⟨j,hj,h1,rfl⟩:=qn7 hy;exact ZS (h i hi wR) (qk4 sb h1 hj)
theorem Mp.bs (sa:Asc κ a.toList) (m:Mp κ a b out ia ib){k:Nat}(hk:ib+k<=b.size) (hia:ia<a.size) (h:∀i,(hi:ib+i<b.size)->i<k->κ.kle (kv κ b[ib+i]) (kv κ a[ia])):Mp κ a b (out++b.extract ib (ib+k)) ia (ib+k):=by
 unfold Mp at m ⊢;rw[qV7 hk] at m;rw[Z3];refine m.takesB λx hx y hy=>?_;obtain⟨i,hi,wR,rfl⟩:=q90 hk hx;obtain⟨j,hj,h1,rfl⟩:=qn7 hy;exact ZS (h i hi wR) (qk4 sa h1 hj)
theorem qH0 {a:Array Keyed}{i:Nat}:(a.extract i a.size).toList=a.toList.drop i:=by
 rw[Xv,List.extract_eq_drop_take,YA (by simp)]
theorem Mp.done (m:Mp κ a b out ia ib) (h:ib=b.size):Rd κ a b (out++a.extract ia a.size++b.extract ib b.size):=by
 unfold Mp at m;have e:b.toList.drop ib=[]:=by rw[h];simp
 rw[e] at m;show (out++a.extract ia a.size++b.extract ib b.size).toList.Perm _/\Asc κ (out++a.extract ia a.size++b.extract ib b.size).toList;rw[Z3,Z3,qH0,qH0,e,XV];exact m.doneB
def ap1 {α:Type}{β:Type _}(f:α->β) (x:α):β:=f x
def ap2 {α γ:Type}{β:Type _}(f:α->γ->β) (x:α) (y:γ):β:=f x y
theorem qc9 {M:Model}{A:Around}{E:Value->Shared->Prop}{s:Shared}{σ α:Type}{c:Prop}[Decidable c]{x y:StateT σ Sem α}{Q:α->σ->Prop}{st:σ}(h:c) (k:wpS M A E s x Q st):wpS M A E s (if c then x else y) Q st:=by rw[Zp h];exact k
theorem qc7 {M:Model}{A:Around}{E:Value->Shared->Prop}{s:Shared}{σ α:Type}{c:Prop}[Decidable c]{x y:StateT σ Sem α}{Q:α->σ->Prop}{st:σ}(h:¬c) (k:wpS M A E s y Q st):wpS M A E s (if c then x else y) Q st:=by rw[Zk h];exact k
theorem qu5 {M:Model}{A:Around}{E:Value->Shared->Prop}{s:Shared}{σ α:Type}{c:Prop}[Decidable c]{x y:StateT σ Sem α}{Q:α->σ->Prop}{st:σ}(h:c->wpS M A E s x Q st) (k:¬c->wpS M A E s y Q st):wpS M A E s (if c then x else y) Q st:=
 if e:c then qc9 e (h e) else qc7 e (k e)
theorem qn8 {M:Model}{A:Around}{E:Value->Shared->Prop}{s:Shared}{σ β γ:Type}{a b:Nat}{f:Nat->β->StateT σ Sem (ForInStep β)}{k:β->StateT σ Sem γ}{Q0:γ->σ->Prop}(I:Nat->β->σ->Prop){Q:β->σ->Prop}
  (step:∀(i:Nat) (c:β) (st:σ),a<=i->i<b->I i c st->wpS M A E s (ap2 f i c) (λr st'=>match r with|ForInStep.done c'=>Q c' st'|ForInStep.yield c'=>I (i+1) c' st') st)
  (fin:∀(c:β) (st:σ),I (max a b) c st->Q c st){c:β}{st:σ}(init:I a c st) (post:∀c' st',Q c' st'->wpS M A E s (ap1 k c') Q0 st'):wpS M A E s (forIn [a:b] c f >>= k) Q0 st:=Zt (Wp (Y7 I step fin init) post)
theorem xq1 {G0:Prop}{P G:Nat->Prop}(a:(∀m,P m->G m)->G0) (b:∀m,P m->G m):G0:=a b
theorem xu7 {G0:Prop}{P G:Nat->Array Keyed->Prop}(a:(∀m o,P m o->G m o)->G0) (b:∀m o,P m o->G m o):G0:=a b
theorem Mp.last (m:Mp κ a b out ia ib) (na:0<a.size) (h2:∀j,(hj:j<b.size)->κ.klt (kv κ b[j]) (kv κ a[a.size-1])) (h:ia+1=a.size):Rd κ a b (out++b.extract ib b.size++a.extract ia a.size):=by
 show (out++b.extract ib b.size++a.extract ia a.size).toList.Perm _/\Asc κ (out++b.extract ib b.size++a.extract ia a.size).toList;rw[Z3,Z3,qH0,qH0,Ye];refine Mg.doneAB m λy hy x hx=>?_;obtain⟨i,hi,h3,rfl⟩:=qn7 hx;obtain⟨j,hj,_,rfl⟩:=qn7 hy;have:i=a.size-1:=by lia
 subst this;exact ZZ (h2 j hj)
end
def LoI (κ:KeyKind) (a b:Array Keyed) (st:SortSt) (x:Nat) (out:Array Keyed) (ia ib:Nat) (st':SortSt):Prop:=(∃g,st'=qr5 st g)/\Mp κ a b out ia ib/\ia+1<a.size/\ib<b.size/\x<=ia+ib
def LoD (κ:KeyKind) (a b:Array Keyed) (st:SortSt) (o:Option (Array Keyed)) (st':SortSt):Prop:=∃r,o=some r/\(∃g,st'=qr5 st g)/\Rd κ a b r
theorem LoI.of {κ:KeyKind}{a b out:Array Keyed}{st:SortSt}{x g ia ib:Nat}(m:Mp κ a b out ia ib) (h1:ia+1<a.size) (h2:ib<b.size) (h3:x<=ia+ib):LoI κ a b st x out ia ib (qr5 st g):=⟨⟨g,rfl⟩,m,h1,h2,h3⟩
theorem LoI.mono {κ:KeyKind}{a b out:Array Keyed}{st st':SortSt}{x y ia ib:Nat}(j:LoI κ a b st x out ia ib st') (h:y<=x):LoI κ a b st y out ia ib st':=⟨j.1,j.2.1,j.2.2.1,j.2.2.2.1,ZL h j.2.2.2.2⟩
section
variable {prog:Program}{w:World}{A:Around}{E:Value->Shared->Prop}{s:Shared}{κ:KeyKind}
theorem qS0 {kd:SortKind}(hO:KLt prog w A s κ kd){st:SortSt}{a b:Array Keyed}{Q:Array Keyed->SortSt->Prop}(hk0:kindOf st=kd) (ka:KeysOf κ a) (kb:KeysOf κ b) (sa:Asc κ a.toList) (sb:Asc κ b.toList)
  (na:0<a.size) (nb:0<b.size) (h1:κ.klt (kv κ b[0]) (kv κ a[0])) (h2:∀j,(hj:j<b.size)->κ.klt (kv κ b[j]) (kv κ a[a.size-1]))
  (h:∀out g,Rd κ a b out->Q out (qr5 st g)):wpS (model prog w) A E s (xj4 a b) Q st:=by
 have hk:∀g,kindOf (qr5 st g)=kd:=λg=>hk0;refine Zt (VI (Xk ⟨rfl,?_⟩));refine Zt (qb8 (ZN b 0 nb) ?_);have m0:Mp κ a b #[b[0]] 0 1:=by
  refine Mp.tb (out:=#[]) (ib:=0) sa ⟨by simp,by simp[Asc],by simpa using sa,by simpa using sb,by simp,by simp⟩ na nb (ZZ h1)
 by_cases e0:1=b.size
 ·exact qc9 (by simp[<- e0]) (Zz (h _ (gallopOf st) (m0.done e0)))
 refine qc7 (by simpa using e0) ?_;by_cases e1:0+1=a.size
 ·exact qc9 (by simp[<- e1]) (Zz (h _ (gallopOf st) (m0.last na h2 e1)))
 refine qc7 (by simpa using e1) ?_;refine Zt (WZ ?_);refine qn8 (I:=λx c st'=>LoI κ a b st x c.2.1 c.2.2.1 c.2.2.2.1 st') (Q:=λc st'=>LoD κ a b st c.1 st') ?step ?fin (LoI.of (g:=gallopOf st) (ia:=0) (ib:=1) m0 (by lia) (by lia) (by lia)) ?post
 case post=>
  rintro⟨c1,c2⟩ st' ⟨r,e,⟨g,rfl⟩,hr⟩;cases (show c1=some r from e);exact Zz (h r g hr)
 case fin=>
  rintro c st' ⟨_,m,y1,y2,y3⟩;lia
 case step=>
  rintro x c st' _ hx ⟨⟨g,rfl⟩,m0,y1,y2,y3⟩;refine qn8 (I:=λy c st'=>LoI κ a b st (x+y) c.2.1 c.2.2.1 c.2.2.2.1 st') (Q:=λc st'=>c.1=none/\LoI κ a b st (x+1) c.2.1 c.2.2.1 c.2.2.2.1 st'\/LoD κ a b st c.1 st') ?step ?fin (LoI.of (g:=g) m0 y1 y2 (by lia)) ?post
  case fin=>
   rintro c st' ⟨_,m,y1,y2,y3⟩;lia
  case step=>
   rintro y c st' _ hy ⟨⟨g,rfl⟩,m,y1,y2,y3⟩;refine Zt (qb8 (ZN b c.2.2.2.1 y2) ?_);refine Zt (qb8 (ZN a c.2.2.1 (by lia)) ?_);refine Zt (qz5 hO (hk g) (qr6 kb y2) (qr6 ka (by lia)) ?_);by_cases hb:κ.blt (kv κ b[c.2.2.2.1]) (kv κ (a[c.2.2.1]'(by lia)))=true
   ·refine qc9 hb ?_;refine Zt (qb8 (ZN b c.2.2.2.1 y2) ?_);have m1:=m.tb sa (by lia) y2 (ZZ hb);by_cases e1:c.2.2.2.1+1=b.size
    ·exact qc9 (by simp[e1]) (Zz (.inr ⟨_,rfl,⟨_,rfl⟩,m1.done e1⟩))
    have j:=LoI.of (st:=st) (g:=g) (x:=x+(y+1)) m1 y1 (by lia) (by lia);exact qc7 (by simp[e1]) (qu5 (λ_=>Zz (.inl ⟨rfl,j.mono (by lia)⟩)) λ_=>Zz j)
   ·refine qc7 hb ?_;refine Zt (qb8 (ZN a c.2.2.1 (by lia)) ?_);have m1:=m.ta sb (by lia) y2 (eq_false_of_ne_true hb);by_cases e1:c.2.2.1+1+1=a.size
    ·exact qc9 (by simp[e1]) (Zz (.inr ⟨_,rfl,⟨_,rfl⟩,m1.last na h2 e1⟩))
    have j:=LoI.of (st:=st) (g:=g) (x:=x+(y+1)) m1 (by lia) y2 (by lia);exact qc7 (by simp[e1]) (qu5 (λ_=>Zz (.inl ⟨rfl,j.mono (by lia)⟩)) λ_=>Zz j)
  case post=>
   rintro⟨c1,c2⟩ st' (⟨e,⟨g,rfl⟩,m,y1,y2,y3⟩|⟨r,e,hg,hr⟩)
   ·cases (show c1=none from e);refine Zt (VI (Xk ⟨rfl,?_⟩));refine qn8 (I:=λy c st'=>LoI κ a b st (x+1+y) c.2.1 c.2.2.1 c.2.2.2.1 st') (Q:=λc st'=>c.1=none/\LoI κ a b st (x+1) c.2.1 c.2.2.1 c.2.2.2.1 st'\/LoD κ a b st c.1 st') ?step ?fin (LoI.of (g:=g) m y1 y2 y3) ?post
    case fin=>
     rintro c st' ⟨_,m,y1,y2,y3⟩;lia
    case post=>
     rintro⟨c1,c2⟩ st' (⟨e,⟨g,rfl⟩,m,y1,y2,y3⟩|⟨r,e,hg,hr⟩)
     ·cases (show c1=none from e);exact Zt (XF (Zz ⟨⟨_,rfl⟩,m,y1,y2,y3⟩))
     ·cases (show c1=some r from e);exact Zz ⟨r,rfl,hg,hr⟩
    case step=>
     rintro y c st' _ hy ⟨⟨g,rfl⟩,m1,y1,y2,y3⟩;refine' xq1 (P:=λ_=>True) (G:=_) (λkey=>?ka) (λm _=>?kb)
     case ka=>
      by_cases hc:c.2.2.2.2.1>1
      case neg=>
       refine qc7 hc ?_;generalize c.2.2.2.2.1=mg;exact key mg trivial
      case pos=>exact qc9 hc (key _ trivial)
     case kb=>
      refine Zt (XF ?_);refine Zt (qb8 (ZN b c.2.2.2.1 y2) ?_);obtain⟨k,c1,c2,c3⟩:=qM9 ka sa (kv κ b[c.2.2.2.1]) (base:=c.2.2.1) (n:=a.size-c.2.2.1) (by lia);refine Zt (qi5 hO (hk m) (qr6 kb y2) c2 (by lia) c1 ?_);have lc:k<a.size-c.2.2.1:=by
       rcases Nat.lt_or_ge k (a.size-c.2.2.1) with z|z
       ·exact z
       ·have:=(c3 (a.size-1-c.2.2.1) (by lia) (by lia)).1 (by lia);have e:a[c.2.2.1+(a.size-1-c.2.2.1)]'(by lia)=a[a.size-1]:=by congr 1;lia
        rw[e] at this;exact absurd (h2 c.2.2.2.1 y2) (WR this)
      refine' xu7 (P:=λia1 out1=>∃hz:ia1+1<a.size,c.2.2.1<=ia1/\Mp κ a b out1 ia1 c.2.2.2.1/\κ.klt (kv κ (b[c.2.2.2.1]'y2)) (kv κ (a[ia1]'(by lia)))) (G:=_) (λkey=>?kc) (λia1 out1 hP=>?kd)
      case kc=>
       by_cases hc:k>0
       case neg=>
        refine qc7 hc ?_;have q2:κ.klt (kv κ b[c.2.2.2.1]) (kv κ a[c.2.2.1]):=(c3 0 (by lia) (by lia)).2 (by lia);have key':=key c.2.2.1 c.2.1 ⟨y1,Zd _,m1,q2⟩;generalize c.2.2.1=ia at key' ⊢;generalize c.2.1=out at key' ⊢;exact key'
       case pos=>
        refine qc9 hc ?_;have m2:=m1.as sb (k:=k) (by lia) y2 (λi hi hic=>(c3 i hi (by lia)).1 hic);have q2:κ.klt (kv κ b[c.2.2.2.1]) (kv κ a[c.2.2.1+k]):=(c3 k (by lia) (by lia)).2 (Zd _);by_cases e2:c.2.2.1+k+1=a.size
        ·exact qc9 (by simp[e2]) (Zz (.inr ⟨_,rfl,⟨_,rfl⟩,m2.last na h2 e2⟩))
        exact qc7 (by simp[e2]) (qc7 (by simp;lia) (key _ _ ⟨by lia,by lia,m2,q2⟩))
      case kd=>
       obtain⟨hz,vS,m2,q2⟩:=hP;refine Zt (qb8 (ZN b c.2.2.2.1 y2) ?_);have m3:=m2.tb sa (by lia) y2 (ZZ q2);by_cases e3:c.2.2.2.1+1=b.size
       ·exact qc9 (by simp[e3]) (Zz (.inr ⟨_,rfl,⟨_,rfl⟩,m3.done e3⟩))
       refine qc7 (by simp[e3]) ?_;refine Zt (qb8 (ZN a ia1 (by lia)) ?_);obtain⟨d,d1,d2,d3⟩:=qV6 kb sb (kv κ a[ia1]) (base:=c.2.2.2.1+1) (n:=b.size-(c.2.2.2.1+1)) (by lia);refine Zt (qi5 hO (hk m) (qr6 ka (by lia)) d2 (by lia) d1 ?_);by_cases hd:d>0
       case' neg=>
        refine qc7 hd ?_;have m4:=m3;have q4:κ.kle (kv κ a[ia1]) (kv κ b[c.2.2.2.1+1]):=(d3 0 (by lia) (by lia)).2 (by lia)
       case' pos=>
        refine qc9 hd ?_;have m4:=m3.bs sa (k:=d) (by lia) (by lia) (λi hi hid=>ZZ ((d3 i hi (by lia)).1 hid));by_cases e4:c.2.2.2.1+1+d=b.size
        ·exact qc9 (by simp[e4]) (Zz (.inr ⟨_,rfl,⟨_,rfl⟩,m4.done e4⟩))
        refine qc7 (by simp[e4]) ?_;have q4:κ.kle (kv κ a[ia1]) (kv κ b[c.2.2.2.1+1+d]):=(d3 d (by lia) (by lia)).2 (Zd _)
       all_goals
        refine Zt (qb8 (ZN a ia1 (by lia)) ?_);have m5:=m4.ta sb (by lia) (by lia) q4;by_cases e5:ia1+1+1=a.size
        ·exact qc9 (by simp[e5]) (Zz (.inr ⟨_,rfl,⟨_,rfl⟩,m5.last na h2 e5⟩))
        have j:=LoI.of (st:=st) (g:=m) (x:=x+1+(y+1)) m5 (by lia) (by lia) (by lia);exact qc7 (by simp[e5]) (qu5 (λ_=>Zz (.inl ⟨rfl,j.mono (by lia)⟩)) λ_=>Zz j)
   ·cases (show c1=some r from e);exact Zz ⟨r,rfl,hg,hr⟩
end
def xj5:Array Keyed->Array Keyed->StateT SortSt Sem (Array Keyed):=sortPriv% PySem.Builtin.mergeHi
def xu8 (κ:KeyKind):KeyKind where
 α:=κ.α
 blt:=λa b=>κ.blt b a
 irrefl:=κ.irrefl
 trans:=λa b c h1 h2=>κ.trans _ _ _ h2 h1
 negTrans:=λa b c h=>(κ.negTrans _ b _ h).symm
 total:=λa b h1 h2=>κ.total _ _ h2 h1
 keyOf:=κ.keyOf
 dflt:=κ.dflt
theorem qV8 {κ:KeyKind}{l:List Keyed}(h:Asc (xu8 κ) l):Asc κ l.reverse:=List.pairwise_reverse.mpr h
theorem qN0 {κ:KeyKind}{l:List Keyed}(h:Asc κ l):Asc (xu8 κ) l.reverse:=List.pairwise_reverse.mpr h
theorem q91 {a:Array Keyed}{n:Nat}(h:n<a.size):(a.toList.take (n+1)).reverse=a[n]::(a.toList.take n).reverse:=by
 rw[Xw (by simpa using h),XI];simp
theorem qn9 {a:Array Keyed}{n:Nat}{x:Keyed}(h:x∈(a.toList.take n).reverse):∃j,∃hj:j<a.size,j<n/\a[j]=x:=by
 obtain⟨k,hk,e⟩:=YC (List.mem_reverse.mp h);have hk':k<n/\k<a.size:=by simp at hk;lia
 exact⟨k,hk'.2,hk'.1,by rw[<- e];simp⟩
theorem qV9 {a:Array Keyed}{i n:Nat}(h:i<=n) (hn:n<=a.size):(a.toList.take n).reverse=(a.extract i n).reverse.toList++(a.toList.take i).reverse:=by
 rw[Wc,Xv,List.extract_eq_drop_take,<- XI,<- List.take_add,show i+(n-i)=n by lia]
theorem qW0 {a:Array Keyed}{i n:Nat}(hn:n<=a.size){x:Keyed}(hx:x∈(a.extract i n).reverse.toList):∃j,∃hj:j<a.size,i<=j/\j<n/\a[j]=x:=by
 rw[Wc] at hx;obtain⟨j,hj,e⟩:=YC (List.mem_reverse.mp hx);have hj':i+j<n:=by simp at hj;lia
 exact⟨i+j,by lia,by lia,hj',by rw[<- e];simp⟩
theorem qH1 {a:Array Keyed}{n:Nat}:(a.extract 0 n).toList=a.toList.take n:=by
 rw[Xv,List.extract_eq_drop_take];simp
def Hp (κ:KeyKind) (a b out:Array Keyed) (na nb:Nat):Prop:=Mg (xu8 κ) (a.toList++b.toList) out.toList (a.toList.take na).reverse (b.toList.take nb).reverse
section
variable {κ:KeyKind}{a b out:Array Keyed}{na nb:Nat}
theorem Hp.ta (m:Hp κ a b out (na+1) nb) (hna:na<a.size) (h:∀j,(hj:j<b.size)->j<nb->κ.kle (kv κ b[j]) (kv κ a[na])):Hp κ a b (out.push a[na]) na nb:=by
 unfold Hp at m ⊢;rw[q91 hna] at m;rw[X2];refine m.takeA λy hy=>?_;obtain⟨j,hj,h1,rfl⟩:=qn9 hy;exact h j hj h1
theorem Hp.tb (m:Hp κ a b out na (nb+1)) (hnb:nb<b.size) (h:∀j,(hj:j<a.size)->j<na->κ.kle (kv κ a[j]) (kv κ b[nb])):Hp κ a b (out.push b[nb]) na nb:=by
 unfold Hp at m ⊢;rw[q91 hnb] at m;rw[X2];refine m.takeB λy hy=>?_;obtain⟨j,hj,h1,rfl⟩:=qn9 hy;exact h j hj h1
theorem Hp.as (m:Hp κ a b out na nb){k:Nat}(hk:k<=na) (hna:na<=a.size) (h:∀i j,(hi:i<a.size)->(hj:j<b.size)->k<=i->i<na->j<nb->κ.kle (kv κ b[j]) (kv κ a[i])):Hp κ a b (out++(a.extract k na).reverse) k nb:=by
 unfold Hp at m ⊢;rw[qV9 hk hna] at m;rw[Z3];refine m.takesA λx hx y hy=>?_;obtain⟨i,hi,wR,jJ,rfl⟩:=qW0 hna hx;obtain⟨j,hj,h1,rfl⟩:=qn9 hy;exact h i j hi hj wR jJ h1
theorem Hp.bs (m:Hp κ a b out na nb){k:Nat}(hk:k<=nb) (hnb:nb<=b.size) (h:∀i j,(hi:i<b.size)->(hj:j<a.size)->k<=i->i<nb->j<na->κ.kle (kv κ a[j]) (kv κ b[i])):Hp κ a b (out++(b.extract k nb).reverse) na k:=by
 unfold Hp at m ⊢;rw[qV9 hk hnb] at m;rw[Z3];refine m.takesB λx hx y hy=>?_;obtain⟨i,hi,wR,jJ,rfl⟩:=qW0 hnb hx;obtain⟨j,hj,h1,rfl⟩:=qn9 hy;exact h i j hi hj wR jJ h1
theorem Hp.done (m:Hp κ a b out na nb) (h:na=0):Rd κ a b (a.extract 0 na++b.extract 0 nb++out.reverse):=by
 unfold Hp at m;subst h;have e:=m.swap.doneB;have z:(a.extract 0 0++b.extract 0 nb++out.reverse).toList=(out.toList++(b.toList.take nb).reverse).reverse:=by
  rw[Z3,Z3,qH1,qH1,Wc,XI];simp
 show (a.extract 0 0++b.extract 0 nb++out.reverse).toList.Perm _/\Asc κ (a.extract 0 0++b.extract 0 nb++out.reverse).toList;rw[z];exact⟨(WL _).trans e.1,qV8 e.2⟩
theorem Hp.first (m:Hp κ a b out na nb) (sa:Asc κ a.toList) (ha:0<a.size) (hb:0<b.size) (h1:κ.klt (kv κ b[0]) (kv κ a[0])) (h:nb=1):Rd κ a b (b.extract 0 nb++a.extract 0 na++out.reverse):=by
 unfold Hp at m;subst h;have e:=m.swap.doneAB λy hy x hx=>by
  obtain⟨i,hi,_,rfl⟩:=qn9 hy;obtain⟨j,hj,h3,rfl⟩:=qn9 hx;have:j=0:=by lia
  subst this;have q:κ.kle (kv κ b[0]) (kv κ a[i]):=ZS (ZZ h1) (qk4 sa (ZE i) hi);exact q
 have z:(b.extract 0 1++a.extract 0 na++out.reverse).toList=(out.toList++((a.toList.take na).reverse++(b.toList.take 1).reverse)).reverse:=by
  rw[Z3,Z3,qH1,qH1,Wc,XI,XI];simp
 show (b.extract 0 1++a.extract 0 na++out.reverse).toList.Perm _/\Asc κ (b.extract 0 1++a.extract 0 na++out.reverse).toList;rw[z];exact⟨(WL _).trans e.1,qV8 e.2⟩
end
theorem Hp.ta' {κ:KeyKind}{a b out:Array Keyed}{na nb:Nat}(sb:Asc κ b.toList) (m:Hp κ a b out na nb) (h0:0<na) (hna:na<=a.size) (h1:0<nb) (hnb:nb<=b.size) (h:κ.kle (kv κ (b[nb-1]'(by lia))) (kv κ (a[na-1]'(by lia)))):Hp κ a b (out.push (a[na-1]'(by lia))) (na-1) nb:=by
 refine Hp.ta (na:=na-1) (by rw[show na-1+1=na by lia];exact m) (by lia) λj hj hn=>?_;exact ZS (qk4 sb (show j<=nb-1 by lia) (by lia)) h
theorem Hp.tb' {κ:KeyKind}{a b out:Array Keyed}{na nb:Nat}(sa:Asc κ a.toList) (m:Hp κ a b out na nb) (h0:0<na) (hna:na<=a.size) (h1:0<nb) (hnb:nb<=b.size) (h:κ.kle (kv κ (a[na-1]'(by lia))) (kv κ (b[nb-1]'(by lia)))):Hp κ a b (out.push (b[nb-1]'(by lia))) na (nb-1):=by
 refine Hp.tb (nb:=nb-1) (by rw[show nb-1+1=nb by lia];exact m) (by lia) λj hj hn=>?_;exact ZS (qk4 sa (show j<=na-1 by lia) (by lia)) h
theorem xu9 {G0:Prop}{P:Nat->Array Keyed->Prop}{G:Nat->Array Keyed->Nat->Prop}(a:(∀m o c,P m o->G m o c)->G0) (b:∀m o c,P m o->G m o c):G0:=a b
def HiI (κ:KeyKind) (a b:Array Keyed) (st:SortSt) (x na nb:Nat) (out:Array Keyed) (st':SortSt):Prop:=(∃g,st'=qr5 st g)/\Hp κ a b out na nb/\0<na/\na<=a.size/\1<nb/\nb<=b.size/\x+na+nb<=a.size+b.size
theorem HiI.of {κ:KeyKind}{a b out:Array Keyed}{st:SortSt}{x g na nb:Nat}(m:Hp κ a b out na nb) (h1:0<na) (h2:na<=a.size) (h3:1<nb) (h4:nb<=b.size) (h5:x+na+nb<=a.size+b.size):HiI κ a b st x na nb out (qr5 st g):=⟨⟨g,rfl⟩,m,h1,h2,h3,h4,h5⟩
theorem HiI.mono {κ:KeyKind}{a b out:Array Keyed}{st st':SortSt}{x y na nb:Nat}(j:HiI κ a b st x na nb out st') (h:y<=x):HiI κ a b st y na nb out st':=by
 obtain⟨j1,j2,j3,j4,j5,j6,j7⟩:=j;exact⟨j1,j2,j3,j4,j5,j6,by lia⟩
section
variable {prog:Program}{w:World}{A:Around}{E:Value->Shared->Prop}{s:Shared}{κ:KeyKind}
theorem qS1 {kd:SortKind}(hO:KLt prog w A s κ kd){st:SortSt}{a b:Array Keyed}{Q:Array Keyed->SortSt->Prop}(hk0:kindOf st=kd) (ka:KeysOf κ a) (kb:KeysOf κ b) (sa:Asc κ a.toList) (sb:Asc κ b.toList)
  (pa:0<a.size) (pb:0<b.size) (h1:κ.klt (kv κ b[0]) (kv κ a[0])) (h2:∀j,(hj:j<b.size)->κ.klt (kv κ b[j]) (kv κ a[a.size-1]))
  (h:∀out g,Rd κ a b out->Q out (qr5 st g)):wpS (model prog w) A E s (xj5 a b) Q st:=by
 have hk:∀g,kindOf (qr5 st g)=kd:=λg=>hk0;have bq:∀{i j:Nat},i=j->(i==j)=true:=λe=>Y1.mpr e;have bn:∀{i j:Nat},i≠j->¬(i==j)=true:=λe z=>e (Y1.mp z);refine Zt (VI (Xk ⟨rfl,?_⟩));refine Zt (qb8 (ZN a (a.size-1) (by lia)) ?_);have m0:Hp κ a b #[a[a.size-1]] (a.size-1) b.size:=by
  refine Hp.ta' (out:=#[]) sb ⟨by simp only[Array.toList_empty,List.nil_append];rw[YA (by simp),YA (by simp)];exact (WL _).append (WL _),by simp[Asc],?_,?_,by simp,by simp⟩ pa (Zd _) pb (Zd _) (ZZ (h2 _ (by lia)))
  ·rw[YA (by simp)];exact qN0 sa
  ·rw[YA (by simp)];exact qN0 sb
 by_cases e0:a.size-1=0
 ·exact qc9 (bq e0) (Zz (h _ (gallopOf st) (m0.done e0)))
 refine qc7 (bn e0) ?_;by_cases e1:b.size=1
 ·exact qc9 (bq e1) (Zz (h _ (gallopOf st) (m0.first sa pa pb h1 e1)))
 refine qc7 (bn e1) ?_;refine Zt (WZ ?_);refine qn8 (I:=λx c st'=>HiI κ a b st x c.2.1 c.2.2.1 c.2.2.2.1 st') (Q:=λc st'=>LoD κ a b st c.1 st') ?step ?fin (HiI.of (g:=gallopOf st) (na:=a.size-1) (nb:=b.size) m0 (by lia) (by lia) (by lia) (by lia) (by lia)) ?post
 case post=>
  rintro⟨c1,c2⟩ st' ⟨r,e,⟨g,rfl⟩,hr⟩;cases (show c1=some r from e);exact Zz (h r g hr)
 case fin=>
  rintro c st' ⟨_,m,y1,y2,y3,y4,y5⟩;lia
 case step=>
  rintro x c st' _ hx ⟨⟨g,rfl⟩,m0,y1,y2,y3,y4,y5⟩;refine qn8 (I:=λy c st'=>HiI κ a b st (x+y) c.2.1 c.2.2.1 c.2.2.2.1 st') (Q:=λc st'=>c.1=none/\HiI κ a b st (x+1) c.2.1 c.2.2.1 c.2.2.2.1 st'\/LoD κ a b st c.1 st') ?step ?fin (HiI.of (g:=g) m0 y1 y2 y3 y4 (by lia)) ?post
  case fin=>
   rintro c st' ⟨_,m,y1,y2,y3,y4,y5⟩;lia
  case step=>
   rintro y c st' _ hy ⟨⟨g,rfl⟩,m,y1,y2,y3,y4,y5⟩;refine Zt (qb8 (ZN b (c.2.2.1-1) (by lia)) ?_);refine Zt (qb8 (ZN a (c.2.1-1) (by lia)) ?_);refine Zt (qz5 hO (hk g) (qr6 kb (by lia)) (qr6 ka (by lia)) ?_);by_cases hb:κ.blt (kv κ (b[c.2.2.1-1]'(by lia))) (kv κ (a[c.2.1-1]'(by lia)))=true
   ·refine qc9 hb ?_;refine Zt (qb8 (ZN a (c.2.1-1) (by lia)) ?_);have m1:=m.ta' sb y1 y2 (by lia) y4 (ZZ hb);by_cases e1:c.2.1-1=0
    ·exact qc9 (bq e1) (Zz (.inr ⟨_,rfl,⟨_,rfl⟩,m1.done e1⟩))
    have j:=HiI.of (st:=st) (g:=g) (x:=x+(y+1)) m1 (by lia) (by lia) y3 y4 (by lia);exact qc7 (bn e1) (qu5 (λ_=>Zz (.inl ⟨rfl,j.mono (by lia)⟩)) λ_=>Zz j)
   ·refine qc7 hb ?_;refine Zt (qb8 (ZN b (c.2.2.1-1) (by lia)) ?_);have m1:=m.tb' sa y1 y2 (by lia) y4 (eq_false_of_ne_true hb);by_cases e1:c.2.2.1-1=1
    ·exact qc9 (bq e1) (Zz (.inr ⟨_,rfl,⟨_,rfl⟩,m1.first sa pa pb h1 e1⟩))
    have j:=HiI.of (st:=st) (g:=g) (x:=x+(y+1)) m1 y1 y2 (by lia) (by lia) (by lia);exact qc7 (bn e1) (qu5 (λ_=>Zz (.inl ⟨rfl,j.mono (by lia)⟩)) λ_=>Zz j)
  case post=>
   rintro⟨c1,c2⟩ st' (⟨e,⟨g,rfl⟩,m,y1,y2,y3,y4,y5⟩|⟨r,e,hg,hr⟩)
   ·cases (show c1=none from e);refine Zt (VI (Xk ⟨rfl,?_⟩));refine qn8 (I:=λy c st'=>HiI κ a b st (x+1+y) c.2.1 c.2.2.1 c.2.2.2.1 st') (Q:=λc st'=>c.1=none/\HiI κ a b st (x+1) c.2.1 c.2.2.1 c.2.2.2.1 st'\/LoD κ a b st c.1 st') ?step ?fin (HiI.of (g:=g) m y1 y2 y3 y4 y5) ?post
    case fin=>
     rintro c st' ⟨_,m,y1,y2,y3,y4,y5⟩;lia
    case post=>
     rintro⟨c1,c2⟩ st' (⟨e,⟨g,rfl⟩,m,y1,y2,y3,y4,y5⟩|⟨r,e,hg,hr⟩)
     ·cases (show c1=none from e);exact Zt (XF (Zz ⟨⟨_,rfl⟩,m,y1,y2,y3,y4,y5⟩))
     ·cases (show c1=some r from e);exact Zz ⟨r,rfl,hg,hr⟩
    case step=>
     rintro y c st' _ hy ⟨⟨g,rfl⟩,m1,y1,y2,y3,y4,y5⟩;refine' xq1 (P:=λ_=>True) (G:=_) (λkey=>?ka) (λm _=>?kb)
     case ka=>
      by_cases hc:c.2.2.2.2.1>1
      case neg=>
       refine qc7 hc ?_;generalize c.2.2.2.2.1=mg;exact key mg trivial
      case pos=>exact qc9 hc (key _ trivial)
     case kb=>
      refine Zt (XF ?_);refine Zt (qb8 (ZN b (c.2.2.1-1) (by lia)) ?_);obtain⟨k,c1,c2,c0⟩:=qM9 ka sa (kv κ (b[c.2.2.1-1]'(by lia))) (base:=0) (n:=c.2.1) (by lia);have c3:∀i,(hi:i<a.size)->i<c.2.1->(i<k->κ.kle (kv κ a[i]) (kv κ (b[c.2.2.1-1]'(by lia))))/\(k<=i->κ.klt (kv κ (b[c.2.2.1-1]'(by lia))) (kv κ a[i])):=λi hi hn=>by
       have:=c0 i (by lia) hn;simp only[WM] at this;exact this
      refine Zt (qi5 hO (hk m) (qr6 kb (by lia)) c2 (by lia) c1 ?_);refine' xu9 (P:=λna1 out1=>∃hz:0<na1/\na1<=c.2.1,Hp κ a b out1 na1 c.2.2.1/\κ.kle (kv κ (a[na1-1]'(by lia))) (kv κ (b[c.2.2.1-1]'(by lia)))) (G:=_) (λkey=>?kc) (λna1 out1 cn hP=>?kd)
      case kc=>
       by_cases hc:c.2.1-k>0
       case neg=>
        refine qc7 hc ?_;have q2:κ.kle (kv κ (a[c.2.1-1]'(by lia))) (kv κ (b[c.2.2.1-1]'(by lia))):=(c3 (c.2.1-1) (by lia) (by lia)).1 (by lia);have key':=key c.2.1 c.2.2.2.1 (c.2.1-k) ⟨⟨y1,Zd _⟩,m1,q2⟩;generalize c.2.1-k=cn at key' ⊢;generalize c.2.1=na at key' ⊢;generalize c.2.2.2.1=out at key' ⊢;exact key'
       case pos=>
        refine qc9 hc ?_;have m2:=m1.as (k:=k) (by lia) (by lia) (λi j hi hj z1 z2 z3=>ZS (qk4 sb (show j<=c.2.2.1-1 by lia) (by lia)) (ZZ ((c3 i hi z2).2 z1)));by_cases e2:k=0
        ·exact qc9 (bq e2) (Zz (.inr ⟨_,rfl,⟨_,rfl⟩,m2.done e2⟩))
        have q2:κ.kle (kv κ (a[k-1]'(by lia))) (kv κ (b[c.2.2.1-1]'(by lia))):=(c3 (k-1) (by lia) (by lia)).1 (by lia);exact qc7 (bn e2) (key k _ (c.2.1-k) ⟨⟨by lia,by lia⟩,m2,q2⟩)
      case kd=>
       obtain⟨hz,m2,q2⟩:=hP;refine Zt (qb8 (ZN b (c.2.2.1-1) (by lia)) ?_);have m3:=m2.tb' sa (by lia) (by lia) (by lia) (by lia) q2;by_cases e3:c.2.2.1-1=1
       ·exact qc9 (bq e3) (Zz (.inr ⟨_,rfl,⟨_,rfl⟩,m3.first sa pa pb h1 e3⟩))
       refine qc7 (bn e3) ?_;refine Zt (qb8 (ZN a (na1-1) (by lia)) ?_);obtain⟨d,d1,d2,d0⟩:=qV6 kb sb (kv κ (a[na1-1]'(by lia))) (base:=0) (n:=c.2.2.1-1) (by lia);have d3:∀i,(hi:i<b.size)->i<c.2.2.1-1->(i<d->κ.klt (kv κ b[i]) (kv κ (a[na1-1]'(by lia))))/\(d<=i->κ.kle (kv κ (a[na1-1]'(by lia))) (kv κ b[i])):=λi hi hn=>by
        have:=d0 i (by lia) hn;simp only[WM] at this;exact this
       refine Zt (qi5 hO (hk m) (qr6 ka (by lia)) d2 (by lia) d1 ?_);have ld:0<d:=by
        rcases Nat.eq_zero_or_pos d with z|z
        ·have:=(d3 0 (by lia) (by lia)).2 (by lia);exact absurd (Wq h1 (qk4 sa (ZE (na1-1)) (by lia))) (WR this)
        ·exact z
       by_cases hd:c.2.2.1-1-d>0
       case' neg=>
        refine qc7 hd ?_;have m4:=m3;have q4:κ.klt (kv κ (b[c.2.2.1-1-1]'(by lia))) (kv κ (a[na1-1]'(by lia))):=(d3 (c.2.2.1-1-1) (by lia) (by lia)).1 (by lia)
       case' pos=>
        refine qc9 hd ?_;have m4:=m3.bs (k:=d) (by lia) (by lia) (λi j hi hj c1 c2 c3=>ZS (qk4 sa (show j<=na1-1 by lia) (by lia)) ((d3 i hi (by lia)).2 c1));by_cases e4:d=1
        ·exact qc9 (bq e4) (Zz (.inr ⟨_,rfl,⟨_,rfl⟩,m4.first sa pa pb h1 e4⟩))
        refine qc7 (bn e4) (qc7 (bn (show d≠0 by lia)) ?_);have q4:κ.klt (kv κ (b[d-1]'(by lia))) (kv κ (a[na1-1]'(by lia))):=(d3 (d-1) (by lia) (by lia)).1 (by lia)
       all_goals
        refine Zt (qb8 (ZN a (na1-1) (by lia)) ?_);have m5:=m4.ta' sb (by lia) (by lia) (by lia) (by lia) (ZZ q4);by_cases e5:na1-1=0
        ·exact qc9 (bq e5) (Zz (.inr ⟨_,rfl,⟨_,rfl⟩,m5.done e5⟩))
        have j:=HiI.of (st:=st) (g:=m) (x:=x+1+(y+1)) m5 (by lia) (by lia) (by lia) (by lia) (by lia);exact qc7 (bn e5) (qu5 (λ_=>Zz (.inl ⟨rfl,j.mono (by lia)⟩)) λ_=>Zz j)
   ·cases (show c1=some r from e);exact Zz ⟨r,rfl,hg,hr⟩
end
theorem qz6 {κ:KeyKind}{a:Array Keyed}{i:Nat}(h:i<a.size):KK κ a i=kv κ a[i]:=by unfold KK kv;rw[ZN a _ h]
theorem q15 {κ:KeyKind}{a:Array Keyed}(ka:KeysOf κ a){base n:Nat}(sa:SrtK κ a base (base+n)) (k:κ.α) (hn:base+n<=a.size) :
  ∃c,c<=n/\(∀i,i<n->∃x y,a[base+i]?=some x/\κ.keyOf x.1=some y/\asks false k y=decide (i<c))/\∀i,i<n->(i<c->κ.kle (KK κ a (base+i)) k)/\(c<=i->κ.klt k (KK κ a (base+i))):=by
 obtain⟨c,c1,c2⟩:=qM8 (p:=λi=>!κ.blt k (KK κ a (base+i))) n (λi j jT hj e=>by
  simp only[Xu] at e ⊢;exact ZS (sa (base+i) (base+j) (by lia) (by lia) (by lia)) e)
 refine⟨c,c1,λi hi=>⟨_,_,ZN a _ (by lia),qr6 ka (by lia),?_⟩,λi hi=>⟨λhc=>?_,λhc=>?_⟩⟩
 ·rw[<- c2 i hi,qz6 (by lia)];rfl
 ·have e:=c2 i hi;rw[Zl hc] at e;exact (Xu _).mp e
 ·have e:=c2 i hi;rw[Zq (by lia)] at e;exact (Bool.not_eq_false' _).mp e
theorem q92 {κ:KeyKind}{a:Array Keyed}(ka:KeysOf κ a){base n:Nat}(sa:SrtK κ a base (base+n)) (k:κ.α) (hn:base+n<=a.size) :
  ∃c,c<=n/\(∀i,i<n->∃x y,a[base+i]?=some x/\κ.keyOf x.1=some y/\asks true k y=decide (i<c))/\∀i,i<n->(i<c->κ.klt (KK κ a (base+i)) k)/\(c<=i->κ.kle k (KK κ a (base+i))):=by
 obtain⟨c,c1,c2⟩:=qM8 (p:=λi=>κ.blt (KK κ a (base+i)) k) n (λi j jT hj e=>KeyOrd.klt_of_kle_of_klt (sa (base+i) (base+j) (by lia) (by lia) (by lia)) e);refine⟨c,c1,λi hi=>⟨_,_,ZN a _ (by lia),qr6 ka (by lia),?_⟩,λi hi=>⟨λhc=>?_,λhc=>?_⟩⟩
 ·rw[<- c2 i hi,qz6 (by lia)];rfl
 ·have e:=c2 i hi;rw[Zl hc] at e;exact e
 ·have e:=c2 i hi;rw[Zq (by lia)] at e;exact e
def qg4 (xs:Array Keyed) (lo:Nat) (l:List (Keyed×Nat)):Array Keyed:=l.foldl (λa x=>a.setIfInBounds (lo+x.2) x.1) xs
theorem qp7 (lo k:Nat):∀(l:List Keyed) (o:Nat) (xs:Array Keyed),lo+o+l.length<=xs.size->(qg4 xs lo (l.zipIdx o)).size=xs.size/\(qg4 xs lo (l.zipIdx o))[k]?=if lo+o<=k/\k<lo+o+l.length then l[k-(lo+o)]? else xs[k]?
 |[],o,xs,_=>⟨rfl,by rw[Zk (by simp)];rfl⟩
 |p::l,o,xs,h=>by
  have h':lo+(o+1)+l.length<=(xs.setIfInBounds (lo+o) p).size:=by simp at h ⊢;lia
  obtain⟨i1,i2⟩:=qp7 lo k l (o+1) (xs.setIfInBounds (lo+o) p) h';have e:qg4 xs lo ((p::l).zipIdx o)=qg4 (xs.setIfInBounds (lo+o) p) lo (l.zipIdx (o+1)):=rfl;rw[e];refine⟨by rw[i1];simp,?_⟩;rw[i2];simp only[ZJ] at h ⊢;by_cases c1:k=lo+o
  ·subst c1;rw[Zk (by lia),Zp (by lia),Wh];rw[Yo];simp;lia
  ·by_cases c2:lo+o<=k/\k<lo+o+(l.length+1)
   ·rw[Zp (by lia),Zp c2];rw[show k-(lo+o)=(k-(lo+(o+1)))+1 by lia];simp
   ·rw[Zk (by lia),Zk c2,Yo,Zk (by lia)]
theorem qN1 {xs m:Array Keyed}{lo:Nat}(h:lo+m.size<=xs.size):(qg4 xs lo m.toList.zipIdx).toList=xs.toList.take lo++(m.toList++xs.toList.drop (lo+m.size)):=by
 apply Xc;intro k;have g:=(qp7 lo k m.toList 0 xs (by simpa using h)).2;rw[Z9,g];simp only[Vk,ZT];by_cases c1:k<lo
 ·rw[Zk (by lia),Zh (by simp;lia),YH c1];simp
 ·have el:(xs.toList.take lo).length=lo:=by simp;lia
  rw[Zi (by lia),el];by_cases c2:k<lo+m.size
  ·rw[Zp (by lia),Zh (by simp;lia)]
  ·rw[Zk (by lia),Zi (by simp;lia),Vs];simp only[ZT];rw[show lo+m.size+(k-lo-m.size)=k by lia];simp
theorem qH2 {a:Array Keyed}{i j:Nat}:(a.extract i j).toList=(a.toList.drop i).take (j-i):=by
 rw[Xv,List.extract_eq_drop_take]
theorem q93 {κ:KeyKind}{a:Array Keyed}{lo hi:Nat}(h:SrtK κ a lo hi) (hs:hi<=a.size):Asc κ (a.extract lo hi).toList:=by
 refine YX.mpr λi j hi' hj jT=>?_;simp at hi' hj;have:=h (lo+i) (lo+j) (by lia) (by lia) (by lia);rw[qz6 (by lia),qz6 (by lia)] at this;simpa using this
theorem qw7 {κ:KeyKind}{a:Array Keyed}(h:KeysOf κ a) (lo hi:Nat):KeysOf κ (a.extract lo hi):=λp hp=>by
 rw[qH2] at hp;exact h p (List.mem_of_mem_drop (W2 hp))
section
variable {prog:Program}{w:World}{A:Around}{E:Value->Shared->Prop}{s:Shared}{κ:KeyKind}
theorem xv0 {Q:PUnit->SortSt->Prop}{st st':SortSt}(h:Q ⟨⟩ st'):wpS (model prog w) A E s (set st':StateT SortSt Sem PUnit) Q st:=by
 unfold wpS;rw[StateT.run_set];exact Zg ⟨rfl,h⟩
structure Mrg (κ:KeyKind) (st st':SortSt) (i sa na pw nb:Nat):Prop where
 perm:(arrOf st').Perm (arrOf st)
 kind:kindOf st'=kindOf st
 fail:failedOf st'=failedOf st
 out:∀k:Nat,k<sa\/sa+na+nb<=k->(arrOf st')[k]?=(arrOf st)[k]?
 srt:SrtK κ (arrOf st') sa (sa+na+nb)
 pend:pendingOf st'=((pendingOf st).setIfInBounds i (sa,na+nb,pw)).eraseIdxIfInBounds (i+1)
theorem q94 {a m:Array Keyed}{sa na nb k d:Nat}(s1:SrtK κ a sa (sa+na)) (s2:SrtK κ a (sa+na) (sa+na+nb)) (hsz:sa+na+nb<=a.size) (hk:k<na) (hd:d<=nb) (pnb:0<nb)
  (g1:∀i,i<na->i<k->κ.kle (KK κ a (sa+i)) (KK κ a (sa+na))) (g2:∀i,i<nb->d<=i->κ.kle (KK κ a (sa+na-1)) (KK κ a (sa+na+i)))
  (r:Rd κ (a.extract (sa+k) (sa+na)) (a.extract (sa+na) (sa+na+d)) m) :
  (qg4 a (sa+k) m.toList.zipIdx).Perm a/\(∀j:Nat,j<sa\/sa+na+nb<=j->(qg4 a (sa+k) m.toList.zipIdx)[j]?=a[j]?)/\SrtK κ (qg4 a (sa+k) m.toList.zipIdx) sa (sa+na+nb):=by
 have hm:m.size=na-k+d:=by
  have:=r.1.length_eq;simp at this;lia
 have cat:(a.extract (sa+k) (sa+na)).toList++(a.extract (sa+na) (sa+na+d)).toList=(a.toList.drop (sa+k)).take (na-k+d):=by
  rw[qH2,qH2,show sa+na-(sa+k)=na-k by lia,show sa+na+d-(sa+na)=d by lia,List.take_add,VU,show sa+k+(na-k)=sa+na by lia]
 have get:=λj=>(qp7 (sa+k) j m.toList 0 a (by simp;lia)).2;simp only[Vk,ZT] at get;have p:(qg4 a (sa+k) m.toList.zipIdx).Perm a:=by
  refine Wa.mpr ?_;rw[qN1 (by lia)];have e:a.toList=a.toList.take (sa+k)++((a.toList.drop (sa+k)).take (na-k+d)++a.toList.drop (sa+k+m.size)):=by
   rw[hm,<- VU (i:=na-k+d) (j:=sa+k),YF,YF]
  conv=>rhs;rw[e]
  refine List.Perm.append_left _ (List.Perm.append_right _ ?_);rw[<- cat];exact r.1
 refine⟨p,λj hj=>?_,?_⟩
 ·rw[get j,Zk (by lia)]
 ·have low:∀j,j<sa+k\/sa+na+d<=j->KK κ (qg4 a (sa+k) m.toList.zipIdx) j=KK κ a j:=λj hj=>KK_congr (by rw[get j,Zk (by lia)]);have mid:∀j,sa+k<=j->(hj:j<sa+na+d)->KK κ (qg4 a (sa+k) m.toList.zipIdx) j=kv κ (m[j-(sa+k)]'(by lia)):=λj h1 h2=>by
   unfold KK kv;rw[get j,Zp (by lia),Z9,ZN m _ (by lia)]
  have src:∀j,sa+k<=j->j<sa+na+d->∃i,sa+k<=i/\i<sa+na+d/\KK κ (qg4 a (sa+k) m.toList.zipIdx) j=KK κ a i:=λj h1 h2=>by
   rw[mid j h1 h2];have me:m[j-(sa+k)]'(by lia)∈(a.toList.drop (sa+k)).take (na-k+d):=by
    rw[<- cat];exact r.1.mem_iff.mp (by simp)
   obtain⟨i,hi,e⟩:=YC me;simp at hi;refine⟨sa+k+i,by lia,by lia,?_⟩;rw[qz6 (by lia),<- e];simp
  have last:∀i,sa<=i->i<sa+na->κ.kle (KK κ a i) (KK κ a (sa+na-1)):=λi h1 h2=>s1 i (sa+na-1) h1 (by lia) (by lia);intro i j h1 h2 h3;by_cases ci:i<sa+k
  ·rw[low i (.inl ci)];have gi:κ.kle (KK κ a i) (KK κ a (sa+na)):=by
    have:=g1 (i-sa) (by lia) (by lia)
    rwa [show sa+(i-sa)=i by lia] at this
   by_cases cj:j<sa+k\/sa+na+d<=j
   ·rw[low j cj];by_cases c:j<sa+na
    ·exact s1 i j h1 h2 c
    ·exact ZS gi (s2 (sa+na) j (Zd _) (by lia) (by lia))
   ·obtain⟨q,q1,q2,q3⟩:=src j (by lia) (by lia);rw[q3];by_cases c:q<sa+na
    ·exact s1 i q h1 (by lia) c
    ·exact ZS gi (s2 (sa+na) q (Zd _) (by lia) (by lia))
  ·by_cases ci2:i<sa+na+d
   ·by_cases cj:j<sa+na+d
    ·rw[mid i (by lia) ci2,mid j (by lia) cj];exact qk4 r.2 (by lia) (by lia)
    ·obtain⟨q,q1,q2,q3⟩:=src i (by lia) ci2;rw[q3,low j (.inr (by lia))];by_cases c:q<sa+na
     ·have:=g2 (j-(sa+na)) (by lia) (by lia);rw[show sa+na+(j-(sa+na))=j by lia] at this;exact ZS (last q (by lia) c) this
     ·exact s2 q j (by lia) (by lia) (by lia)
   ·rw[low i (.inr (by lia)),low j (.inr (by lia))];exact s2 i j (by lia) h2 h3
theorem qS2 {kd:SortKind}(hO:KLt prog w A s κ kd){st:SortSt}{i sa na pw nb pw2:Nat}{Q:Bool->SortSt->Prop}(hk:kindOf st=kd) (h0:KeysOf κ (arrOf st)) (hf:failedOf st=none)
  (p1:(pendingOf st)[i]?=some (sa,na,pw)) (p2:(pendingOf st)[i+1]?=some (sa+na,nb,pw2)) (pna:0<na) (pnb:0<nb) (hsz:sa+na+nb<=(arrOf st).size)
  (s1:SrtK κ (arrOf st) sa (sa+na)) (s2:SrtK κ (arrOf st) (sa+na) (sa+na+nb)) (h:∀st',Mrg κ st st' i sa na pw nb->Q true st'):wpS (model prog w) A E s (mergeAt' i) Q st:=by
 refine Zt (WZ ?_);dsimp only;rw[p1,p2];refine Zt (xv0 ?_);refine Zt (qb8 (ZN (arrOf st) (sa+na) (by lia)) ?_);obtain⟨k,k1,k2,k3⟩:=q15 h0 s1 (KK κ (arrOf st) (sa+na)) (by lia);refine Zt (qi5 (st:=SortSt.mk' (kindOf st) (arrOf st) (((pendingOf st).setIfInBounds i (sa,na+nb,pw)).eraseIdxIfInBounds (i+1)) (gallopOf st) (failedOf st)) hO hk (qr6 h0 (by lia)) (by rw[qz6 (by lia)] at k2;exact k2) pna k1 ?_);dsimp only;by_cases c1:na-k=0
 ·rw[Zp (by simp only[Y1];exact c1)];refine Zz (h _ ⟨.refl _,rfl,rfl,λ_ _=>rfl,λx y d1 d2 d3=>?_,rfl⟩);show κ.kle (KK κ (arrOf st) x) (KK κ (arrOf st) y);by_cases cx:x<sa+na
  ·by_cases cy:y<sa+na
   ·exact s1 x y d1 d2 cy
   ·have:=(k3 (x-sa) (by lia)).1 (by lia);rw[show sa+(x-sa)=x by lia] at this;exact ZS this (s2 (sa+na) y (Zd _) (by lia) d3)
  ·exact s2 x y (by lia) d2 d3
 ·rw[Zk (by simp only[Y1];exact c1)];rw[show sa+k+(na-k)-1=sa+na-1 by lia];refine Zt (qb8 (ZN (arrOf st) (sa+na-1) (by lia)) ?_);obtain⟨d,d1,d2,d3⟩:=q92 h0 s2 (KK κ (arrOf st) (sa+na-1)) (by lia);refine Zt (qi5 (st:=SortSt.mk' (kindOf st) (arrOf st) (((pendingOf st).setIfInBounds i (sa,na+nb,pw)).eraseIdxIfInBounds (i+1)) (gallopOf st) (failedOf st)) hO hk (qr6 h0 (by lia)) (by rw[qz6 (by lia)] at d2;exact d2) (by lia) d1 ?_);dsimp only;have lk:κ.klt (KK κ (arrOf st) (sa+na)) (KK κ (arrOf st) (sa+k)):=(k3 k (by lia)).2 (Zd _);have ld:d≠0:=λz=>by
   have:=(d3 0 pnb).2 (by lia);exact absurd (Wq lk (s1 (sa+k) (sa+na-1) (by lia) (by lia) (by lia))) (WR this)
  rw[Zk (by simp only[Y1];exact ld)];have sx:((arrOf st).extract (sa+k) (sa+na)).size=na-k:=by simp;lia
  have sy:((arrOf st).extract (sa+na) (sa+na+d)).size=d:=by simp;lia
  have px:0<((arrOf st).extract (sa+k) (sa+na)).size:=by lia
  have py:0<((arrOf st).extract (sa+na) (sa+na+d)).size:=by lia
  have gx:∀j,(hj:j<((arrOf st).extract (sa+k) (sa+na)).size)->kv κ ((arrOf st).extract (sa+k) (sa+na))[j]=KK κ (arrOf st) (sa+k+j):=λj hj=>by rw[qz6 (by lia)];simp
  have gy:∀j,(hj:j<((arrOf st).extract (sa+na) (sa+na+d)).size)->kv κ ((arrOf st).extract (sa+na) (sa+na+d))[j]=KK κ (arrOf st) (sa+na+j):=λj hj=>by rw[qz6 (by lia)];simp
  have q1:κ.klt (kv κ (((arrOf st).extract (sa+na) (sa+na+d))[0]'(by lia))) (kv κ (((arrOf st).extract (sa+k) (sa+na))[0]'(by lia))):=by
   rw[gx,gy];exact lk
  have q2:∀j,(hj:j<((arrOf st).extract (sa+na) (sa+na+d)).size)->κ.klt (kv κ ((arrOf st).extract (sa+na) (sa+na+d))[j]) (kv κ (((arrOf st).extract (sa+k) (sa+na))[((arrOf st).extract (sa+k) (sa+na)).size-1]'(by lia))):=λj hj=>by
   rw[gx,gy,show sa+k+(((arrOf st).extract (sa+k) (sa+na)).size-1)=sa+na-1 by lia];exact (d3 j (by lia)).1 (by lia)
  have fin:∀out g,Rd κ ((arrOf st).extract (sa+k) (sa+na)) ((arrOf st).extract (sa+na) (sa+na+d)) out->Q true (SortSt.mk' (kindOf st) (qg4 (arrOf st) (sa+k) out.toList.zipIdx) (((pendingOf st).setIfInBounds i (sa,na+nb,pw)).eraseIdxIfInBounds (i+1)) g (failedOf st)):=λout g r=>by
   obtain⟨r1,r2,r3⟩:=q94 s1 s2 hsz (by lia) d1 pnb (λj j1 j2=>(k3 j j1).1 j2) (λj j1 j2=>(d3 j j1).2 j2) r;exact h _ ⟨r1,rfl,rfl,r2,r3,rfl⟩
  have fn:∀out g,Rd κ ((arrOf st).extract (sa+k) (sa+na)) ((arrOf st).extract (sa+na) (sa+na+d)) out->Q (failedOf st).isNone (SortSt.mk' (kindOf st) (qg4 (arrOf st) (sa+k) out.toList.zipIdx) (((pendingOf st).setIfInBounds i (sa,na+nb,pw)).eraseIdxIfInBounds (i+1)) g (failedOf st)):=λout g r=>by
   have e:(failedOf st).isNone=true:=by rw[hf];rfl
   rw[e];exact fin out g r
  have ax:Asc κ ((arrOf st).extract (sa+k) (sa+na)).toList:=q93 (λx y e1 e2 e3=>s1 x y (by lia) e2 e3) (by lia);have ay:Asc κ ((arrOf st).extract (sa+na) (sa+na+d)).toList:=q93 (λx y e1 e2 e3=>s2 x y e1 e2 (by lia)) (by lia);by_cases hle:na-k<=d
  ·rw[Zp hle];refine Zt (qS0 (st:=SortSt.mk' (kindOf st) (arrOf st) (((pendingOf st).setIfInBounds i (sa,na+nb,pw)).eraseIdxIfInBounds (i+1)) (gallopOf st) (failedOf st)) hO hk (qw7 h0 _ _) (qw7 h0 _ _) ax ay px py q1 q2 λout g r=>?_);exact Zt (XF (Zt (WZ (Zz (fn out g r)))))
  ·rw[Zk hle];refine Zt (qS1 (st:=SortSt.mk' (kindOf st) (arrOf st) (((pendingOf st).setIfInBounds i (sa,na+nb,pw)).eraseIdxIfInBounds (i+1)) (gallopOf st) (failedOf st)) hO hk (qw7 h0 _ _) (qw7 h0 _ _) ax ay px py q1 q2 λout g r=>?_);exact Zt (XF (Zt (WZ (Zz (fn out g r)))))
end
def Runs (κ:KeyKind) (a:Array Keyed):List (Nat×Nat×Nat)->Nat->Nat->Prop
 |[],lo,hi=>lo=hi
 |r::rs,lo,hi=>r.1=lo/\0<r.2.1/\SrtK κ a lo (lo+r.2.1)/\Runs κ a rs (lo+r.2.1) hi
section
variable {κ:KeyKind}{a a':Array Keyed}
theorem Runs.app:∀{p q:List (Nat×Nat×Nat)}{lo hi:Nat},Runs κ a (p++q) lo hi<->∃m,Runs κ a p lo m/\Runs κ a q m hi
 |[],q,lo,hi=>⟨λh=>⟨lo,rfl,h⟩,λ⟨m,e,h⟩=>by cases e;exact h⟩
 |r::p,q,lo,hi=>⟨λ⟨h1,h2,h3,h4⟩=>by
   obtain⟨m,m1,m2⟩:=Runs.app.mp h4;exact⟨m,⟨h1,h2,h3,m1⟩,m2⟩,λ⟨m,⟨h1,h2,h3,m1⟩,m2⟩=>⟨h1,h2,h3,Runs.app.mpr ⟨m,m1,m2⟩⟩⟩
theorem Runs.le:∀{p:List (Nat×Nat×Nat)}{lo hi:Nat},Runs κ a p lo hi->lo+p.length<=hi
 |[],lo,hi,h=>by cases h;simp
 |r::p,lo,hi,⟨h1,h2,h3,h4⟩=>by
  have:=h4.le;simp only[ZJ];lia
theorem SrtK.congr {lo hi:Nat}(h:SrtK κ a lo hi) (e:∀k:Nat,lo<=k->k<hi->a'[k]?=a[k]?):SrtK κ a' lo hi:=λi j h1 h2 h3=>by
 rw[KK_congr (e i h1 (by lia)),KK_congr (e j (by lia) h3)];exact h i j h1 h2 h3
theorem Runs.congr:∀{p:List (Nat×Nat×Nat)}{lo hi:Nat},Runs κ a p lo hi->(∀k:Nat,lo<=k->k<hi->a'[k]?=a[k]?)->Runs κ a' p lo hi
 |[],lo,hi,h,_=>h
 |r::p,lo,hi,⟨h1,h2,h3,h4⟩,e=>⟨h1,h2,h3.congr (λk k1 k2=>e k k1 (by have:=h4.le;lia)),h4.congr (λk k1 k2=>e k (by lia) k2)⟩
theorem Runs.mod {f:Nat×Nat×Nat->Nat×Nat×Nat}(hf:∀x,(f x).1=x.1/\(f x).2.1=x.2.1):∀{p:List (Nat×Nat×Nat)}{i lo hi:Nat},Runs κ a p lo hi->Runs κ a (p.modify i f) lo hi
 |[],i,lo,hi,h=>by cases i<;>exact h
 |r::p,0,lo,hi,⟨h1,h2,h3,h4⟩=>by
  show Runs κ a (f r::p) lo hi;refine⟨by rw[(hf r).1];exact h1,by rw[(hf r).2];exact h2,by rw[(hf r).2];exact h3,by rw[(hf r).2];exact h4⟩
 |r::p,i+1,lo,hi,⟨h1,h2,h3,h4⟩=>⟨h1,h2,h3,h4.mod hf⟩
theorem Runs.one {lo n w:Nat}(h:0<n) (hs:SrtK κ a lo (lo+n)):Runs κ a [(lo,n,w)] lo (lo+n):=⟨rfl,h,hs,rfl⟩
end
theorem xC3 {α:Type}{l:List α}{i:Nat}(h:i+1<l.length):∃pre x y post,l=pre++x::y::post/\pre.length=i:=by
 refine⟨l.take i,l[i],l[i+1],l.drop (i+2),?_,by simp;lia⟩;rw[<- Wk,<- Wk,YF]
theorem xC4 {p:Array (Nat×Nat×Nat)}{pre post:List (Nat×Nat×Nat)}{x y v:Nat×Nat×Nat}{i:Nat}(h:p.toList=pre++x::y::post) (hi:pre.length=i):((p.setIfInBounds i v).eraseIdxIfInBounds (i+1)).toList=pre++v::post:=by
 have hl:p.size=i+(post.length+2):=by
  have:=Yt List.length h;simp at this;lia
 rw[Array.eraseIdxIfInBounds,dif_pos (by simp;lia),Array.toList_eraseIdx,X9,h];subst hi;have e1:(pre++x::y::post).set pre.length v=pre++v::y::post:=by
  rw[List.set_append_right _ _ (Zd _)];simp
 rw[e1,List.eraseIdx_append_of_length_le (by lia)];simp
structure Stands (κ:KeyKind) (kd:SortKind) (a₀:Array Keyed) (st:SortSt) (lo:Nat):Prop where
 perm:(arrOf st).Perm a₀
 kind:kindOf st=kd
 fail:failedOf st=none
 runs:Runs κ (arrOf st) (pendingOf st).toList 0 lo
section
variable {prog:Program}{w:World}{A:Around}{E:Value->Shared->Prop}{s:Shared}{κ:KeyKind}
theorem Stands.merge {kd:SortKind}{a₀:Array Keyed}(hO:KLt prog w A s κ kd) (h0:KeysOf κ a₀){st:SortSt}{lo i:Nat}{Q:Bool->SortSt->Prop}(d:Stands κ kd a₀ st lo) (hlo:lo<=a₀.size) (hi:i+1<(pendingOf st).size)
  (h:∀st',Stands κ kd a₀ st' lo->(pendingOf st').size+1=(pendingOf st).size->(∀k:Nat,lo<=k->(arrOf st')[k]?=(arrOf st)[k]?)->Q true st'):wpS (model prog w) A E s (mergeAt' i) Q st:=by
 obtain⟨pre,⟨s1,n1,w1⟩,⟨s2,n2,w2⟩,post,e,hp⟩:=xC3 (l:=(pendingOf st).toList) (by simpa using hi);have r:=d.runs;rw[e] at r;obtain⟨m,r1,r2,r3,r4,r5,r6,r7,r8⟩:=Runs.app.mp r;simp only at r2 r3 r4 r5 r6 r7 r8;subst r2 r5;have l8:=r8.le;have l1:=r1.le;have sz:(arrOf st).size=a₀.size:=d.perm.size_eq;have p1:(pendingOf st)[i]?=some (s1,n1,w1):=by
  rw[<- Z9,e,Zi (by lia),hp,Wh];rfl
 have p2:(pendingOf st)[i+1]?=some (s1+n1,n2,w2):=by
  rw[<- Z9,e,Zi (by lia),hp,Nat.add_sub_cancel_left];rfl
 refine qS2 hO d.kind (qk3 h0 d.perm) d.fail p1 p2 r3 r6 (by lia) r4 r7 λst' g=>h st' ⟨g.perm.trans d.perm,g.kind.trans d.kind,g.fail.trans d.fail,?_⟩ ?_ λk hk=>g.out k (.inr (by lia))
 ·rw[g.pend,xC4 e hp];refine Runs.app.mpr ⟨s1,r1.congr λk _ k2=>g.out k (.inl k2),rfl,by show 0<n1+n2;lia,?_,?_⟩
  ·have:=g.srt
   rwa [Nat.add_assoc] at this
  ·have:=r8.congr (a':=arrOf st') λk k1 _=>g.out k (.inr k1)
   rwa [Nat.add_assoc] at this
 ·have:=Yt List.length (xC4 (v:=(s1,n1+n2,w1)) e hp);rw[<- g.pend] at this;have e2:=Yt List.length e;simp at this e2;lia
theorem qH3 {kd:SortKind}{a₀:Array Keyed}(hO:KLt prog w A s κ kd) (h0:KeysOf κ a₀){st:SortSt}{Q:Unit->SortSt->Prop}(d:Stands κ kd a₀ st 0)
  (h:∀st',(arrOf st').Perm a₀->failedOf st'=none->SortedToK κ (arrOf st') a₀.size->Q () st'):wpS (model prog w) A E s sortRuns' Q st:=by
 rw[sortRuns'_eq];refine Zt (WZ ?_);dsimp only;have sz:(arrOf st).size=a₀.size:=d.perm.size_eq;simp only[sz];generalize minRun' a₀.size a₀.size 0=mr;refine Zt (Wp (Y7 (I:=λx c st'=>∃lo,c=(none,lo)/\Stands κ kd a₀ st' lo/\x<=lo/\lo<=a₀.size)
  (Q:=λc st'=>c=(none,a₀.size)/\Stands κ kd a₀ st' a₀.size) ?step ?fin ⟨0,rfl,d,Zd _,ZE _⟩) ?post)
 case fin=>
  rintro c st' ⟨lo,rfl,d,h1,h2⟩;have:lo=a₀.size:=by lia
  subst this;exact⟨rfl,d⟩
 case post=>
  rintro c st' ⟨rfl,d⟩;dsimp only;refine Zt (Wp (Y7 (I:=λx c st'=>c=(none,())/\Stands κ kd a₀ st' a₀.size/\(pendingOf st').size+x<=a₀.size)
   (Q:=λc st'=>c=(none,())/\Stands κ kd a₀ st' a₀.size/\(pendingOf st').size<=1) ?step2 ?fin2 ⟨rfl,d,?init2⟩) ?post2)
  case init2=>
   have:=d.runs.le;simp at this;lia
  case fin2=>
   rintro c st' ⟨rfl,d,h1⟩;exact⟨rfl,d,by lia⟩
  case post2=>
   rintro c st' ⟨rfl,d,h1⟩;refine Zz (h st' d.perm d.fail λi j jT hj=>?_);have r:=d.runs;cases e:(pendingOf st').toList with
   |nil=>
    rw[e] at r;have r':0=a₀.size:=r;lia
   |cons p ps=>
    rw[e] at r;obtain⟨r1,r2,r3,r4⟩:=r;have:ps=[]:=by
     have:=Yt List.length e;simp at this;exact List.length_eq_zero_iff.mp (by lia)
    subst this;have r4':0+p.2.1=a₀.size:=r4;rw[r4'] at r3;exact r3 i j (ZE _) jT hj
  case step2=>
   rintro x c st' _ hx ⟨rfl,d,h1⟩;refine Zt (WZ ?_);by_cases c1:(pendingOf st').size<=1
   ·rw[Zp c1];exact Zz ⟨rfl,d,c1⟩
   ·rw[Zk c1];refine Zt (d.merge hO h0 (Zd _) ?_ λst2 d2 e2 _=>?_)
    ·have key:∀c:Bool,(if c=true then (pendingOf st').size-2-1 else (pendingOf st').size-2)+1<(pendingOf st').size:=λc=>by cases c<;>simp<;>lia
     exact key _
    ·simp only[XE,Zy,Z8];exact Zz ⟨rfl,d2,by lia⟩
 case step=>
  rintro x c st' _ hx ⟨lo,rfl,d,h1,h2⟩;dsimp only;by_cases c1:lo>=a₀.size
  ·rw[Zp c1];have:lo=a₀.size:=by lia
   subst this;exact Zz ⟨rfl,d⟩
  ·rw[Zk c1];have sz':(arrOf st').size=a₀.size:=d.perm.size_eq;have rest:∀(n:Nat) (st2:SortSt),1<=n->lo+n<=a₀.size->Mv st' st2 lo a₀.size->SrtK κ (arrOf st2) lo (lo+n)->Stands κ kd a₀ st2 lo:=λn st2 n1 n2 m2 _=>
    ⟨m2.perm.trans d.perm,m2.kind.trans d.kind,m2.fail.trans d.fail,by rw[m2.pend];exact d.runs.congr λk _ k2=>m2.out k (.inl k2)⟩
   have push:∀(n:Nat) (st2:SortSt),1<=n->Stands κ kd a₀ st2 lo->SrtK κ (arrOf st2) lo (lo+n)->Stands κ kd a₀ (setPending st2 ((pendingOf st2).push (lo,n,0))) (lo+n):=λn st2 n1 d2 s2=>
    ⟨d2.perm,d2.kind,d2.fail,by
     show Runs κ (arrOf st2) ((pendingOf st2).push (lo,n,0)).toList 0 (lo+n);rw[X2];exact Runs.app.mpr ⟨lo,d2.runs,Runs.one (by lia) s2⟩⟩
   refine Zt (xj3 hO d.kind (qk3 h0 d.perm) (by lia) (by lia) λm st2 m1 m2 mv s2=>?_);have mv':Mv st' st2 lo a₀.size:=by rwa [show lo+(a₀.size-lo)=a₀.size by lia] at mv
   dsimp only;by_cases c2:m<mr
   case' neg=>
    rw[Zk c2];have s3:=s2;have d3:=rest _ st2 m1 (by lia) mv' s2;have n1:1<=m:=m1;have n2:lo+m<=a₀.size:=by lia
    clear s2;obtain⟨n,hn⟩:∃n,n=m:=⟨_,rfl⟩;simp only[<- hn] at s3 n1 n2 ⊢
   case' pos=>
    rw[Zp c2];refine Zt (VI (Xk ⟨rfl,?_⟩));have hmin:lo+min (a₀.size-lo) mr<=(arrOf st2).size:=by rw[mv.size];lia
    refine Zt (xj1 hO (mv.kind.trans d.kind) (qk3 h0 (mv.perm.trans d.perm)) hmin (by lia) s2 λst3 mv3 s3=>?_);simp only[XE,Zy,Z8];have mv3':Mv st' st3 lo a₀.size:=mv'.trans ⟨mv3.perm,mv3.kind,mv3.fail,mv3.pend,λk hk=>mv3.out k (by lia)⟩;have d3:=rest _ st3 (show 1<=min (a₀.size-lo) mr by lia) (by lia) mv3' s3;obtain⟨n,hn⟩:∃n,n=min (a₀.size-lo) mr:=⟨_,rfl⟩;have n1:1<=n:=by lia
    have n2:lo+n<=a₀.size:=by lia
    simp only[<- hn] at s3 ⊢;clear hn hmin mv3
   all_goals
    refine Zt (WZ ?_);split
    ·refine Zt (Wp (Y7 (I:=λx c st4=>c=(none,())/\Stands κ kd a₀ st4 lo/\SrtK κ (arrOf st4) lo (lo+n)) (Q:=λc st4=>c=(none,())/\Stands κ kd a₀ st4 lo/\SrtK κ (arrOf st4) lo (lo+n)) ?_ ?_ ⟨rfl,d3,s3⟩) ?_)
     ·rintro y c st4 _ _ ⟨rfl,d4,s4⟩;refine Zt (WZ ?_);split
      ·rename_i e5;split
       ·exact Zz ⟨rfl,d4,s4⟩
       ·have hsz2:(pendingOf st4).size>1:=by
         by_cases z:(pendingOf st4).size>1
         ·exact z
         ·rw[Zk z] at e5;cases e5
        refine Zt (d4.merge hO h0 h2 (by lia) λst5 d5 _ o5=>?_);simp only[XE,Zy,Z8];exact Zz ⟨rfl,d5,s4.congr λk k1 _=>o5 k k1⟩
      ·exact Zz ⟨rfl,d4,s4⟩
     ·rintro c st4 ⟨rfl,d4,s4⟩;exact⟨rfl,d4,s4⟩
     ·rintro c st4 ⟨rfl,d4,s4⟩;refine Zt (XF (Zt (XF (Zz ⟨_,rfl,push _ _ n1 ⟨d4.perm,d4.kind,d4.fail,?_⟩ s4,by lia,n2⟩))));show Runs κ (arrOf st4) (Array.modify _ _ _).toList 0 lo;rw[Array.toList_modify];refine Runs.mod ?_ d4.runs;exact λ_=>⟨rfl,rfl⟩
    ·exact Zt (XF (Zz ⟨_,rfl,push _ _ n1 d3 s3,by lia,n2⟩))
end
inductive AtK:Bool->Value->List Int->Prop
 |int (i:Int) (t:Tok):AtK false (.int i t) [i]
 |str (x:Str) (t:Tok):AtK true (.str x t) (x.cps.toList.map Int.ofNat)
theorem AtK.uniq {k:Bool}{v:Value}{l m:List Int}(h:AtK k v l) (g:AtK k v m):l=m:=by
 cases h<;>cases g<;>rfl
inductive AtsK (pat:Nat->Bool):Nat->List Value->List (List Int)->Prop
 |nil {i:Nat}:AtsK pat i [] []
 |cons {i:Nat}{v:Value}{l:List Int}{vs:List Value}{ls:List (List Int)}(h:AtK (pat i) v l) (r:AtsK pat (i+1) vs ls):AtsK pat i (v::vs) (l::ls)
theorem AtsK.uniq {pat:Nat->Bool}:∀{i:Nat}{vs:List Value}{ls ms:List (List Int)},AtsK pat i vs ls->AtsK pat i vs ms->ls=ms
 |_,_,_,_,.nil,.nil=>rfl
 |_,_,_,_,.cons h r,.cons h' r'=>by rw[h.uniq h',r.uniq r']
def TupK (h:Heap) (pat:Nat->Bool) (v:Value) (l:List (List Int)):Prop:=∃a o xs n,v=.ref a/\h.get? a=some o/\o.cls=.type "tuple" /\ o.data=.seq xs n/\AtsK pat 0 xs.toList l
theorem TupK.uniq {h:Heap}{pat:Nat->Bool}{v:Value}{l m:List (List Int)}(x:TupK h pat v l) (y:TupK h pat v m):l=m:=by
 obtain⟨a,o,xs,n,rfl,e1,e2,e3,e4⟩:=x;obtain⟨a',o',xs',n',e5,f1,f2,f3,f4⟩:=y;cases e5;rw[e1] at f1;cases f1;rw[e3] at f3;cases f3;exact e4.uniq f4
theorem TupK.keep {h h':Heap}{pat:Nat->Bool}{v:Value}{l:List (List Int)}(k:∀b o,h.get? b=some o->o.cls=.type "tuple" -> h'.get? b=some o) (x:TupK h pat v l):TupK h' pat v l:=by
 obtain⟨a,o,xs,n,rfl,e1,e2,e3,e4⟩:=x;exact⟨a,o,xs,n,rfl,k _ _ e1 e2,e2,e3,e4⟩
open Classical in
noncomputable def qj9 (h:Heap) (pat:Nat->Bool):KeyKind where
 α:=List (List Int)
 blt a b:=decide (a<b)
 irrefl a:=by simpa using VW a
 trans a b c h1 h2:=by simp only[X4] at *;exact List.lt_trans h1 h2
 negTrans a b c h:=by
  simp only[X4] at *;by_cases vJ:a<b
  ·exact .inl vJ
  ·exact .inr (List.lt_of_le_of_lt (Wd.mp vJ) h)
 total a b h1 h2:=by simp only[XN] at *;exact List.le_antisymm (Wd.mp h2) (Wd.mp h1)
 keyOf v:=if e:∃l,TupK h pat v l then some e.choose else none
 dflt:=[]
open Classical in
theorem qH4 {h:Heap}{pat:Nat->Bool}{v:Value}{l:List (List Int)}(x:TupK h pat v l):(qj9 h pat).keyOf v=some l:=by
 have e:∃l,TupK h pat v l:=⟨l,x⟩;show (if e:∃l,TupK h pat v l then some e.choose else none)=some l;rw[dif_pos e,e.choose_spec.uniq x]
open Classical in
theorem q95 {h:Heap}{pat:Nat->Bool}{v:Value}{l:List (List Int)}(x:(qj9 h pat).keyOf v=some l):TupK h pat v l:=by
 by_cases e:∃l,TupK h pat v l
 ·have:=qH4 e.choose_spec;rw[this] at x;cases x;exact e.choose_spec
 ·have:(qj9 h pat).keyOf v=none:=by
   show (if e:∃l,TupK h pat v l then some e.choose else none)=none;rw[dif_neg e]
  rw[this] at x;cases x
theorem xq2:∀{l m:List Nat},l.map Int.ofNat<m.map Int.ofNat<->l<m
 |[],[]=>by simp
 |[],_::_=>by simp
 |_::_,[]=>by simp
 |x::l,y::m=>by
  rw[ZC,ZC,Xp,Xp,xq2];simp only[Int.ofNat_eq_natCast,Int.ofNat_lt,Int.ofNat_inj]
theorem q96:∀{l m:List Nat},l.map Int.ofNat=m.map Int.ofNat->l=m
 |[],[],_=>rfl
 |[],_::_,h=>by simp at h
 |_::_,[],h=>by simp at h
 |x::l,y::m,h=>by
  rw[ZC,ZC] at h;obtain⟨h1,h2⟩:=List.cons.inj h;rw[Xi h1,q96 h2]
section
variable {prog:Program}{w:World}{A:Around}{E:Value->Shared->Prop}{s:Shared}{pat:Nat->Bool}
theorem xC5 {k:Bool}{x y:Value}{a b:List Int}{Q:Bool->Shared->Prop}(hx:AtK k x a) (hy:AtK k y b) (h:Q (decide (a=b)) s):wpAny (model prog w) A (eqBool x y) Q E s:=by
 cases hx with
 |int i t=>
  cases hy with
  |int j u=>
   refine wpAny_eqBool_int ?_;have e:decide ([i]=[j])=(i==j):=by simp;rfl
   rw[e] at h;exact h
 |str x t=>
  cases hy with
  |str y u=>
   refine PySem.wpAny_eqBool_str ?_;have e:decide (x.cps.toList.map Int.ofNat=y.cps.toList.map Int.ofNat)=decide (x=y):=by
    rw[Y4];constructor
    ·intro z;have:=q96 z;cases x;cases y;simp at this ⊢;exact this
    ·rintro rfl;rfl
   rw[e] at h;exact h
theorem xj6 {k c:Bool}{x y:Value}{a b:List Int}{Q:Bool->Shared->Prop}(hx:AtK k x a) (hy:AtK k y b) (h:Q (decide (a<b)) s):wpAny (model prog w) A (oneLt' c x y) Q E s:=by
 cases hx with
 |int i t=>
  cases hy with
  |int j u=>
   have e:decide ([i]<[j])=decide (i<j):=by rw[Y4,Xp];simp
   rw[e] at h;cases c with
   |true=>exact oneLt_int h
   |false=>
    rw[oneLt'_eq];simp only[Zy,Z8,Vn];exact Za (wpAny_lt_int (Ys h))
 |str x t=>
  cases hy with
  |str y u=>
   have e:decide (x.cps.toList.map Int.ofNat<y.cps.toList.map Int.ofNat)=decide (x.cps.toList<y.cps.toList):=by rw[Y4];exact xq2
   rw[e] at h;cases c with
   |true=>exact oneLt_str h
   |false=>
    rw[oneLt'_eq];simp only[Zy,Z8,Vn];exact Za (PySem.P.lt_str (Ys h))
theorem xv1 (c:Bool):KLt prog w A s (qj9 s.heap pat) (tuples' c):=by
 intro E x y (a:List (List Int)) (b:List (List Int)) Q ha hb hq;obtain⟨p,o,xs,n,rfl,e1,e2,e3,e4⟩:=q95 ha;obtain⟨p',o',xs',n',rfl,f1,f2,f3,f4⟩:=q95 hb;refine Za (listItems_at e1 e3 ?_);refine Za (listItems_at f1 f3 ?_);have go:∀(vs us:List Value) (i:Nat) (l m:List (List Int)),AtsK pat i vs l->AtsK pat i us m->∀(F:(Value×Value)×Nat->Option Bool×Unit->Sem (ForInStep (Option Bool×Unit))) (R:Option Bool×Unit->Shared->Prop),
   (∀p q j x y Q',AtK (pat j) p x->AtK (pat j) q y->(if x=y then Q' (.yield (none,())) s else Q' (.done (some (decide (x<y)),())) s)->wpAny (model prog w) A (F ((p,q),j) (none,())) Q' E s) ->
   (∀r,(r=(some (decide (l<m)),())\/(r=(none,())/\decide (l<m)=decide (vs.length<us.length)))->R r s)->wpAny (model prog w) A (forIn ((vs.zip us).zipIdx i) (none,()) F) R E s:=by
  intro vs
  induction vs with
  |nil=>
   intro us i l m hl hm F R hF hR;cases hl;rw[List.zip_nil_left,List.zipIdx_nil,VX];refine Zg (hR _ (.inr ⟨rfl,?_⟩));cases hm<;>simp
  |cons v vs ih=>
   intro us i l m hl hm F R hF hR;cases hl with
   |@cons _ _ x _ xs hx rx=>
   cases hm with
   |nil=>
    rw[List.zip_nil_right,List.zipIdx_nil,VX];exact Zg (hR _ (.inr ⟨rfl,by simp⟩))
   |@cons _ u y us ys hy ry=>
    rw[Vt,List.zipIdx_cons,Va];refine Za (hF _ _ _ _ _ _ hx hy ?_);by_cases e:x=y
    ·rw[Zp e];dsimp only;refine ih us (i+1) xs ys rx ry F R hF λr hr=>hR r ?_;have e2:decide (x::xs<y::ys)=decide (xs<ys):=by
      rw[Y4,Xp,e];simp[VW]
     rw[e2,ZJ,ZJ];simpa using hr
    ·rw[Zk e];dsimp only;refine Zg (hR _ (.inl ?_));have e2:decide (x::xs<y::ys)=decide (x<y):=by
      rw[Y4,Xp];simp[e]
     rw[e2]
 refine Za (go _ _ 0 a b e4 f4 _ _ (λp q j x y Q' hx hy hQ=>?_) λr hr=>?_)
 ·dsimp only;refine Za (xC5 hx hy ?_);by_cases e:x=y
  ·rw[Zp e] at hQ;rw[Zl e];exact Zg hQ
  ·rw[Zk e] at hQ;rw[Zq e];exact Za (xj6 hx hy (Zg hQ))
 ·have hq':Q (decide (a<b)) s:=hq;rcases hr with rfl|⟨rfl,e⟩
  ·exact Zg hq'
  ·rw[e] at hq';refine Zg ?_;simpa using hq'
theorem qD8:∀{vs:List Value}{Q:List (Option Value)->Shared->Prop},(∀v∈vs,∃l,TupK s.heap pat v l/\l≠[])->(∀us:List Value,us.length=vs.length->(∀u∈us,∃l,AtK (pat 0) u l)->Q (us.map some) s)->wpAny (model prog w) A (vs.mapM firstOfTuple') Q E s
 |[],Q,_,h=>by rw[List.mapM_nil];exact Zg (h [] rfl (by simp))
 |v::vs,Q,hv,h=>by
  rw[List.mapM_cons];obtain⟨l,⟨a,o,xs,n,rfl,e1,e2,e3,e4⟩,e5⟩:=hv v (by simp);refine Za (m:=firstOfTuple' (.ref a)) (Za (WH (T:= "tuple") ⟨o,e1,e2⟩ ?_));rw[Zk (by simp)];refine Za (listItems_at e1 e3 (Zg (Za (qD8 (λu hu=>hv u (by simp[hu])) λus hl hu=>Zg ?_))));generalize hx:xs.toList=ys at e4;cases e4 with
  |nil=>exact absurd rfl e5
  |@cons _ u l _ _ hk _=>
   have ex:xs[0]?=some u:=by rw[<- Z9,hx];rfl
   rw[ex];refine h (u::us) (by simp[hl]) λq hq=>?_;rcases ZB.mp hq with rfl|z
   ·exact⟨l,hk⟩
   ·exact hu q z
def tyK (k:Bool):Value:=if k then .type "str" else .type "int"
theorem qW1 {k:Bool}:∀{us:List Value},(∀u∈us,∃l,AtK k u l)->us.mapM typeOf=pure (us.map λ_=>tyK k)
 |[],_=>by simp
 |u::us,h=>by
  rw[List.mapM_cons,qW1 (us:=us) λq hq=>h q (by simp[hq])];obtain⟨l,hl⟩:=h u (by simp);have e:typeOf u=pure (tyK k):=by cases hl<;>rfl
  rw[e];simp
theorem xj7 {vs:List Value}{Q:SortKind->Shared->Prop}(h0:vs≠[]) (hv:∀v∈vs,∃l,TupK s.heap pat v l/\l≠[]) (h:Q (tuples' true) s):wpAny (model prog w) A (keyKind' vs.toArray) Q E s:=by
 rw[keyKind'_eq,List.mapM_toArray];simp only[bind_map_left];refine Za (qD8 hv λus hl hu=>?_);rw[Zp (by simp)];refine Za (Xk ?_);have e:(us.map some).toArray.filterMap id=us.toArray:=by
  rw[List.filterMap_toArray];congr 1;rw[List.filterMap_map];exact List.filterMap_some
 rw[e,oneTypeOnly'_eq,List.mapM_toArray,qW1 hu];simp only[map_pure,Vn];cases us with
 |nil=>exact absurd (List.length_eq_zero_iff.mp hl.symm) h0
 |cons u us=>
  have e0:((u::us).map λ_=>tyK (pat 0)).toArray[0]?=some (tyK (pat 0)):=by simp
  have e1:(((u::us).map λ_=>tyK (pat 0)).toArray.all λx=>x==tyK (pat 0))=true:=by
   simp only[List.all_toArray,List.all_map,YQ];intro _ _;show (tyK (pat 0)==tyK (pat 0))=true;cases pat 0<;>rfl
  rw[e0];simp only[e1,Xs,Vn];have e2:((some (tyK (pat 0))).any λx=>x != Value.type "tuple")=true:=by cases pat 0<;>rfl
  rw[e2];exact Zg h
def AscT (h:Heap) (pat:Nat->Bool) (vs:List Value):Prop:=vs.Pairwise λu v=>∀l m,TupK h pat u l->TupK h pat v m->¬m<l
theorem xv2 {vs:List Value}{h:Heap}{xs:Array Keyed}(hv:∀v∈vs,∃l,TupK h pat v l) (hp:xs.Perm (pairsOf vs)) (hs:SortedToK (qj9 h pat) xs (pairsOf vs).size) :
  (xs.map (·.2)).toList.Perm vs/\AscT h pat (xs.map (·.2)).toList:=by
 have hl:xs.toList.Perm (vs.zip vs):=by rw[<- pairsOf_toList];exact Wa.mp hp
 have mem:∀p,p∈xs.toList->p.1=p.2/\p.1∈vs:=λp q=>mem_zip_self (hl.mem_iff.mp q);constructor
 ·rw[Array.toList_map];have z:=hl.map Prod.snd
  rwa [List.map_snd_zip (Zd _)] at z
 ·refine YX.mpr λi j hi hj jT l m hl hm=>?_;have i1:i<xs.size:=by simpa using hi
  have j1:j<xs.size:=by simpa using hj
  have z:=hs i j (Y6 jT) (by rw[<- hp.size_eq];exact j1);have ki:KK (qj9 h pat) xs i=l:=by
   have a:=(mem xs[i] (by simp)).1;have b:TupK h pat xs[i].1 l:=by rw[a];simpa using hl
   rw[qz6 i1];unfold kv;rw[qH4 b];rfl
  have kj:KK (qj9 h pat) xs j=m:=by
   have a:=(mem xs[j] (by simp)).1;have b:TupK h pat xs[j].1 m:=by rw[a];simpa using hm
   rw[qz6 j1];unfold kv;rw[qH4 b];rfl
  rw[ki,kj] at z;exact YO z
theorem q97 {p:Addr}{vs:List Value}{n:Nat}{P:Fin->Shared->Prop}(hL:s.heap.get? p=some (seqObj "list" vs.toArray n)) (hv:∀v∈vs,∃l,TupK s.heap pat v l/\l≠[]) (hz:vs.length<=sizeLine)
  (h:∀out:Array Value,out.toList.Perm vs->AscT s.heap pat out.toList->P (.done (.ret .none)) { s with heap:=sortedHeap s.heap p vs out }) :
  wpAny (model prog w) A (Builtin.«list.sort» ⟨[.ref p],[]⟩) P E s:=by
 have lt:=Zs hL;obtain⟨c1,hE⟩:∃c,(s.heap.update p (Obj.mapSeq λ_=>#[])).get? p=some (seqObj "list" #[] c):=⟨_,get?_update_seq hL (λ_=>#[])⟩;have kp:∀b o,b≠p->s.heap.get? b=some o->(((s.heap.update p (Obj.mapSeq λ_=>#[])).push (seqObj "tuple" vs.toArray 0)).push (seqObj "list" #[] 0)).get? b=some o:=λb o hb q=>by
  have l2:=Zs q;rw[Xx _ _ _ (by rw[size_push',Wj];exact ZA (Yl l2)),Xx _ _ _ (by rw[Wj];exact ZA l2),Heap.get?_update_ne _ _ _ _ hb];exact q
 have hT:(((s.heap.update p (Obj.mapSeq λ_=>#[])).push (seqObj "tuple" vs.toArray 0)).push (seqObj "list" #[] 0)).get? p=some (seqObj "list" #[] c1):=by
  rw[Xx _ _ _ (by rw[size_push',Wj];exact ZA (Yl lt)),Xx _ _ _ (by rw[Wj];exact ZA lt)];exact hE
 have kT:∀b o,s.heap.get? b=some o->o.cls=.type "tuple" -> (((s.heap.update p (Obj.mapSeq λ_=>#[])).push (seqObj "tuple" vs.toArray 0)).push (seqObj "list" #[] 0)).get? b=some o:=λb o q c=>kp b o (by rintro rfl;rw[hL] at q;cases q;simp at c) q;have hv':∀v∈vs,∃l,TupK (((s.heap.update p (Obj.mapSeq λ_=>#[])).push (seqObj "tuple" vs.toArray 0)).push (seqObj "list" #[] 0)) pat v l/\l≠[]:=λv q=>by
  obtain⟨l,x,y⟩:=hv v q;exact⟨l,x.keep kT,y⟩
 have back:∀out:Array Value,out.toList.Perm vs->AscT (((s.heap.update p (Obj.mapSeq λ_=>#[])).push (seqObj "tuple" vs.toArray 0)).push (seqObj "list" #[] 0)) pat out.toList->AscT s.heap pat out.toList:=λout _ q=>List.Pairwise.imp (λz l m x y=>z l m (x.keep kT) (y.keep kT)) q;rw[list_sort_plain];refine Za (listItems_at hL rfl (Za (listUpdate_at hL rfl (Za (seqEpoch_at hE rfl (Za (wpAny_newTuple (Za (wpAny_newList (Yg ?_) (ZE _))) (by simpa using hz))))) (by simpa using hz) (ZE _))));show wpAny (model prog w) A _ P E { s with heap:=((s.heap.update p (Obj.mapSeq λ_=>#[])).push (seqObj "tuple" vs.toArray 0)).push (seqObj "list" #[] 0) };dsimp only;by_cases small:vs.toArray.size<2
 ·rw[Zp small,Zp small];refine Za (Zg ?_);rw[StateT.run_pure];refine Za (Zg ?_);dsimp only;have e:(vs.toArray.zip vs.toArray).map (·.2)=vs.toArray:=by
   apply Array.toList_inj.mp;simp[List.map_snd_zip]
  refine Za (seqEpoch_at hT rfl (Za (listUpdate_at hT rfl ?_ (ZE _) (by show ((vs.toArray.zip vs.toArray).map (·.2)).size<=_;rw[e];simp;lia))));simp only[bne_self_eq_false,Zy,Z8];refine Zg ?_;show P _ { s with heap:=sortedHeap s.heap p vs ((vs.toArray.zip vs.toArray).map (·.2)) };rw[e];refine h _ (by simp) ?_;have:vs.length<2:=by simpa using small
  match vs,this with
  |[],_=>exact List.Pairwise.nil
  |[x],_=>exact List.pairwise_singleton _ _
  |_::_::_,z=>simp at z;lia
 ·rw[Zk small,Zk small];refine Za (xj7 (pat:=pat) (λz=>small (by rw[z];decide)) hv' ?_);have ka:KeysOf (qj9 (((s.heap.update p (Obj.mapSeq λ_=>#[])).push (seqObj "tuple" vs.toArray 0)).push (seqObj "list" #[] 0)) pat) (pairsOf vs):=λq hq=>by
   rw[pairsOf_toList] at hq;obtain⟨l,x,_⟩:=hv' _ (mem_zip_self hq).2;exact⟨l,qH4 x⟩
  refine Za (Y0 (qH3 (κ:=qj9 (((s.heap.update p (Obj.mapSeq λ_=>#[])).push (seqObj "tuple" vs.toArray 0)).push (seqObj "list" #[] 0)) pat) (kd:=tuples' true) (a₀:=pairsOf vs) (st:=SortSt.mk' (tuples' true) (vs.toArray.zip vs.toArray) #[] 7 none)
   (Q:=λ_ st'=>(arrOf st').Perm (pairsOf vs)/\failedOf st'=none/\SortedToK (qj9 (((s.heap.update p (Obj.mapSeq λ_=>#[])).push (seqObj "tuple" vs.toArray 0)).push (seqObj "list" #[] 0)) pat) (arrOf st') (pairsOf vs).size)
   (xv1 true) ka ⟨Array.Perm.refl _,rfl,rfl,rfl⟩ λst' a b c=>⟨a,b,c⟩) ?_ λ_ _ e=>e)
  rintro⟨⟨⟩,st'⟩ s' ⟨rfl,hp,hf,hs⟩;dsimp only;obtain⟨o1,o2⟩:=xv2 (λv q=>(hv' v q).imp λ_ z=>z.1) hp hs;refine Za (seqEpoch_at hT rfl (Za (listUpdate_at hT rfl ?_ (ZE _) ?_)))
  ·rw[hf];simp only[bne_self_eq_false,Zy,Z8];exact Zg (h _ o1 (back _ o1 o2))
  ·refine ZL (WE ?_) (VC hz);have:=o1.length_eq;rw[ZT] at this;exact this
theorem q16 {p:Addr}{vs:List Value}{Q:Value->Shared->Prop}(hl:s.heap.IsList p vs.toArray) (hv:∀v∈vs,∃l,TupK s.heap pat v l/\l≠[]) (hz:vs.length<=sizeLine)
  (h:∀out:Array Value,out.toList.Perm vs->AscT s.heap pat out.toList->Q (.ref (s.heap.objs.size+1)) { s with heap:=sortedAll s.heap vs out }) :
  wpAny (model prog w) A (call (.builtin "sorted") [.ref p]) Q E s:=by
 refine Calls.call_function_entry kind_sorted plain_sorted entry_sorted (args_sorted1 _) ?_;unfold Builtin.«sorted»;have hsz:((s.heap.push (seqObj "list" #[] 0)).update s.heap.objs.size (Obj.mapSeq (·++vs.toArray))).objs.size=s.heap.objs.size+1:=by rw[Wj,size_push']
 have hL:(((s.heap.push (seqObj "list" #[] 0)).update s.heap.objs.size (Obj.mapSeq (·++vs.toArray))).push (seqObj "list" vs.toArray 0)).get? (s.heap.objs.size+1)=some (seqObj "list" vs.toArray 0):=by rw[<- hsz];exact Zo _ rfl
 have kp:∀b o,s.heap.get? b=some o->(((s.heap.push (seqObj "list" #[] 0)).update s.heap.objs.size (Obj.mapSeq (·++vs.toArray))).push (seqObj "list" vs.toArray 0)).get? b=some o:=λb o q=>by
  have l2:=Zs q;rw[Xx _ _ _ (by rw[hsz];exact ZA (Yl l2)),Heap.get?_update_ne _ _ _ _ (ZA l2),Xx _ _ _ (ZA l2)];exact q
 have back:∀{v:Value}{l:List (List Int)},TupK s.heap pat v l->TupK (((s.heap.push (seqObj "list" #[] 0)).update s.heap.objs.size (Obj.mapSeq (·++vs.toArray))).push (seqObj "list" vs.toArray 0)) pat v l:=λx=>x.keep λb o q _=>kp b o q;refine Za (m:=checkCount "sorted" 1 1 _) (Zg (Za (collect_list hl (Za (wpAny_newList ?_ hz)) hz)));show wpAny _ _ _ _ _ { s with heap:=((s.heap.push (seqObj "list" #[] 0)).update s.heap.objs.size (Obj.mapSeq (·++vs.toArray))).push (seqObj "list" vs.toArray 0) };rw[hsz];refine Za (Yg (Yp slot_list_sort ⟨_,hL,rfl⟩ entry_list_sort (q97 (pat:=pat) hL (λv q=>(hv v q).imp λ_ z=>⟨back z.1,z.2⟩) hz λout a1 a2=>⟨_,rfl,Zg ⟨_,rfl,h out a1 ?_⟩⟩) (args_list_sort _)));exact List.Pairwise.imp (λz l m x y=>z l m (back x) (back y)) a2
end
end PyProof.Rows
namespace L2
open PySem PySem.Spec PyProof.Rows
inductive AtV:Bool->V->List Int->Prop
 |int (i:Int):AtV false (.int i) [i]
 |str (x:Str):AtV true (.str x) (x.cps.toList.map Int.ofNat)
inductive AtsV (pat:Nat->Bool):Nat->List V->List (List Int)->Prop
 |nil {i:Nat}:AtsV pat i [] []
 |cons {i:Nat}{v:V}{l:List Int}{vs:List V}{ls:List (List Int)}(h:AtV (pat i) v l) (r:AtsV pat (i+1) vs ls):AtsV pat i (v::vs) (l::ls)
def TupV (H:Hp) (pat:Nat->Bool) (v:V) (l:List (List Int)):Prop:=∃a xs,v=.ref a/\H a=some (.tup xs)/\AtsV pat 0 xs l
def AscV (H:Hp) (pat:Nat->Bool) (vs:List V):Prop:=vs.Pairwise λu v=>∀l m,TupV H pat u l->TupV H pat v m->¬m<l
theorem AtV.rel {k:Bool}{x:V}{l:List Int}{u:Value}(h:AtV k x l) (r:RelV x u):AtK k u l:=by
 cases h with
 |int i=>obtain⟨t,rfl⟩:=r;exact .int i t
 |str x=>obtain⟨t,rfl⟩:=r;exact .str x t
theorem AtsV.rel {pat:Nat->Bool}:∀{i:Nat}{xs:List V}{ls:List (List Int)}{us:List Value},AtsV pat i xs ls->Vals xs us->AtsK pat i us ls
 |_,_,_,_,.nil,.nil=>.nil
 |_,_,_,_,.cons h r,.cons h' r'=>.cons (h.rel h') (r.rel r')
theorem TupV.rel {P:Program}{w:World}{H:Hp}{h:Heap}(ok:HOk P w H h){pat:Nat->Bool}{x:V}{l:List (List Int)}{u:Value}(t:TupV H pat x l) (r:RelV x u):TupK h pat u l:=by
 obtain⟨a,xs,rfl,e,ha⟩:=t;cases (show u=Value.ref a from r);obtain⟨_,its,rv,o,ho,hc,n,hd⟩:=ok a _ e;exact⟨a,o,_,n,rfl,ho,hc,hd,by simpa using ha.rel rv⟩
theorem q98:∀{us us':List Value},us'.Perm us->∀{xs:List V},Vals xs us->∃xs',Vals xs' us'/\xs'.Perm xs:=by
 intro us us' p
 induction p with
 |nil=>intro xs r;exact⟨xs,r,.refl _⟩
 |cons u p ih=>
  intro xs r;cases r with
  |cons h r=>
   obtain⟨xs',r',p'⟩:=ih r;exact⟨_::xs',.cons h r',p'.cons _⟩
 |swap u v l=>
  intro xs r;cases r with
  |cons h r=>
   cases r with
   |cons h2 r=>exact⟨_::_::_,.cons h2 (.cons h r),List.Perm.swap _ _ _⟩
 |trans p q ihp ihq=>
  intro xs r;obtain⟨x1,r1,p1⟩:=ihq r;obtain⟨x2,r2,p2⟩:=ihp r1;exact⟨x2,r2,p2.trans p1⟩
theorem qW2:∀{xs:List V}{us:List Value}{u:Value},Vals xs us->u∈us->∃x,x∈xs/\RelV x u
 |_,_,u,.nil,h=>by simp at h
 |_,_,u,.cons r rs,h=>by
  rcases ZB.mp h with rfl|z
  ·exact⟨_,by simp,r⟩
  ·obtain⟨x,h1,h2⟩:=qW2 rs z;exact⟨x,by simp[h1],h2⟩
theorem qW3 {P:Program}{w:World}{H:Hp}{h:Heap}(ok:HOk P w H h){pat:Nat->Bool}:∀{xs:List V}{us:List Value},Vals xs us->AscT h pat us->AscV H pat xs
 |_,_,.nil,_=>.nil
 |x::xs,u::us,.cons r rs,a=>by
  obtain⟨a1,a2⟩:=Xl.mp a;refine Xl.mpr ⟨λy hy l m tl tm=>?_,qW3 ok rs a2⟩;obtain⟨v,hv,rv⟩:∃v,v∈us/\RelV y v:=by
   clear a a1 a2
   induction rs with
   |nil=>simp at hy
   |cons h t ih=>
    rcases ZB.mp hy with rfl|z
    ·exact⟨_,by simp,h⟩
    ·obtain⟨v,h1,h2⟩:=ih z;exact⟨v,by simp[h1],h2⟩
  exact a1 v hv l m (tl.rel ok r) (tm.rel ok rv)
section
variable {X:Cx}
theorem qN2:qh1 X (.builtin "sorted") (λxs H Q=>∃(p:Addr) (vs:List V) (pat:Nat->Bool),xs=[.ref p]/\H p=some (.lst vs)/\(∀v∈vs,∃l,TupV H pat v l/\l≠[]) /\
  ∀q us,H q=none->us.Perm vs->AscV H pat us->Q (.ref q) (upd H q (.lst us))):=by
 intro j8 s σ H xs us Q I r h;obtain⟨p,vs,pat,rfl,hp,ht,q⟩:=h;obtain⟨u,rfl,ru⟩:=qj8 r;cases ru;obtain⟨hz,its,n,rv,ho⟩:=I.hok p _ hp;have hl:=rv.length;refine q16 (pat:=pat) (vs:=its) ⟨_,ho,rfl,n,rfl⟩ (λv hv=>?_) (by lia) λout o1 o2=>?_
 ·obtain⟨x,hx,rx⟩:=qW2 rv hv;obtain⟨l,t,ne⟩:=ht x hx;exact⟨l,t.rel I.hok rx,ne⟩
 ·obtain⟨e,he⟩:=sortedAll_at s.heap its out;obtain⟨xs',r',p'⟩:=q98 o1 rv;exact⟨.ref _,_,I.laid (a:=s.heap.objs.size+1) (o:=.lst xs') (t':=s.toks) (λb o z=>sortedAll_old z) (Wy _) ⟨by rw[p'.length_eq];exact hz,out.toList,e,r',by simpa using he⟩,rfl,q _ xs' (I.hok.fresh (Wy _)) p' (qW3 I.hok r' o2)⟩
end
end L2
namespace EnumT
open PySem PySem.Spec
section
variable {prog:Program}{w:World}{A:Around}{E:Value->Shared->Prop}{s:Shared}
theorem q17 {it t:Addr}{i:Nat}{items:Array Value}{x:Value}{Q:Value->Shared->Prop}(st:s.heap.IsTupleIter it t i) (ht:s.heap.IsTuple t items) (hx:items[i]?=some x)
  (q:∀h',h'.IsTupleIter it t (i+1)->Heap.SameBut it s.heap h'->Q x { s with heap:=h' }):wpAny (model prog w) A (Builtin.SmallTypes.nextOf (.ref it)) Q E s:=by
 obtain⟨o,e1,e2,e3⟩:=id st;obtain⟨ot,f1,_,nt,f2⟩:=ht;unfold Builtin.SmallTypes.nextOf;refine Za (ZY (name:=Str.ofString "__next__") st.typeIs Xm (Yp Xm st.typeIs F.entry_tuple_iterator_next ?_ (F.args_tuple_iterator_next_1 _)));show wpAny _ _ (field (.ref it) 0 >>= _) _ _ s;refine Za (YV e1 e3 (x:=.ref t) rfl ?_);show wpAny _ _ (if (Value.ref t==Value.none)=true then _ else _) _ _ s;rw[Zk (show ¬((Value.ref t==Value.none)=true) from ZD)];show wpAny _ _ (field (.ref it) 1 >>= _) _ _ s;refine Za (YV e1 e3 (x:=.int i 0) rfl ?_);show wpAny _ _ (seqItems? (.ref t) >>= _) _ _ s;refine Za (wpAny_seqItems f1 f2 ?_);simp only[Xb,hx];refine Za (Vu e1 e3 (by simp) (Zg ⟨x,rfl,Zg (q _ ⟨_,Xo _ e1 (Obj.isFreed_of_fields (Ww e3 _)),(Obj.cls_mapFields ..).trans e2,?_⟩ (Yq ..))⟩));rw[Ww e3];simp[rawInt]
theorem q99 {it t:Addr}{i:Nat}{items:Array Value}{Q:Value->Shared->Prop}(hh:A.handled=none) (st:s.heap.IsTupleIter it t i) (ht:s.heap.IsTuple t items) (hx:items[i]?=none)
  (q:∀h' e,Heap.ExtBut it s.heap h'->(∃o,h'.get? e=some o/\o.cls=.type "StopIteration")->E (.ref e) { s with heap:=h' }):wpAny (model prog w) A (Builtin.SmallTypes.nextOf (.ref it)) Q E s:=by
 obtain⟨o,e1,e2,e3⟩:=id st;obtain⟨ot,f1,_,nt,f2⟩:=ht;unfold Builtin.SmallTypes.nextOf;refine Za (ZY (name:=Str.ofString "__next__") st.typeIs Xm (Yp Xm st.typeIs F.entry_tuple_iterator_next ?_ (F.args_tuple_iterator_next_1 _)));show wpAny _ _ (field (.ref it) 0 >>= _) _ _ s;refine Za (YV e1 e3 (x:=.ref t) rfl ?_);show wpAny _ _ (if (Value.ref t==Value.none)=true then _ else _) _ _ s;rw[Zk (show ¬((Value.ref t==Value.none)=true) from ZD)];show wpAny _ _ (field (.ref it) 1 >>= _) _ _ s;refine Za (YV e1 e3 (x:=.int i 0) rfl ?_);show wpAny _ _ (seqItems? (.ref t) >>= _) _ _ s;refine Za (wpAny_seqItems f1 f2 ?_);simp only[Xb,hx];refine Za (Xk (Za (Vu e1 e3 (by simp) ?_)));show wpAny _ _ (newExc (.type "StopIteration") [] >>= _) _ _ _;refine Za ?_;simp only[newExc,newTuple];refine Za (Z7 ?_ (by size_fits));refine Za (m:=firstArgMember _ _) (wpAny_of_eq (a:=Value.none) (by first|rfl|(simp only[firstArgMember];rfl)) ?_);refine Z7 ?_ (by size_fits);simp only[raiseNew];refine Za (wpAny_handled ?_)
 first|rw[show A.in1.handled=none from hh]|rw[hh]
 refine Za (Zg (wpAny_throw ?_));exact q _ _ (((Yq ..).extBut.push _).push _) ⟨_,Zo _ rfl,rfl⟩
theorem pair_next {e it:Addr}{i:Nat}{x old:Value}{St:Heap->Prop}{Q:Value->Shared->Prop}(he:IsEnum s.heap e it i old) (jH:e≠it)
  (nx:∀Q':Value->Shared->Prop,(∀h',Heap.SameBut it s.heap h'->St h'->Q' x { s with heap:=h' })->wpAny (model prog w) A (Builtin.SmallTypes.nextOf (.ref it)) Q' E s)
  (q:∀h1 h',Heap.SameBut it s.heap h1->St h1->IsEnumOut h' e it ((i:Int)+1) x s.heap.objs.size->h'.get? s.heap.objs.size=some { cls:=.type "tuple",data:=.seq #[.int i s.toks,x] } ->
   (∀b o,b≠e->h1.get? b=some o->h'.get? b=some o)->Q (.ref s.heap.objs.size) { s with heap:=h',toks:=s.toks+1 }) :
  wpAny (model prog w) A (Builtin.«enumerate.__next__» ⟨[.ref e],[]⟩) (λfin s'=>∃v,fin=.done (.ret v)/\Q v s') E s:=by
 obtain⟨hp,g,d,tk,os⟩:=s;show wpAny _ _ (field (.ref e) 2 >>= _) _ _ _;refine Za (YV he rfl (x:=.ref it) rfl ?_);refine Za (nx _ λh₁ s1 st1=>?_)
 replace s1:Heap.SameBut it hp h₁:=s1
 have he₁:IsEnum h₁ e it i old:=(s1.2 e jH).trans he;show wpAny _ _ (field (.ref e) 3 >>= _) _ _ ⟨h₁,g,d,tk,os⟩;refine Za (YV he₁ rfl (x:=rawInt i) rfl ?_);show wpAny _ _ (field (.ref e) 4 >>= _) _ _ ⟨h₁,g,d,tk,os⟩;refine Za (YV he₁ rfl (x:=.none) rfl ?_);show wpAny _ _ (mkInt i >>= _) _ _ ⟨h₁,g,d,tk,os⟩;refine Za (wpAny_mkInt ?_);show wpAny _ _ (setField (.ref e) 3 (rawInt ((i:Int)+1)) >>= _) _ _ ⟨h₁,g,d,tk+1,os⟩;refine Za (XS he₁ (by simp) λh₂ he₂ s2=>?_)
 replace s2:Heap.SameBut e h₁ h₂:=s2
 replace he₂:IsEnum h₂ e it ((i:Int)+1) old:=he₂
 show wpAny _ _ (setField (.ref e) 4 .none >>= _) _ _ ⟨h₂,g,d,tk+1,os⟩;refine Za (XS he₂ (by simp) λh₃ he₃ s3=>?_)
 replace s3:Heap.SameBut e h₂ h₃:=s3
 replace he₃:IsEnum h₃ e it ((i:Int)+1) old:=he₃
 show wpAny _ _ (newTuple [.int i tk,x] >>= _) _ _ ⟨h₃,g,d,tk+1,os⟩;refine Za (wpAny_newTuple ?_);have z3:h₃.objs.size=hp.objs.size:=by rw[s3.1,s2.1,s1.1]
 have elt:e<hp.objs.size:=Zs he;obtain⟨h₄,e4⟩:∃h₄,h₃.push { cls:=.type "tuple",data:=.seq #[.int i tk,x] }=h₄:=⟨_,rfl⟩;have he₄:IsEnum h₄ e it ((i:Int)+1) old:=by rw[<- e4];exact Zf _ he₃
 have ht₄:h₄.get? hp.objs.size=some { cls:=.type "tuple",data:=.seq #[.int i tk,x] }:=by rw[<- e4,<- z3];exact Zo _ rfl
 have k4:∀b o,b≠e->h₁.get? b=some o->h₄.get? b=some o:=λb o hb eb=>by
  rw[<- e4];exact Zf _ (s3.extBut b o hb (s2.extBut b o hb eb))
 rw[e4];show wpAny _ _ (Builtin.SmallTypes.ownedTupleIsFree (.ref e) >>= _) _ _ ⟨h₄,g,d,tk+1,os⟩;rw[z3];refine Za ?_;unfold Builtin.SmallTypes.ownedTupleIsFree;refine Za (YV he₄ rfl (x:=.none) rfl (Zg ?_));simp only[Xs];refine Za (Xk ?_);refine Za (YV he₄ rfl (x:=old) rfl ?_);refine Za (XS he₄ (by simp) λh₅ he₅ s5=>?_)
 replace s5:Heap.SameBut e h₄ h₅:=s5
 replace he₅:IsEnum h₅ e it ((i:Int)+1) x:=he₅
 show wpAny _ _ (Builtin.SmallTypes.ownedTupleHandOut (.ref e) (.ref hp.objs.size) >>= _) _ _ ⟨h₅,g,d,tk+1,os⟩;refine Za ?_;unfold Builtin.SmallTypes.ownedTupleHandOut;refine Za (XS he₅ (by simp) λh₆ he₆ s6=>?_)
 replace s6:Heap.SameBut e h₅ h₆:=s6
 replace he₆:IsEnumOut h₆ e it ((i:Int)+1) x hp.objs.size:=he₆
 refine XS he₆ (by simp) λh₇ he₇ s7=>?_
 replace s7:Heap.SameBut e h₆ h₇:=s7
 replace he₇:IsEnumOut h₇ e it ((i:Int)+1) x hp.objs.size:=he₇
 have k7:∀b o,b≠e->h₄.get? b=some o->h₇.get? b=some o:=λb o hb eb=>s7.extBut b o hb (s6.extBut b o hb (s5.extBut b o hb eb));exact Za (wpAny_letGo (Zg ⟨_,rfl,q h₁ h₇ s1 st1 he₇ (k7 _ _ (Vi elt) ht₄) λb o hb eb=>k7 b o hb (k4 b o hb eb)⟩))
theorem next_pair {e it t:Addr}{i:Nat}{items:Array Value}{x old:Value}{Q:Option Value->Shared->Prop}(he:IsEnum s.heap e it i old) (jH:e≠it) (st:s.heap.IsTupleIter it t i) (ht:s.heap.IsTuple t items) (hx:items[i]?=some x)
  (q:∀h1 h',Heap.SameBut it s.heap h1->IsEnumOut h' e it ((i:Int)+1) x s.heap.objs.size->h'.IsTupleIter it t (i+1)->h'.get? s.heap.objs.size=some { cls:=.type "tuple",data:=.seq #[.int i s.toks,x] } ->
   (∀b o,b≠e->h1.get? b=some o->h'.get? b=some o)->Q (some (.ref s.heap.objs.size)) { s with heap:=h',toks:=s.toks+1 }):wpAny (model prog w) A (pyNext (.ref e)) Q E s:=by
 have hT:s.TypeIs (.ref e) "enumerate":=⟨_,he,rfl⟩;unfold pyNext;refine Za (XY (ZY (name:=Str.ofString "__next__") hT YZ (Yp YZ hT WN
  (pair_next (St:=λh=>h.IsTupleIter it t (i+1)) he jH (λQ' q'=>q17 st ht hx λh' st' sb=>q' h' sb st') λh1 h' sb st1 ho hT' kp=>Zg (q h1 h' sb ho ?_ hT' kp)) (WB _))))
 obtain⟨o,x1,x2⟩:=st1;exact⟨o,kp it o (Yx jH) x1,x2⟩
theorem next_end {e it t:Addr}{i:Nat}{items:Array Value}{old:Value}{Q:Option Value->Shared->Prop}(hh:A.handled=none) (he:IsEnum s.heap e it i old) (st:s.heap.IsTupleIter it t i) (ht:s.heap.IsTuple t items) (hx:items[i]?=none)
  (q:∀h',Heap.ExtBut it s.heap h'->Q none { s with heap:=h' }):wpAny (model prog w) A (pyNext (.ref e)) Q E s:=by
 have hT:s.TypeIs (.ref e) "enumerate":=⟨_,he,rfl⟩;unfold pyNext;refine Za (XY (ZY (name:=Str.ofString "__next__") hT YZ (Yp YZ hT WN ?_ (WB _))));show wpAny _ _ (field (.ref e) 2 >>= _) _ _ _;refine Za (YV he rfl (x:=.ref it) rfl ?_);refine Za (q99 hh st ht hx λh' x eb ⟨o,ho,hc⟩=>?_);exact Za (wpAny_isInstance (T:= "StopIteration") (b:=true) ⟨o,ho,hc⟩ isSubtype_stop (Zg (q _ eb)))
theorem xa0 (l:Addr) (items:Array Value) (n:Nat) (dct:Option Addr) (sl:Array (Option Value)) :
  Meets (Builtin.«enumerate.__new__» ⟨[.type "enumerate",.ref l],[]⟩) (λ_ R s=>s.heap.get? l=some { cls:=.type "tuple",dict:=dct,data:=.seq items n,slots:=sl } /\
   R (.ok (.ret (.ref (s.heap.push { cls:=.type "tuple_iterator",data:=.fields #[.ref l,.int 0 0] }).objs.size)))
    { s with heap:=(s.heap.push { cls:=.type "tuple_iterator",data:=.fields #[.ref l,.int 0 0] }).push { cls:=.type "enumerate",data:=.fields #[.none,.bool false,.ref s.heap.objs.size,rawInt 0,.none,.none] } }):=
 .of_wp λprog w A R s h=>by
  obtain⟨hp,g,d,tk,os⟩:=s;obtain⟨hl,h⟩:=h;have f0:=sub_enumerate;have hL:Heap.IsTuple (Shared.heap ⟨hp,g,d,tk,os⟩) l items:=⟨_,hl,rfl,n,rfl⟩
  wp_walk using Wr hl
  refine wpAny_stack_any λst=>Zg ?_;split
  ·rename_i c _ _ _ _ _;cases (c==Value.type "enumerate")
   all_goals
    wp_walk using Wr hl,XQ hL
    exact⟨_,rfl,h⟩
  ·wp_walk using Wr hl,XQ hL
   exact⟨_,rfl,h⟩
theorem call_new {l:Addr}{items:Array Value}{Q:Value->Shared->Prop}(hL:s.heap.IsTuple l items)
  (q:∀h',IsEnum h' (s.heap.objs.size+1) s.heap.objs.size 0 .none->h'.IsTupleIter s.heap.objs.size l 0->(∀b o,s.heap.get? b=some o->h'.get? b=some o)->Q (.ref (s.heap.objs.size+1)) { s with heap:=h' }) :
  wpAny (model prog w) A (call (.type "enumerate") [.ref l]) Q E s:=by
 obtain⟨⟨c,dct,dt,sl⟩,hl,hc,n,hd⟩:=hL
 replace hc:c=.type "tuple":=hc
 replace hd:dt=.seq items n:=hd
 subst hc hd;refine callType_new F.called_enumerate (by decide) (F.typeCall_enumerate_1 _) (F.newCall_enumerate_1 _) (λobj=>F.args_object_init_2 obj _) F.entry_enumerate_new (xa0 l items n dct sl) ⟨hl,?_⟩;have z1:(s.heap.push { cls:=.type "tuple_iterator",data:=.fields #[.ref l,.int 0 0] }).objs.size=s.heap.objs.size+1:=YG ..;show _/\_;rw[z1];have he:=Zo (s.heap.push { cls:=.type "tuple_iterator",data:=.fields #[.ref l,.int 0 0] }) (o:={ cls:=.type "enumerate",data:=.fields #[.none,.bool false,.ref s.heap.objs.size,rawInt 0,.none,.none] }) rfl;rw[z1] at he;exact⟨⟨_,he,rfl⟩,q _ he ⟨_,Zf _ (Zo _ rfl),rfl,rfl⟩ λb o x=>Zf _ (Zf _ x)⟩
end
end EnumT
namespace L2
open PySem PySem.Spec PyProof.Rows
def Ite (K:PySem.W.Frag) (a:Addr):It:=
 ⟨λi H=>∃xs x,SqT K H a xs/\xs[i]?=some x,λi H y H'=>∃p x,H p=none/\(∀xs,SqT K H a xs->xs[i]?=some x)/\H'=upd H p (.tup [.int i,x])/\y=.ref p,λi H=>∃xs,SqT K H a xs/\xs.length<=i⟩
theorem qH5 {h:Heap}{o o':Obj}{b:Addr}(e:(h.push o).get? b=some o') (jB:b<h.objs.size):h.get? b=some o':=by
 unfold Heap.get? Heap.push at *;simp only[Ve] at e;rw[Zk (ZA jB)] at e;exact e
theorem q18 {P:Program}{w:World}{K:PySem.W.Frag}{elts:List Expr}{x1:Nat}{tpos:Pos}(a e it:Addr) (jH:e≠it) :
  Turn P w K (.Tuple elts x1 tpos) (Ite K a) [e,it] e (λi h=>(∃old,IsEnum h e it i old)/\h.IsTupleIter it a i) where
 mem:=by simp
 obj:=λi h st b hb=>by
  rcases ZB.mp hb with rfl|hb
  ·obtain⟨⟨old,z⟩,_⟩:=st;exact⟨_,z,λv q=>by
    have q':Data.fields _=Data.cell v:=q;cases q'⟩
  ·have:b=it:=by simpa using hb
   subst this;obtain⟨_,o,z,_,d⟩:=st;exact⟨o,z,λv q=>by rw[d] at q;cases q⟩
 keep:=λi h h' st k=>by
  obtain⟨⟨old,z⟩,st2⟩:=st;exact⟨⟨old,k e (by simp) _ z⟩,st2.at λo q=>k it (by simp) o q⟩
 item:=by
  intro X hP hw hK hc i j8 s σ H E I hf st hg;subst hP hw hK;obtain⟨⟨old,he⟩,st2⟩:=st;obtain⟨xs,x,hq,hx⟩:=hg;obtain⟨its,rv,p,hz⟩:=I.tuple hq;obtain⟨u,hu,ru⟩:=rv.get hx;obtain⟨e0,e1,e2,e3,e4,e5⟩:=hf e (by simp);obtain⟨f0,f1,f2,f3,f4,f5⟩:=hf it (by simp);refine EnumT.next_pair he jH st2 (show s.heap.IsTuple a its.toArray from p) (x:=u) (by simpa using hu) λh1 h' sb ho st3 ht kp=>?_;refine⟨_,rfl,wpAny_letOwnedTupleGo_enum ho λh2 jZ sb2=>?_⟩;have elt:e<s.heap.objs.size:=Zs he;have ilt:it<s.heap.objs.size:=by obtain⟨o,z,_⟩:=st2;exact Zs z
  have fresh:H s.heap.objs.size=none:=I.hok.fresh (Zd _);have z1:h1.objs.size=s.heap.objs.size:=sb.1;have J0:Inv X j8 σ (upd H s.heap.objs.size (.tup [.int i,x])) { s with heap:=s.heap.push { cls:=.type "tuple",data:=.seq #[.int i s.toks,u] },toks:=s.toks+1 }:=
   I.laid (λb o q=>Zf _ q) (Zd _) ⟨by show 2<=sizeLine;decide,[.int i s.toks,u],.cons ⟨_,rfl⟩ (.cons ru .nil),_,Zo _ rfl,rfl,⟨_,rfl⟩,rfl⟩
  have ne1:(upd H s.heap.objs.size (.tup [.int i,x])) it=none:=by rw[qa5 (ZA ilt)];exact f0
  have ne2:(upd H s.heap.objs.size (.tup [.int i,x])) e=none:=by rw[qa5 (ZA elt)];exact e0
  have J1:=J0.turned (it:=it) (h':=h1.push { cls:=.type "tuple",data:=.seq #[.int i s.toks,u] }) (t':=s.toks+1) (λb o hb q=>by
    have q:(s.heap.push { cls:=.type "tuple",data:=.seq #[.int i s.toks,u] }).get? b=some o:=q;by_cases jB:b<s.heap.objs.size
    ·have q':s.heap.get? b=some o:=qH5 q jB;exact Zf _ ((sb.2 b hb).trans q')
    ·have kE:b<s.heap.objs.size+1:=by have:=Zs q;rw[YG] at this;exact this
     have eb:b=s.heap.objs.size:=Wt (Xd kE) (Wf jB);subst eb;rw[Zo _ rfl] at q;cases q;have:=Zo h1 (o:={ cls:=.type "tuple",data:=.seq #[.int i s.toks,u] }) rfl;rw[z1] at this;exact this) ne1 f1 f3 f4 f5
  have J2:=J1.turned (it:=e) (h':=h') (t':=s.toks+1) (λb o hb q=>by
    have q:(h1.push { cls:=.type "tuple",data:=.seq #[.int i s.toks,u] }).get? b=some o:=q;by_cases jB:b<s.heap.objs.size
    ·have q':h1.get? b=some o:=qH5 q (by rw[z1];exact jB);exact kp b o hb q'
    ·have kE:b<s.heap.objs.size+1:=by have:=Zs q;rw[YG,z1] at this;exact this
     have eb:b=s.heap.objs.size:=Wt (Xd kE) (Wf jB);subst eb;have:=Zo h1 (o:={ cls:=.type "tuple",data:=.seq #[.int i s.toks,u] }) rfl;rw[z1] at this;rw[this] at q;cases q;exact ht) ne2 e1 e3 e4 e5
  have J3:=J2.turned (it:=e) (h':=h2) (t':=s.toks+1) (λb o hb q=>(sb2.2 b hb).trans q) ne2 e1 e3 e4 e5;refine⟨.ref s.heap.objs.size,_,J3,rfl,⟨_,x,fresh,λys hy=>by rw[I.tuple_inj hy hq];exact hx,rfl,rfl⟩,⟨⟨u,by
   have:(((i+1:Nat)):Int)=(i:Int)+1:=by lia
   rw[this];exact jZ⟩,st3.at λo q=>(sb2.2 it (Yx jH)).trans q⟩,λb hb=>?_⟩
  rcases ZB.mp hb with rfl|hb
  ·exact ne2
  ·have:b=it:=by simpa using hb
   subst this;exact ne1
 done:=by
  intro X hP hw hK hc i j8 s σ H E I hf st hg;subst hP hw hK;obtain⟨⟨old,he⟩,st2⟩:=st;obtain⟨xs,hq,hx⟩:=hg;obtain⟨its,rv,p,hz⟩:=I.tuple hq;obtain⟨f0,f1,f2,f3,f4,f5⟩:=hf it (by simp);have hl:=rv.length;exact EnumT.next_end (I.ok.hd hc) he st2 (show s.heap.IsTuple a its.toArray from p) (by simp;lia) λh' eb=>⟨rfl,I.turned (t':=s.toks) (λb o hb e=>eb b o hb e) f0 f1 f3 f4 f5⟩
 self:=λ_ _ _ _ _ st h=>by
  obtain⟨⟨old,he⟩,_⟩:=st;exact WO he h
section
variable {X:Cx}{elts:List Expr}{x1:Nat}{tpos:Pos}
def xC6 (K:PySem.W.Frag) (ta:TA):TI:=λσ H R=>ta σ H λvs H1=>∃a,vs=[.ref a]/\(∃xs,SqT K H1 a xs)/\R (Ite K a) H1
theorem qH6 {e:Expr}{ta:TA}{p pos:Pos}(hg:Gl X "enumerate") (hm:X.mg "enumerate" = none) (ha:PA X [e] ta) (hs:starEach [e] X.env=[(false,eval e X.env)]:=by rfl):PI X (.Tuple elts x1 tpos) (.Call (.Name "enumerate" p) [e] [] pos) (xC6 X.K ta):=by
 intro j8 s σ H R I h;refine Call_ (qC8 I hg hm Vm (Xg (thn (ha pos j8 s σ H _ I h) λus s1 ⟨vs,H1,I1,r1,q1⟩=>?_) hs rfl));obtain⟨a,rfl,⟨xs,hq⟩,q⟩:=q1;obtain⟨u,rfl,ru⟩:=qj8 r1;cases ru;obtain⟨its,rv,pt,hz⟩:=I1.tuple hq;refine EnumT.call_new (show s1.heap.IsTuple a its.toArray from pt) λh' he st kp=>?_;refine WO he ?_;have J:Inv X j8 σ H1 { s1 with heap:=h' }:=I1.kept (t':=s1.toks) kp;refine⟨s1.heap.objs.size+1,[s1.heap.objs.size+1,s1.heap.objs.size],_,_,H1,rfl,J,q18 a _ _ (Nat.succ_ne_self _),⟨⟨.none,he⟩,st⟩,λb hb=>?_,q⟩;rcases ZB.mp hb with rfl|hb
 ·exact I1.fpOk (Wy _) (I1.hok.fresh (Wy _))
 ·have:b=s1.heap.objs.size:=by simpa using hb
  subst this;exact I1.fpOk (Zd _) (I1.hok.fresh (Zd _))
end
section
variable {X:Cx}
def qc4 (X:Cx) (scope:Scope) (cl:List (Str×Addr)) (C:Addr) (ns:List Str) (fp:List Addr) (s₀:Shared) (H₀:Hp):Cx:=
 { X with N:=ns++X.N,s₀:=s₀,H₀:=H₀,env:=compEnvC scope cl C X.env,outer:=X.stack,stack:=X.stack,ex:=fp,fn:=λ_=>false,pn:=[],xe:=λ_ _=>False }
def qr7 (n:Nat) (wi:TI) (g:TG) (tt:TT) (te:TE):TE:=λσ H Q=>wi σ H λJ H1=>∀D,H1 D=none->∃W:Nat->Nat->List V->Hp->Prop,(∃m,W 0 m [] (upd H1 D (.lst []))) /\
 ∀i m xs H2,W i m xs H2->H2 D=some (.lst xs)/\xs.length<sizeLine/\((J.stop i H2/\Q (.ref D) H2)\/(J.go i H2/\∀y H3,J.yld i H2 y H3->∀os:St,os.length=n ->
  g y (os++σ) H3 λσ4 H4=>tt σ4 H4 λb H5=>if b=true then te σ4 H5 λv H6=>H6 D=some (.lst xs)/\∃m',m'<m/\W (i+1) m' (xs++[v]) (upd H6 D (.lst (xs++[v]))) else ∃m',m'<m/\W (i+1) m' xs H5))
theorem qN3 {prog:Program}{w:World}{A:Around}{R:Result->Shared->Prop}{s:Shared}{elt target iter:Expr}{ifs:List Expr}{scope:Scope}{pos:Pos}{it acc:Value}{env:Env}(T:Sem Bool)
  (hT:compTurn (.ListComp elt [⟨target,iter,ifs,0⟩] scope pos) 0 it acc env=(standAt iter.pos >>= λ_=>pyNext it >>= λr=>match r with
   |none=>pure (.done .next)
   |some v=>letOwnedTupleGo target it v >>= λ_=>assign target env v >>= λ_=>T >>= λok=>(if ok=true then (eval elt env >>= λx=>call (.builtin "list.append") [acc,x] >>= λ_=>pure ()) else pure ()) >>= λ_=>
     again (.compLoop (.ListComp elt [⟨target,iter,ifs,0⟩] scope pos) 0 it acc env)))
  (I:Nat->Shared->Prop)
  (turn:∀n s,I n s->wpAny (model prog w) A (pyNext it) (λr s₁=>match r with
   |none=>R (.ok .next) s₁
   |some v=>wpAny (model prog w) A (letOwnedTupleGo target it v) (λ_ s₁'=>wpAny (model prog w) A (assign target env v) (λ_ s₂=>wpAny (model prog w) A T (λok s₃=>
     if ok=true then wpAny (model prog w) A (eval elt env) (λx s₄=>wpAny (model prog w) A (call (.builtin "list.append") [acc,x]) (λ_ s₅=>∃m,m<n/\I m s₅) (λ_ _=>False) s₄) (λ_ _=>False) s₃
     else ∃m,m<n/\I m s₃) (λ_ _=>False) s₂) (λ_ _=>False) s₁') (λ_ _=>False) s₁) (λ_ _=>False) s)
  (n:Nat) (h:I n s):codeAny (model prog w) A (.compLoop (.ListComp elt [⟨target,iter,ifs,0⟩] scope pos) 0 it acc env) R s:=by
 refine codeAny_loop rfl I (λn s hI=>?_) n h;show wpAny _ A ((compTurn (.ListComp elt [⟨target,iter,ifs,0⟩] scope pos) 0 it acc env).onRaise (λx=>do noteFrame x env;theTreesLotGoes x)) _ _ s;refine wpAny_noted ?_;rw[hT];refine Za (wpAny_standAt (Za (Y0 (turn n s hI) (λr s₁ h₁=>?_) λ_ _ h'=>h'.elim)));cases r with
 |none=>exact Zg h₁
 |some v=>
  refine Za (Y0 h₁ (λ_ s₁' h₁'=>?_) λ_ _ h'=>h'.elim);refine Za (Y0 h₁' (λ_ s₂ h₂=>Za (Y0 h₂ (λok s₃ h₃=>?_) λ_ _ h'=>h'.elim)) λ_ _ h'=>h'.elim);cases ok with
  |true=>
   rw[Zp rfl] at h₃;simp only[Xs];exact Za (Za (Y0 h₃ (λx s₄ h₄=>Za (Y0 h₄ (λ_ s₅ h₅=>Zg (Zg ⟨rfl,h₅⟩)) λ_ _ h'=>h'.elim)) λ_ _ h'=>h'.elim))
  |false=>
   rw[Zk ZD] at h₃;simp only[Zy,Z8];exact Za (Zg (Zg ⟨rfl,h₃⟩))
theorem qS3 (elt target iter:Expr) (scope:Scope) (pos:Pos) (it acc:Value) (env:Env):compTurn (.ListComp elt [⟨target,iter,[],0⟩] scope pos) 0 it acc env=(standAt iter.pos >>= λ_=>pyNext it >>= λr=>match r with
   |none=>pure (.done .next)
   |some v=>letOwnedTupleGo target it v >>= λ_=>assign target env v >>= λ_=>(pure true:Sem Bool) >>= λok=>(if ok=true then (eval elt env >>= λx=>call (.builtin "list.append") [acc,x] >>= λ_=>pure ()) else pure ()) >>= λ_=>
     again (.compLoop (.ListComp elt [⟨target,iter,[],0⟩] scope pos) 0 it acc env)):=by
 rw[compTurn_list1];congr 1
theorem qH7 (elt target iter c:Expr) (scope:Scope) (pos:Pos) (it acc:Value) (env:Env):compTurn (.ListComp elt [⟨target,iter,[c],0⟩] scope pos) 0 it acc env=(standAt iter.pos >>= λ_=>pyNext it >>= λr=>match r with
   |none=>pure (.done .next)
   |some v=>letOwnedTupleGo target it v >>= λ_=>assign target env v >>= λ_=>isTrue c env (eval c env) >>= λok=>(if ok=true then (eval elt env >>= λx=>call (.builtin "list.append") [acc,x] >>= λ_=>pure ()) else pure ()) >>= λ_=>
     again (.compLoop (.ListComp elt [⟨target,iter,[c],0⟩] scope pos) 0 it acc env)):=by
 rw[compTurn_list];refine VN λ_=>VN λr=>?_;cases r with
 |none=>rfl
 |some v=>
  refine VN λ_=>VN λ_=>?_;simp only[Va,VX,Xs,bind_assoc,Vn];refine VN λok=>?_;cases ok<;>simp
theorem qz7 {j8:List (Addr×Obj)}{σ:St}{H:Hp}{s:Shared}{h':Heap}{tk:Nat}{scope:Scope}{cl:List (Str×Addr)}{C:Addr}{nn:List Str}{fp:List Addr}{m:Str->Option Value}
  (I:Inv X j8 σ H s) (hC:C=s.heap.objs.size) (keep:∀b o,s.heap.get? b=some o->h'.get? b=some o) (ns:h'.Ns C m) (hfp:∀b∈fp,FpOk X j8 H b) (hfs:∀b∈fp,b<s.heap.objs.size)
  (jE:scope.kind=.function) (jC:∀y∈scope.names,y.2≠.cell) (jL:∀y∈X.N,scope.names.lookup y≠some .local)
  (jX:∀y c,cl.lookup y=some c->X.env.cells.lookup y=some c) (hcl2:∀p∈scope.names,p.2=.free->(cl.lookup p.1).isSome=true)
  (kB:∀p∈scope.names,p.2=.free->Vis X.env.scope p.1/\X.env.scope.names.lookup p.1≠some .local) :
  Inv (qc4 X scope cl C nn fp s H) [] ((nn.map λ_=>none)++σ) H { s with heap:=h',toks:=tk }:=by
 have cells:∀y c,cl.lookup y=some c->∃v,s.heap.IsCell c v:=λy c e=>I.cell y c (jX y c e);have celllt:∀y c,cl.lookup y=some c->c<s.heap.objs.size:=λy c e=>by
  obtain⟨v,q⟩:=cells y c e;exact q.lt
 have cellk:∀c v,s.heap.IsCell c v->h'.IsCell c v:=λc v ⟨o,e,d⟩=>⟨o,keep c o e,d⟩;have stkl:∀b∈frs X.stack,∃o,s.heap.get? b=some o:=λb hb=>by
  rcases ZB.mp (I.stkSub b hb) with e|hb
  ·obtain⟨_,⟨o,_,_,ho,_⟩,_⟩:=I.loc;exact⟨o,by rw[e];exact ho⟩
  ·obtain⟨_,o,ho,_⟩:=I.funs.mem hb;exact⟨o,ho⟩
 refine⟨⟨I.ok.mod,jE,I.ok.glob,I.ok.blt,WE hC.symm,λy z c h1 h2=>I.ok.inj y z c (jX y c h1) (jX z c h2),λy hy=>?_,λy c h _=>Bool.noConfusion h,I.ok.hd,I.ok.frames,.inl rfl,λb hb=>⟨?_,λy c e z=>?_⟩,I.bs,
  ZL I.ok.bsz I.sz,λb o e hb=>?_,λb hb hf=>?_,I.stack,I.stkFree⟩,rfl,I.bare,Un.kept keep,⟨m,ns,λi y v h1 h2 h3=>?_⟩,λy c e=>?_,?_,λy c e=>?_,λp hp=>absurd hp (by simp[qc4]),I.hok.kept keep,?_⟩
 ·
  have hy:(relabel scope X.env).names.lookup y=some .cell\/(relabel scope X.env).names.lookup y=some .free:=hy;obtain⟨p,hp,e1,e2⟩:∃p∈scope.names,p.1=y/\p.2=.free:=by
   rcases hy with hy|hy
   ·exact qj1 hy jC (.inl rfl)
   ·exact qj1 hy jC (.inr rfl)
  obtain⟨c,e⟩:=XB.mp (hcl2 p hp e2);exact⟨c,by rw[<- e1];exact e⟩
 ·show b≠C;rw[hC];exact ZA (hfs b hb)
 ·exact (hfp b hb).2.2.2.2.1 y c (jX y c e) z
 ·rcases (hfp b hb).2.2.2.1 with z|z
  ·exact I.ok.noex b o e z
  ·exact absurd (ZV (Zs (I.ok.bs b o e).1) z) (YT _)
 ·rcases ZB.mp (I.stkSub b hf) with z|z
  ·exact (hfp b hb).2.1 z
  ·exact (hfp b hb).2.2.1 z
 ·
  by_cases jJ:i<nn.length
  ·rw[Zh (by simpa using jJ)] at h2;simp at h2
  ·obtain⟨j,rfl⟩:∃j,i=nn.length+j:=⟨i-nn.length,by lia⟩;have h1:X.N[j]?=some y:=by
    have h1:(nn++X.N)[nn.length+j]?=some y:=h1;rw[Zi (Y5 _ _),Nat.add_sub_cancel_left] at h1;exact h1
   have h2:σ[j]?=some (some v):=by
    rw[Zi (by simp)] at h2;simpa using h2
   have h3:(relabel scope X.env).names.lookup y=some .local\/(relabel scope X.env).names.lookup y=some .cell\/(relabel scope X.env).names.lookup y=some .free:=h3;rcases h3 with h3|h3
   ·exact absurd (qr3 h3) (jL y (Zm h1))
   ·obtain⟨p,hp,e1,e2⟩:∃p∈scope.names,p.1=y/\p.2=.free:=by
     rcases h3 with h3|h3
     ·exact qj1 h3 jC (.inl rfl)
     ·exact qj1 h3 jC (.inr rfl)
    obtain⟨hv,hnl⟩:=kB p hp e2;rw[e1] at hv hnl;obtain⟨m0,_,hl0⟩:=I.loc;obtain⟨u,ru,lk⟩:=hl0 j y v h1 h2 hv;rcases lk with ⟨lk,_⟩|⟨_,c,hc,hcv⟩
    ·exact absurd lk hnl
    ·obtain⟨c',e'⟩:=XB.mp (hcl2 p hp e2);rw[e1] at e';have:=jX y c' e';rw[hc] at this;cases this;refine⟨u,ru,.inr ⟨h3,c,e',cellk c _ hcv⟩⟩
 ·obtain⟨v,q⟩:=cells y c e;exact⟨v,cellk c v q⟩
 ·show H C=none;exact I.hok.fresh (WE hC.symm)
 ·exact I.freeC y c (jX y c e)
 ·show ((nn.map λ_=>none)++σ).length=(nn++X.N).length;simp[I.len]
theorem qN4 {j8:List (Addr×Obj)}{σ σ':St}{H H':Hp}{s s':Shared}{h':Heap}{scope:Scope}{cl:List (Str×Addr)}{C:Addr}{nn:List Str}{fp:List Addr}
  (I:Inv X j8 σ H s) (hC:C=s.heap.objs.size) (hfp:∀b∈fp,FpOk X j8 H b) (J:Inv (qc4 X scope cl C nn fp s H) [] σ' H' s') (sb:Heap.SameBut C s'.heap h'):Inv X j8 σ H' { s' with heap:=h' }:=by
 have ne:∀b o,s.heap.get? b=some o->b≠C:=λb o e=>by rw[hC];exact ZA (Zs e)
 have B:Un (frs X.stack) fp H H' s.heap s'.heap:=J.base;have U:Un (frs X.stack) fp H H' s.heap h':=
  ⟨λb o e n hb hx=>(sb.2 b (ne b o e)).trans (B.keep b o e n hb hx),λb o e n hb hx=>by
   obtain⟨sl,q⟩:=B.slot b o e n hb hx;exact⟨sl,(sb.2 b (ne b o e)).trans q⟩,B.free,λb o e hx=>by
   obtain⟨o',q⟩:=B.there b o e hx;exact⟨o',(sb.2 b (ne b o e)).trans q⟩,B.tups,B.frzs,B.tbls⟩
 have hf:H' C=none:=J.free;have K:HOk X.prog X.w H' h':=λb o e=>(J.hok b o e).stay (λc u hc q=>(sb.2 c (by
  rintro rfl;rcases hc with z|z
  ·rw[z,e] at hf;cases hf
  ·rw[hf] at z;cases z)).trans q) (λ_ q=>q) λ_ _ q=>q
 refine I.call' (s':={ s' with heap:=h' }) (ch:=fp) J.os U K J.bare λb hb=>?_;obtain⟨_,h2,_,h4,h5,h6⟩:=hfp b hb;exact⟨h4,h2,h5,h6⟩
theorem qw8 {nn:List Str}{tg:Expr}{ifs:List Expr}{pos:Pos}{elt iter:Expr}{scope:Scope}{wi:TI}{g:TG}{tt:TT}{te:TE}(T:Env->Sem Bool) (hc:X.calm=true) (hi:PI X tg iter wi)
  (hturn:∀it acc env,compTurn (.ListComp elt [⟨tg,iter,ifs,0⟩] scope pos) 0 it acc env=(standAt iter.pos >>= λ_=>pyNext it >>= λr=>match r with
   |none=>pure (.done .next)
   |some v=>letOwnedTupleGo tg it v >>= λ_=>assign tg env v >>= λ_=>T env >>= λok=>(if ok=true then (eval elt env >>= λx=>call (.builtin "list.append") [acc,x] >>= λ_=>pure ()) else pure ()) >>= λ_=>
     again (.compLoop (.ListComp elt [⟨tg,iter,ifs,0⟩] scope pos) 0 it acc env)))
  (hgt:∀cl C fp s₀ H₀,PG (qc4 X scope cl C nn fp s₀ H₀) tg g)
  (hloc2:∀y (os σ:St) H R,os.length=nn.length->g y (os++σ) H R->g y (os++σ) H λσ' H'=>(∃os':St,os'.length=nn.length/\σ'=os'++σ)/\R σ' H')
  (htt:∀cl C fp s₀ H₀ (j8:List (Addr×Obj)) (s:Shared) (σ:St) (H:Hp) (Q:Bool->Hp->Prop),Inv (qc4 X scope cl C nn fp s₀ H₀) j8 σ H s->tt σ H Q->wpAny (model X.prog X.w) X.A (T (compEnvC scope cl C X.env)) (TP (qc4 X scope cl C nn fp s₀ H₀) j8 σ Q) (λ_ _=>False) s)
  (he:∀cl C fp s₀ H₀,PE (qc4 X scope cl C nn fp s₀ H₀) elt te)
  (jE:scope.kind=.function) (jC:∀y∈scope.names,y.2≠.cell) (jD:∀y∈scope.names,y.2=.local->scope.names.lookup y.1=some .local)
  (jL:∀y∈X.N,scope.names.lookup y≠some .local) (kB:∀p∈scope.names,p.2=.free->Vis X.env.scope p.1/\X.env.scope.names.lookup p.1≠some .local)
  (hs:∀x,foldedSetIterable iter X.env x=pure x):PE X (.ListComp elt [⟨tg,iter,ifs,0⟩] scope pos) (qr7 nn.length wi g tt te):=by
 intro j8 s σ H Q I h;rw[eval_ListComp];obtain⟨cl,hclos,jX,hcl2⟩:=qm6 (scope:=scope) (env:=X.env) (λp hp hk=>by
  obtain⟨hv,hn⟩:=kB p hp hk;refine I.ok.has p.1 ?_;rcases hv with z|z
  ·exact absurd z hn
  ·exact z)
 refine wpAny_comprehension_free (use:=none) rfl hs hclos jE jD (thn (hi j8 s σ H _ I h) λv s1 h1=>thn h1 λitv s2 h2=>?_);obtain⟨it,fp,tn,J,H2,rfl,I2,T',st2,f2,q⟩:=h2;have hD:H2 s2.heap.objs.size=none:=I2.hok.fresh (Zd _);obtain⟨W,⟨m0,w0⟩,turn⟩:=q _ hD;refine Z7 (wpAny_newFunctionEnv jC (by intro y hy;simp at hy) (λh₁ hns₁ hsb₁=>?_) jE);dsimp only at hns₁ hsb₁ ⊢;have I3:Inv X j8 σ (upd H2 s2.heap.objs.size (.lst [])) { s2 with heap:=s2.heap.push { cls:=.type "list",dict:=none,data:=.seq ([]:List Value).toArray } }:=
  I2.laid (t':=s2.toks) (λb u e=>Zf _ e) (Zd _) ⟨ZE _,[],0,.nil,Zo _ rfl⟩
 have fpn:∀b∈fp,b≠s2.heap.objs.size:=λb hb=>by
  obtain⟨o,e,_⟩:=T'.obj 0 s2.heap st2 b hb;exact ZA (Zs e)
 have fplt:∀b∈fp,b<(s2.heap.push { cls:=.type "list",dict:=none,data:=.seq ([]:List Value).toArray }).objs.size:=λb hb=>by
  obtain⟨o,e,_⟩:=T'.obj 0 s2.heap st2 b hb;rw[YG];exact Yl (Zs e)
 have f3:∀b∈fp,FpOk X j8 (upd H2 s2.heap.objs.size (.lst [])) b:=λb hb=>⟨by rw[qa5 (fpn b hb)];exact (f2 b hb).1,(f2 b hb).2⟩;generalize kD:s2.heap.push { cls:=.type "list",dict:=none,data:=.seq ([]:List Value).toArray }=g2 at hns₁ hsb₁ I3 fplt ⊢;have keep:∀b o,g2.get? b=some o->h₁.get? b=some o:=λb o e=>(hsb₁.2 b (ZA (Zs e))).trans (Zf _ e);have J0:=qz7 (nn:=nn) (tk:=s2.toks+([]:List (Str×Value)).length) I3 (C:=g2.objs.size) rfl keep hns₁ f3 fplt jE jC jL jX hcl2 kB;generalize hY:qc4 X scope cl g2.objs.size nn fp { s2 with heap:=g2 } (upd H2 s2.heap.objs.size (.lst []))=Y at J0;have eY:PE Y elt te:=by rw[<- hY];exact he _ _ _ _ _
 have eG:PG Y tg g:=by rw[<- hY];exact hgt _ _ _ _ _
 have eT:∀(j8:List (Addr×Obj)) (s:Shared) (σ:St) (H:Hp) (Q:Bool->Hp->Prop),Inv Y j8 σ H s->tt σ H Q->wpAny (model Y.prog Y.w) Y.A (T Y.env) (TP Y j8 σ Q) Y.xe s:=by rw[<- hY];exact htt _ _ _ _ _
 have eP:Y.prog=X.prog:=by rw[<- hY];rfl
 have eW:Y.w=X.w:=by rw[<- hY];rfl
 have eK:Y.K=X.K:=by rw[<- hY];rfl
 have eA:Y.A=X.A:=by rw[<- hY];rfl
 have eC:Y.calm=true:=by rw[<- hY];exact hc
 have eE:Y.env=compEnvC scope cl g2.objs.size X.env:=by rw[<- hY];rfl
 have eX:Y.xe=λ_ _=>False:=by rw[<- hY];rfl
 have eN:Y.N=nn++X.N:=by rw[<- hY];rfl
 have eEx:Y.ex=fp:=by rw[<- hY];rfl
 have eFs:Y.fs=frs X.stack:=by rw[<- hY];rfl
 have ePn:Y.pn=[]:=by rw[<- hY];rfl
 have fpY:∀{H':Hp},(∀b∈fp,H' b=none)->∀b∈fp,FpOk Y [] H' b:=λhn b hb=>by
  have g:=f3 b hb;refine⟨hn b hb,?_,?_,.inl (by rw[eEx];exact hb),?_,λp hp=>absurd hp (by rw[ePn];simp)⟩
  ·rw[eE];exact ZA (fplt b hb)
  ·rw[eFs];intro z;rcases ZB.mp (I3.stkSub b z) with z|z
   ·exact g.2.1 z
   ·exact g.2.2.1 z
  ·rw[eE];exact λy c e=>g.2.2.2.2.1 y c (jX y c e)
 have loop:∀s₃:Shared,s₃={ s2 with heap:=h₁,toks:=s2.toks+([]:List (Str×Value)).length } ->
   codeAny (model X.prog X.w) X.A (.compLoop (.ListComp elt [⟨tg,iter,ifs,0⟩] scope pos) 0 (.ref it) (.ref s2.heap.objs.size) (compEnvC scope cl g2.objs.size X.env))
    (compPost (model X.prog X.w) X.A X.xe none (EP X j8 σ Q) (.ref s2.heap.objs.size) g2.objs.size) s₃:=by
  rintro s₃ rfl;refine qN3 (T (compEnvC scope cl g2.objs.size X.env)) (hturn _ _ _) (λn s'=>∃i xs H' os,os.length=nn.length/\Inv Y [] (os++σ) H' s'/\tn i s'.heap/\(∀b∈fp,H' b=none)/\W i n xs H') ?_ m0
   ⟨0,[],_,nn.map λ_=>none,by simp,J0,T'.keep 0 _ _ st2 (λb hb o e=>keep b o (by rw[<- kD];exact Zf _ e)),λb hb=>(f3 b hb).1,w0⟩
  rintro n s3 ⟨i,xs,H3,os,kZ,I4,st3,fr3,w3⟩;obtain⟨hDx,hlx,alt⟩:=turn i n xs H3 w3;rcases alt with ⟨stop,qn⟩|⟨go,step⟩
  ·have D1:=T'.done Y eP eW eK eC i [] s3 _ H3 (λ_ _=>False) I4 (fpY fr3) st3 stop;rw[eA] at D1;refine thn D1 λr s4 ⟨hr,I5⟩=>?_;subst hr;obtain⟨m4,kI,_⟩:=id I5.loc;rw[eE] at kI;refine⟨m4,kI,λh' sb=>⟨.ref _,H3,?_,rfl,qn⟩⟩;rw[<- hY] at I5;exact qN4 I3 rfl f3 I5 sb
  ·have G1:=T'.item Y eP eW eK eC i [] s3 _ H3 (λ_ _=>False) I4 (fpY fr3) st3 go;rw[eA] at G1;refine thn G1 λr s4 ⟨u,hr,h4⟩=>?_;subst hr;refine thn h4 λ_ s5 ⟨y,H5,I5,r5,y5,st5,fr5⟩=>?_;have I5':=I5.pinned (fpY fr5) (T'.obj _ _ st5);have S1:=eG _ s5 _ H5 y u _ I5' r5 (hloc2 y os σ H5 _ kZ (step y _ y5 os kZ));rw[eP,eW,eA,eE,eX] at S1;refine thn S1 λ_ s6 ⟨σ6,H6,I6,⟨os6,hos6,e6⟩,q6⟩=>?_;subst e6;have S2:=eT _ s6 _ _ _ I6 q6;rw[eP,eW,eA,eE,eX] at S2;refine thn S2 λok s7 ⟨H7,I7,q7⟩=>?_;have back:∀{s9:Shared}{H9:Hp}{m':Nat}{zs:List V},Inv Y ([]++qD0 fp s5.heap) (os6++σ) H9 s9->m'<n->W (i+1) m' zs H9->∃m,m<n/\∃i xs H' os,os.length=nn.length/\Inv Y [] (os++σ) H' s9/\tn i s9.heap/\(∀b∈fp,H' b=none)/\W i m xs H':=λ{s9 H9 m' zs} I9 hm' w9=>by
    have pin:∀b∈fp,∀ob,s5.heap.get? b=some ob->s9.heap.get? b=some ob/\H9 b=none:=λb hb ob e=>by
     have z:=I9.pin (b,ob) (ZU _ (ZU _ (qk2 hb e)));exact⟨z.1,z.2.1⟩
    refine⟨m',hm',i+1,zs,H9,os6,hos6,I9.unpinned,T'.keep _ _ _ st5 (λb hb ob e=>(pin b hb ob e).1),λb hb=>?_,w9⟩;obtain⟨ob,e,_⟩:=T'.obj _ _ st5 b hb;exact (pin b hb ob e).2
   cases ok with
   |true=>
    rw[Zp rfl] at q7;rw[Zp rfl];have S3:=eY _ s7 _ _ _ I7 q7;rw[eP,eW,eA,eE,eX] at S3;refine thn S3 λxv s8 ⟨v8,H8,I8,r8,hD8,m',hm',w8⟩=>?_;have S4:=qf2 (X:=Y) _ s8 _ H8 (.ref s2.heap.objs.size) [v8] (.ref s2.heap.objs.size) [xv] (λ_ H9=>H9=upd H8 s2.heap.objs.size (.lst (xs++[v8]))) I8 rfl (.cons r8 .nil) ⟨_,xs,v8,rfl,rfl,hD8,hlx,rfl⟩;rw[eP,eW,eA,eX] at S4;refine thn S4 λ_ s9 ⟨v9,H9,I9,_,e9⟩=>?_;subst e9;exact back I9 hm' w8
   |false=>
    rw[Zk ZD] at q7;rw[Zk ZD];obtain⟨m',hm',w8⟩:=q7;exact back I7 hm' w8
 exact codeAny_compStart_list (loop _ rfl) (T'.self _ 0 _ _ _ (T'.keep 0 _ _ st2 (λb hb o e=>keep b o (by rw[<- kD];exact Zf _ e))) (loop _ rfl))
theorem qk5 {scope sc:Scope}{N:List Str}(vC:X.N=N) (kY:X.env.scope=sc)
  (jC:scope.names.all (λy=>y.2 != .cell)=true) (jD:scope.names.all (λy=>y.2 != .local||scope.names.lookup y.1==some .local)=true) (jL:N.all (λy=>scope.names.lookup y != some .local)=true)
  (kB:scope.names.all (λp=>p.2 != .free||(sc.names.lookup p.1==some .cell||sc.names.lookup p.1==some .free))=true) :
  (∀y∈scope.names,y.2≠.cell)/\(∀y∈scope.names,y.2=.local->scope.names.lookup y.1=some .local)/\(∀y∈X.N,scope.names.lookup y≠some .local)/\(∀p∈scope.names,p.2=.free->Vis X.env.scope p.1/\X.env.scope.names.lookup p.1≠some .local):=by
 refine⟨λy hy=>?_,λy hy hl=>?_,λy hy=>?_,λp hp hk=>?_⟩
 ·have:=YQ.mp jC y hy;simpa using this
 ·have:=YQ.mp jD y hy;simpa [hl] using this
 ·have:=YQ.mp jL y (by rw[<- vC];exact hy);simpa using this
 ·have:=YQ.mp kB p hp;rw[hk] at this;have z:sc.names.lookup p.1=some .cell\/sc.names.lookup p.1=some .free:=by simpa using this
  rw[kY];refine⟨.inr z,λq=>?_⟩;rcases z with z|z<;>(rw[z] at q;cases q)
theorem loc1 {y:V}{os σ:St}{H:Hp}{R:St->Hp->Prop}(ho:os.length=1) (h:qg7 0 y (os++σ) H R):qg7 0 y (os++σ) H λσ' H'=>(∃os':St,os'.length=1/\σ'=os'++σ)/\R σ' H':=by
 match os,ho with
 |[o],_=>exact⟨⟨[some y],rfl,rfl⟩,h⟩
theorem loc2 {K:PySem.W.Frag}{y:V}{os σ:St}{H:Hp}{R:St->Hp->Prop}(ho:os.length=2) (h:gTup K 2 (qu0 (qg7 0) (qu0 (qg7 1) gNil)) y (os++σ) H R) :
  gTup K 2 (qu0 (qg7 0) (qu0 (qg7 1) gNil)) y (os++σ) H λσ' H'=>(∃os':St,os'.length=2/\σ'=os'++σ)/\R σ' H':=by
 match os,ho with
 |[o1,o2],_=>
  obtain⟨a,xs,e1,e2,e3,v,r,e4,v2,r2,e5,e6,q⟩:=h;exact⟨a,xs,e1,e2,e3,v,r,e4,v2,r2,e5,e6,⟨[some v,some v2],rfl,rfl⟩,q⟩
theorem qz8 {x:Str}{px pos:Pos}{elt iter c:Expr}{scope:Scope}{wi:TI}{tt:TT}{te:TE}(N:List Str) (sc:Scope) (vC:X.N=N) (kY:X.env.scope=sc) (hc:X.calm=true) (hN:X.N.Nodup) (hi:PI X (.Name x px) iter wi)
  (ht:∀cl C fp s₀ H₀,PT (qc4 X scope cl C [x] fp s₀ H₀) c tt) (he:∀cl C fp s₀ H₀,PE (qc4 X scope cl C [x] fp s₀ H₀) elt te)
  (jE:scope.kind=.function:=by rfl) (jC:scope.names.all (λy=>y.2 != .cell)=true:=by decide +kernel) (jD:scope.names.all (λy=>y.2 != .local||scope.names.lookup y.1==some .local)=true:=by decide +kernel)
  (hx:scope.names.lookup x=some .local:=by rfl) (jL:N.all (λy=>scope.names.lookup y != some .local)=true:=by decide +kernel)
  (kB:scope.names.all (λp=>p.2 != .free||(sc.names.lookup p.1==some .cell||sc.names.lookup p.1==some .free))=true:=by decide +kernel)
  (hs:∀x,foldedSetIterable iter X.env x=pure x:=by intro _;rfl):PE X (.ListComp elt [⟨.Name x px,iter,[c],0⟩] scope pos) (qr7 1 wi (qg7 0) tt te):=by
 obtain⟨s1,s2,s3,s4⟩:=qk5 vC kY jC jD jL kB;refine qw8 (nn:=[x]) (λenv=>isTrue c env (eval c env)) hc hi (λit acc env=>qH7 elt _ iter c scope pos it acc env) (λcl C fp s₀ H₀=>?_) (λy os σ H R ho h=>loc1 ho h) (λcl C fp s₀ H₀ j8 s σ H Q I h=>ht cl C fp s₀ H₀ j8 s σ H Q I h) he jE s1 s2 s3 s4 hs;have l:(qc4 X scope cl C [x] fp s₀ H₀).env.scope.names.lookup x=some .local:=Xy hx;exact qt9 (i:=0) (YJ.mpr ⟨λz=>s3 x z hx,hN⟩) rfl (.inl l) (.inr l)
theorem xv3 {x y:Str}{p1 p2 tpos:Pos}{k:Nat}{scope:Scope}{cl:List (Str×Addr)}{C:Addr}{fp:List Addr}{s₀:Shared}{H₀:Hp}(hc:X.calm=true) (hN:X.N.Nodup) (wL:x≠y) (s3:∀z∈X.N,scope.names.lookup z≠some .local) (hx:scope.names.lookup x=some .local) (hy:scope.names.lookup y=some .local) :
  PG (qc4 X scope cl C [x,y] fp s₀ H₀) (.Tuple [.Name x p1,.Name y p2] k tpos) (gTup X.K 2 (qu0 (qg7 0) (qu0 (qg7 1) gNil))):=by
 have lx:(qc4 X scope cl C [x,y] fp s₀ H₀).env.scope.names.lookup x=some .local:=Xy hx;have ly:(qc4 X scope cl C [x,y] fp s₀ H₀).env.scope.names.lookup y=some .local:=Xy hy;have nd:(qc4 X scope cl C [x,y] fp s₀ H₀).N.Nodup:=YJ.mpr ⟨λz=>by
  rcases ZB.mp z with z|z
  ·exact wL z
  ·exact s3 x z hx,YJ.mpr ⟨λz=>s3 y z hy,hN⟩⟩
 exact qo8 (X:=qc4 X scope cl C [x,y] fp s₀ H₀) hc (qc3 (qt9 (i:=0) nd rfl (.inl lx) (.inr lx)) (qc3 (qt9 (i:=1) nd rfl (.inl ly) (.inr ly)) qj7))
def q19:TT:=λ_ H Q=>Q true H
theorem xj8 {x y:Str}{p1 p2 tpos pos:Pos}{k:Nat}{elt iter:Expr}{scope:Scope}{wi:TI}{te:TE}(N:List Str) (sc:Scope) (vC:X.N=N) (kY:X.env.scope=sc) (hc:X.calm=true) (hN:X.N.Nodup) (hi:PI X (.Tuple [.Name x p1,.Name y p2] k tpos) iter wi)
  (he:∀cl C fp s₀ H₀,PE (qc4 X scope cl C [x,y] fp s₀ H₀) elt te) (wL:x≠y:=by decide)
  (jE:scope.kind=.function:=by rfl) (jC:scope.names.all (λy=>y.2 != .cell)=true:=by decide +kernel) (jD:scope.names.all (λy=>y.2 != .local||scope.names.lookup y.1==some .local)=true:=by decide +kernel)
  (hx:scope.names.lookup x=some .local:=by rfl) (hy:scope.names.lookup y=some .local:=by rfl) (jL:N.all (λy=>scope.names.lookup y != some .local)=true:=by decide +kernel)
  (kB:scope.names.all (λp=>p.2 != .free||(sc.names.lookup p.1==some .cell||sc.names.lookup p.1==some .free))=true:=by decide +kernel)
  (hs:∀x,foldedSetIterable iter X.env x=pure x:=by intro _;rfl):PE X (.ListComp elt [⟨.Tuple [.Name x p1,.Name y p2] k tpos,iter,[],0⟩] scope pos) (qr7 2 wi (gTup X.K 2 (qu0 (qg7 0) (qu0 (qg7 1) gNil))) q19 te):=by
 obtain⟨s1,s2,s3,s4⟩:=qk5 vC kY jC jD jL kB;exact qw8 (nn:=[x,y]) (λ_=>pure true) hc hi (λit acc env=>qS3 elt _ iter scope pos it acc env) (λcl C fp s₀ H₀=>xv3 hc hN wL s3 hx hy) (λy os σ H R ho h=>loc2 ho h) (λcl C fp s₀ H₀ j8 s σ H Q I h=>Zg ⟨H,I,h⟩) he jE s1 s2 s3 s4 hs
theorem q20 {x y:Str}{p1 p2 tpos pos:Pos}{k:Nat}{elt iter c:Expr}{scope:Scope}{wi:TI}{tt:TT}{te:TE}(N:List Str) (sc:Scope) (vC:X.N=N) (kY:X.env.scope=sc) (hc:X.calm=true) (hN:X.N.Nodup) (hi:PI X (.Tuple [.Name x p1,.Name y p2] k tpos) iter wi)
  (ht:∀cl C fp s₀ H₀,PT (qc4 X scope cl C [x,y] fp s₀ H₀) c tt) (he:∀cl C fp s₀ H₀,PE (qc4 X scope cl C [x,y] fp s₀ H₀) elt te) (wL:x≠y:=by decide)
  (jE:scope.kind=.function:=by rfl) (jC:scope.names.all (λy=>y.2 != .cell)=true:=by decide +kernel) (jD:scope.names.all (λy=>y.2 != .local||scope.names.lookup y.1==some .local)=true:=by decide +kernel)
  (hx:scope.names.lookup x=some .local:=by rfl) (hy:scope.names.lookup y=some .local:=by rfl) (jL:N.all (λy=>scope.names.lookup y != some .local)=true:=by decide +kernel)
  (kB:scope.names.all (λp=>p.2 != .free||(sc.names.lookup p.1==some .cell||sc.names.lookup p.1==some .free))=true:=by decide +kernel)
  (hs:∀x,foldedSetIterable iter X.env x=pure x:=by intro _;rfl):PE X (.ListComp elt [⟨.Tuple [.Name x p1,.Name y p2] k tpos,iter,[c],0⟩] scope pos) (qr7 2 wi (gTup X.K 2 (qu0 (qg7 0) (qu0 (qg7 1) gNil))) tt te):=by
 obtain⟨s1,s2,s3,s4⟩:=qk5 vC kY jC jD jL kB;exact qw8 (nn:=[x,y]) (λenv=>isTrue c env (eval c env)) hc hi (λit acc env=>qH7 elt _ iter c scope pos it acc env) (λcl C fp s₀ H₀=>xv3 hc hN wL s3 hx hy) (λy os σ H R ho h=>loc2 ho h) (λcl C fp s₀ H₀ j8 s σ H Q I h=>ht cl C fp s₀ H₀ j8 s σ H Q I h) he jE s1 s2 s3 s4 hs
end
end L2
namespace L2
open PySem PySem.Spec PyProof.Rows PySem.W PySem.Builtin PySem.Builtin.ObjectAttr PySem.Builtin.Getset_descriptor
section
variable {prog:Program}{w:World}{A:Around}{E:Value->Shared->Prop}{s:Shared}{K:Frag}{x C:Addr}
def ExcAt (x C:Addr) (h:Heap):Prop:=∃ox vs,h.get? x=some ox/\ox.cls=.ref C/\ox.data=.fields vs/\vs[2]?=some .none
theorem ExcAt.type {M:Model}{h:Heap}(I:ExcAt x C h):Looks M h (typeOf (.ref x)) (.ref C):=by
 obtain⟨ox,_,h1,h2,_⟩:=I;have z:=(Looks.ld (M:=M) (part:=none) h1).andThen (f:=λo=>pure o.cls) (Looks.now (a:=ox.cls));rw[h2] at z;exact z
theorem xv4 {tp:Value}{R:Result->Shared->Prop}(X:K.In s.heap) (I:ExcAt x C s.heap) (hm:mroIn K C (.type "object")=some true) (h:R (.ok (.ret (.ref C))) s) :
  codeAny (model prog w) A (.call (.builtin "getset_descriptor.__get__") ⟨[.builtin "object.__class__",.ref x,tp],[]⟩) R s:=by
 obtain⟨h1,g1,d1,t1,o1⟩:=s;have Lt:=I.type (M:=model prog w);have Lm:=looks_mroIn (M:=model prog w) X hm;refine W3 KF.slot_gs.plain KF.entry_gs ?_;refine KF.slot_gs.check _ _ _ _ _ _ _ _ KF.type_class (KF.args_gs _ _ _) ?_;unfold Builtin.«getset_descriptor.__get__» descrGet;rw[dga_obj];refine Za (Zg ?_);unfold descrGetter descrCheckInstance descrNameAndClass isInstance;simp only[KF.owner_class]
 repeat lk
 refine⟨Code.quiet_builtin _ (by decide +kernel),Xr KF.entry_class ?_⟩;unfold Builtin.«object.__class__» shownTypeOf
 repeat lk
 exact h
theorem xa1 {tk:Tok}{Q:Fin->Shared->Prop}(X:K.In s.heap) (I:ExcAt x C s.heap)
  (ha:findIn K (.ref C) "__class__" = some (some (.builtin "object.__class__"))) (hn:specialIn K (.builtin "object.__class__") "__get__" = some (some (.builtin "getset_descriptor.__get__"))) (htk:takesIn K (.builtin "object.__class__")=some true)
  (hm:mroIn K C (.type "object")=some true) (hc:(clsIn K C).isSome=true) (h:Q (.done (.ret (.ref C))) s):wpAny (model prog w) A (Builtin.«object.__getattribute__» ⟨[.ref x,.str "__class__" tk],[]⟩) Q E s:=by
 obtain⟨hh,g,d,t,os⟩:=s;have L0:=I.type (M:=model prog w);have L4:Looks (model prog w) hh (Builtin.ObjectAttr.find (.ref x) (.ref C) "__class__") (Builtin.ObjectAttr.Found.bind (.builtin "getset_descriptor.__get__") (.builtin "object.__class__")):=by
  have y1:=looks_findIn (M:=model prog w) X ha;have y2:Looks (model prog w) hh (Builtin.ObjectAttr.getOf (some (.builtin "object.__class__"))) (some (.builtin "getset_descriptor.__get__")):=looks_specialIn X hn;have y3:=looks_takesIn (M:=model prog w) X htk;have y4:Looks (model prog w) hh (Builtin.ObjectAttr.dataDescriptor? (some (.builtin "object.__class__")) (some (.builtin "getset_descriptor.__get__"))) (some (.builtin "getset_descriptor.__get__",.builtin "object.__class__")):=y3.andThen .now;exact y1.andThen (y2.andThen (y4.andThen (Looks.tag .now)))
 unfold Builtin.«object.__getattribute__»
 repeat (first|with_reducible refine L0.at ?_|with_reducible refine L4.at ?_|wp_step)
 refine xv4 X I hm ?_
 repeat (any_goals (first|assumption|wp_step))
theorem xa2 {M:Model}{nameV:Value}{P:Unit->Shared->Prop}(X:K.In s.heap) (I:ExcAt x C s.heap) (hb:mroIn K C (.type "BaseException")=some true) (h:P () s) :
  wpAny M A (checkBuiltinCall "BaseException.__getattribute__" ⟨[.ref x,nameV],[]⟩) P E s:=by
 have hk:builtinKind "BaseException.__getattribute__" = some .slot:=by decide +kernel
 have hsplit:splitId "BaseException.__getattribute__" = some ("BaseException", "__getattribute__"):=by decide +kernel
 have hargs:=F.args_bexc_ga (.ref x) nameV;obtain⟨hh,g,d,t,os⟩:=s;have L0:=I.type (M:=M);have L3:=looks_mroIn (M:=M) X hb;simp only[checkBuiltinCall,hk,hsplit];refine Za ?_;unfold isInstance;refine Za (L0.at (L3.at ?_))
 repeat (first|assumption|wp_step)
theorem xj9 {tk:Tok}{R:Result->Shared->Prop}(X:K.In s.heap) (I:ExcAt x C s.heap)
  (ha:findIn K (.ref C) "__class__" = some (some (.builtin "object.__class__"))) (hn:specialIn K (.builtin "object.__class__") "__get__" = some (some (.builtin "getset_descriptor.__get__"))) (htk:takesIn K (.builtin "object.__class__")=some true)
  (hm:mroIn K C (.type "object")=some true) (hb:mroIn K C (.type "BaseException")=some true) (hc:(clsIn K C).isSome=true) (h:R (.ok (.ret (.ref C))) s) :
  codeAny (model prog w) A (.call (.builtin "BaseException.__getattribute__") ⟨[.ref x,.str "__class__" tk],[]⟩) R s:=
 W3 F.excAttr_ValueError.ga.plain F.entry_bexc_ga (xa2 X I hb (xa1 X I ha hn htk hm hc h))
theorem xa3 {Q:Option Value->Shared->Prop}(X:K.In s.heap) (I:ExcAt x C s.heap) (hga:findIn K (.ref C) "__getattribute__" = some (some (.builtin "BaseException.__getattribute__"))) (hgt:findIn K (.ref C) "__getattr__" = some none)
  (ha:findIn K (.ref C) "__class__" = some (some (.builtin "object.__class__"))) (hn:specialIn K (.builtin "object.__class__") "__get__" = some (some (.builtin "getset_descriptor.__get__"))) (htk:takesIn K (.builtin "object.__class__")=some true)
  (hm:mroIn K C (.type "object")=some true) (hb:mroIn K C (.type "BaseException")=some true) (hc:(clsIn K C).isSome=true) (h:Q (some (.ref C)) { s with toks:=s.toks+1 }) :
  wpAny (model prog w) A (getAttr? (.ref x) "__class__") Q E s:=by
 have go:=λ(A':Around) (R:Result->Shared->Prop) (tk:Tok)=>xj9 (prog:=prog) (w:=w) (A:=A') (R:=R) (s:={ s with toks:=s.toks+1 }) (tk:=tk) X I ha hn htk hm hb hc;obtain⟨hh,g,d,t,os⟩:=s;have L0:=I.type (M:=model prog w);have L1:=looks_findIn (M:=model prog w) X hga;have L2:=looks_findIn (M:=model prog w) X hgt;have f3:=F.excAttr_ValueError.ga.bind (.ref x);have hx2:(Value.builtin "BaseException.__getattribute__" == Value.builtin "object.__getattribute__")=false:=by decide +kernel
 have hx1:(onTheHeap (Value.ref C)&&Value.builtin "BaseException.__getattribute__" == Value.builtin "object.__getattribute__")=false:=by rw[hx2];rfl
 unfold getAttr? getAttrBy? getAttrBy;refine Za (wpAny_mkText (Za (XY (Yg (Za (L0.at (Za (L1.at ?_))))))));dsimp only;rw[Zk (by rw[hx1];exact ZD)];unfold getAttrByItsOwn
 repeat (any_goals (first|assumption|with_reducible refine L0.at ?_|with_reducible refine L2.at ?_|wp_step))
 refine go _ _ _ ?_
 repeat (any_goals (first|assumption|wp_step))
structure ExcCls (K:Frag) (C:Addr):Prop where
 hga:findIn K (.ref C) "__getattribute__" = some (some (.builtin "BaseException.__getattribute__"))
 hgt:findIn K (.ref C) "__getattr__" = some none
 ha:findIn K (.ref C) "__class__" = some (some (.builtin "object.__class__"))
 hn:specialIn K (.builtin "object.__class__") "__get__" = some (some (.builtin "getset_descriptor.__get__"))
 htk:takesIn K (.builtin "object.__class__")=some true
 hm:mroIn K C (.type "object")=some true
 hb:mroIn K C (.type "BaseException")=some true
 hc:(clsIn K C).isSome=true
theorem xk0 (T:ExcCls K C):KitX K (.ref x) (.ref C) (ExcAt x C) where
 ty:=λ_ _ _ I=>I.type
 it:=λ_ _ X _=>by
  have hc:=T.hc;unfold clsIn at hc;split at hc
  ·rename_i c' d' cd' sl' ho;intro A1 Q1 E1 s1 kp q1;unfold isType loadHead;refine Za (wpAny_loadPart (kp _ _ (X _ _ ho)) ?_);exact Zg q1
  ·cases hc
 ne:=λh tp dd its n sl X jO=>by
  have hc:=T.hc;refine Yu.mpr λq=>?_;have e:C=tp:=Value.ref.inj (Y1.mp q);subst e;unfold clsIn at hc;split at hc
  ·rename_i c' d' cd' sl' ho;have z:=(X _ _ ho).symm.trans jO;cases z
  ·cases hc
 ca:=λX I k=>xa3 X I T.hga T.hgt T.ha T.hn T.htk T.hm T.hb T.hc k
end
end L2
namespace L2
open PySem PySem.Spec PyProof.Rows PySem.W
section
variable {K:Frag}{h:Heap}{C:Addr}{bmB:List Value}{newId:String}
end
section
variable {X:Cx}{x:Str}{C:Addr}{E:XK}{e₀:Expr}{rest:List Expr}{t:TA}{np cpos pos:Pos}
end
section
variable {X:Cx}{j8:List (Addr×Obj)}{σ:St}{H:Hp}{s:Shared}
end
section
variable {prog:Program}{w:World}{A:Around}{E:Value->Shared->Prop}{s:Shared}{x C e:Addr}
end
end L2
namespace L2
open PySem PySem.Spec PyProof.Rows
section
variable {X:Cx}{k:Nat}{f xe:Addr}{fd:FuncData}{ps:List Str}{sp:SpH}{x:Str}{p pos:Pos}{e:Expr}{es:List Expr}{t:TA}
end
end L2
namespace L2
open PySem PySem.Spec PyProof.Rows PySem.W
section
variable {X:Cx}
def clsV:V->Option Value
 |.ty n=>some (.type n)
 |.ref a=>some (.ref a)
 |_=>none
theorem xv5 {c:V}{u cv:Value}(r:RelV c u) (e:clsV c=some cv):u=cv:=by
 cases c with
 |ty n=>cases e;exact r
 |ref a=>cases e;exact r
 |_=>cases e
def ExcT (K:Frag) (H:Hp) (x:V) (t:Value):Prop:=∃a C,x=.ref a/\H a=some (.ext (ExcAt a C))/\ExcCls K C/\t=.ref C
theorem qj4:qh1 X (.builtin "isinstance") (λxs H Q=>∃x c t cv b,xs=[x,c]/\clsV c=some cv/\(TyOf X.K H x t\/ExcT X.K H x t)/\kitOne X.K t cv=some b/\Q (.bl b) H):=by
 intro j8 s σ H xs us Q I r h;obtain⟨x,c,t,cv,b,rfl,hc,ht,hk,q⟩:=h;obtain⟨u,u',rfl,rx,rc⟩:=xh8 r;cases xv5 rc hc;rcases ht with ty|⟨a,C,rfl,e,T,rfl⟩
 ·exact q63 I rx ty hk λtk=>⟨.bl b,H,I.tok _,rfl,q⟩
 ·cases (show u=Value.ref a from rx);have p:ExcAt a C s.heap:=(I.hok a _ e).1;exact kia_one (xk0 T) I.kIn p hk (λz=>nomatch z) λtk=>⟨.bl b,H,I.tok _,rfl,q⟩
theorem xa4 {j8:List (Addr×Obj)}{σ:St}{H:Hp}{s s':Shared}{o₁:Obj}{wr:List Addr}(I:Inv X j8 σ H s) (mv:Moved wr (λa b=>b=a) { s with heap:=s.heap.push o₁ } s') (hn:∀b o,s.heap.get? b=some o->b∈wr->False):Inv X j8 σ H s':=by
 obtain⟨h',g',d',t',os'⟩:=s';obtain⟨m1,m2,m3,m4,m5⟩:=mv;cases (show g'=s.gens from m2);cases (show d'=s.drawn from m3);cases (show os'=s.os from m4);exact I.kept (h':=h') (t':=t') λb o e=>m1 b o (λz=>hn b o e z) (Zf _ e)
theorem qz9 (hc:X.calm=true):qh1 X (.builtin "all") (λxs H Q=>∃(p:Addr) (bs:List Bool),xs=[.ref p]/\H p=some (.lst (bs.map V.bl))/\Q (.bl (bs.all id)) H):=by
 intro j8 s σ H xs us Q I r h;obtain⟨p,bs,rfl,hp,q⟩:=h;obtain⟨u,rfl,rx⟩:=qj8 r;cases rx;obtain⟨z,its,n,rv,hl⟩:=I.hok p _ hp;have isl:s.heap.IsList p its.toArray:=⟨_,hl,rfl,_,rfl⟩;have j9:its.length=bs.length:=by have:=rv.length;simpa using this.symm
 have np:p≠s.heap.objs.size:=ZA (Zs hl);refine call_all_walk (X1 isl ?_);refine⟨s.heap.objs.size,_,_,_,_,_,λi=>bs.getD i true,rfl,Walks.list (A:=X.A.in1) (I.ok.hd hc) s.heap.objs.size p np its.toArray,⟨⟨_,Zo _ rfl,rfl,rfl⟩,isl.at λo e=>Zf _ e⟩,?_,?_⟩
 ·intro i v s' Q' E' hv hq;have hv':its[i]?=some v:=by simpa using hv
  have hi:i<bs.length:=by rw[<- j9];exact (gS_ hv').1
  obtain⟨w',e1,e2⟩:=rv.get (x:=V.bl (bs[i])) (i:=i) (by simp[hi]);rw[hv'] at e1;cases e1;cases (show v=Value.bool bs[i] from e2);have eg:bs.getD i true=bs[i]:=by simp[List.getD,hi]
  dsimp only at hq;rw[eg] at hq;exact Ys hq
 ·intro h' tk k;refine⟨.bl (bs.all id),H,I.kept (h':=h') (t':=tk) (λb o e=>k b o (λz=>?_) (Zf _ e)),?_,q⟩
  ·have:b=s.heap.objs.size:=by simpa using z
   exact YT _ (by rw[this] at e;exact Zs e)
  ·have es:its.toArray.size=bs.length:=by simpa using j9
   rw[es];show Value.bool _=Value.bool _;congr 1;rw[Yn,YQ,YQ];constructor
   ·intro z b hb;obtain⟨i,hi,e⟩:=ZK.mp hb;have:=z i (ZH.mpr hi);simpa [List.getD,hi,e] using this
   ·intro z i hi;have hi':=ZH.mp hi;have:=z bs[i] (YR hi');simpa [List.getD,hi'] using this
theorem qN5 (hc:X.calm=true):qh1 X (.builtin "any") (λxs H Q=>∃(p:Addr) (bs:List Bool),xs=[.ref p]/\H p=some (.lst (bs.map V.bl))/\Q (.bl (bs.any id)) H):=by
 intro j8 s σ H xs us Q I r h;obtain⟨p,bs,rfl,hp,q⟩:=h;obtain⟨u,rfl,rx⟩:=qj8 r;cases rx;obtain⟨z,its,n,rv,hl⟩:=I.hok p _ hp;have isl:s.heap.IsList p its.toArray:=⟨_,hl,rfl,_,rfl⟩;have j9:its.length=bs.length:=by have:=rv.length;simpa using this.symm
 have np:p≠s.heap.objs.size:=ZA (Zs hl);refine call_any_walk (X1 isl ?_);refine⟨s.heap.objs.size,_,_,_,_,_,λi=>bs.getD i true,rfl,Walks.list (A:=X.A.in1) (I.ok.hd hc) s.heap.objs.size p np its.toArray,⟨⟨_,Zo _ rfl,rfl,rfl⟩,isl.at λo e=>Zf _ e⟩,?_,?_⟩
 ·intro i v s' Q' E' hv hq;have hv':its[i]?=some v:=by simpa using hv
  have hi:i<bs.length:=by rw[<- j9];exact (gS_ hv').1
  obtain⟨w',e1,e2⟩:=rv.get (x:=V.bl (bs[i])) (i:=i) (by simp[hi]);rw[hv'] at e1;cases e1;cases (show v=Value.bool bs[i] from e2);have eg:bs.getD i true=bs[i]:=by simp[List.getD,hi]
  dsimp only at hq;rw[eg] at hq;exact Ys hq
 ·intro h' tk k;refine⟨.bl (bs.any id),H,I.kept (h':=h') (t':=tk) (λb o e=>k b o (λz=>?_) (Zf _ e)),?_,q⟩
  ·have:b=s.heap.objs.size:=by simpa using z
   exact YT _ (by rw[this] at e;exact Zs e)
  ·have es:its.toArray.size=bs.length:=by simpa using j9
   rw[es];show Value.bool _=Value.bool _;congr 1;rw[Yn,XO,XO];constructor
   ·rintro⟨i,hi,e⟩;have hi':=ZH.mp hi;refine⟨bs[i],YR hi',?_⟩;simpa [List.getD,hi'] using e
   ·rintro⟨b,hb,e⟩;obtain⟨i,hi,e2⟩:=ZK.mp hb;refine⟨i,ZH.mpr hi,?_⟩;have:bs.getD i true=bs[i]:=by simp[List.getD,hi]
    rw[this,e2];exact e
def best (ns:List Int):Nat->Int
 |0=>ns.getD 0 0
 |k+1=>if ns.getD (k+1) 0>best ns k then ns.getD (k+1) 0 else best ns k
theorem qW4 (ns:List Int):∀k,ns.getD (argBest (λi j=>decide (ns.getD i 0>ns.getD j 0)) k) 0=best ns k/\argBest (λi j=>decide (ns.getD i 0>ns.getD j 0)) k<=k
 |0=>⟨rfl,Zd _⟩
 |k+1=>by
  obtain⟨h1,h2⟩:=qW4 ns k;unfold argBest best;rw[<- h1];by_cases hc:ns.getD (k+1) 0>ns.getD (argBest (λi j=>decide (ns.getD i 0>ns.getD j 0)) k) 0
  ·rw[Zp (Zl hc),Zp hc];exact⟨rfl,Zd _⟩
  ·rw[Zk (by simpa using hc),Zk hc];exact⟨rfl,VC h2⟩
theorem qN6 (hc:X.calm=true):qh1 X (.builtin "max") (λxs H Q=>∃(p:Addr) (ns:List Int),xs=[.ref p]/\H p=some (.lst (ns.map V.int))/\ns≠[]/\Q (.int (best ns (ns.length-1))) H):=by
 intro j8 s σ H xs us Q I r h;obtain⟨p,ns,rfl,hp,jH,q⟩:=h;obtain⟨u,rfl,rx⟩:=qj8 r;cases rx;obtain⟨z,its,n,rv,hl⟩:=I.hok p _ hp;have isl:s.heap.IsList p its.toArray:=⟨_,hl,rfl,_,rfl⟩;have j9:its.length=ns.length:=by have:=rv.length;simpa using this.symm
 have np:p≠s.heap.objs.size:=ZA (Zs hl);have es:its.toArray.size=ns.length:=by simpa using j9
 have pos:0<ns.length:=XJ.mpr jH;have item:∀(i:Nat) (v:Value),its.toArray[i]?=some v->∃t,v=.int (ns.getD i 0) t:=λi v hv=>by
  have hv':its[i]?=some v:=by simpa using hv
  have hi:i<ns.length:=by rw[<- j9];exact (gS_ hv').1
  obtain⟨w',e1,t,e2⟩:=rv.get (x:=V.int (ns[i])) (i:=i) (by simp[hi]);rw[hv'] at e1;cases e1;exact⟨t,by rw[e2];simp[List.getD,hi]⟩
 refine call_max_walkS (X1 isl ?_);refine⟨s.heap.objs.size,_,_,_,_,_,_,λi j=>decide (ns.getD i 0>ns.getD j 0),rfl,(Walks.list (A:=X.A.in1) (I.ok.hd hc) s.heap.objs.size p np its.toArray).toS,⟨⟨_,Zo _ rfl,rfl,rfl⟩,isl.at λo e=>Zf _ e⟩,?_,by rw[es];exact pos,?_,?_⟩
 ·intro b hb;rw[YG];rcases ZB.mp hb with rfl|hb
  ·exact Yy _
  ·have:b=p:=by simpa using hb
   subst this;exact Yl (Zs hl)
 ·intro i j vi vj s' Q' E' hi hj hq;obtain⟨t,rfl⟩:=item i vi hi;obtain⟨t',rfl⟩:=item j vj hj;exact gt_int hq
 ·intro v s' hv mv;rw[es] at hv;obtain⟨t,rfl⟩:=item _ v hv;rw[(qW4 ns (ns.length-1)).1];refine⟨.int _,H,xa4 I mv (λb o e hb=>?_),⟨t,rfl⟩,q⟩;have:b=s.heap.objs.size:=by simpa using hb
  exact YT _ (by rw[this] at e;exact Zs e)
theorem xK1 {P:Program}{w:World}{k:Key}{v:Value}(h:(qc6 P w).is k v=true):RelV (kV k) v:=by
 rcases qd8 (show qQ9 k v=true from h) with ⟨i,t,rfl,rfl⟩|⟨x,t,rfl,rfl⟩
 ·exact⟨t,rfl⟩
 ·exact⟨t,rfl⟩
theorem qA0:∀{xs:List V}{us:List Value},xs.length=us.length->(∀(i:Nat) x v,xs[i]?=some x->us[i]?=some v->RelV x v)->Vals xs us
 |[],[],_,_=>.nil
 |[],_::_,h,_=>by simp at h
 |_::_,[],h,_=>by simp at h
 |x::xs,u::us,h,f=>.cons (f 0 x u rfl rfl) (qA0 (by simpa using h) λi y v hy hv=>f (i+1) y v (by simpa using hy) (by simpa using hv))
theorem qD9 (hc:X.calm=true):qh1 X (.type "list") (λxs H Q=>∃(d:Addr) (kvs:List (Key×V)),xs=[.ref d]/\H d=some (.dK kvs)/\∀l,H l=none->Q (.ref l) (upd H l (.lst (kvs.map λkv=>kV kv.1)))):=by
 intro j8 s σ H xs us Q I r h;obtain⟨d,kvs,rfl,hd,q⟩:=h;obtain⟨u,rfl,ru⟩:=qj8 r;cases ru;obtain⟨z,lo,vs,rel,dd⟩:=xt4 I.hok hd;obtain⟨ep,wB⟩:=dd.dictAt;have hl:=rel.length;refine kdl_call (kdl_dict (knd:=qc6 X.prog X.w) (kvs:=vs) (ep:=ep) lo) (I.ok.hd hc) wB (by rw[<- hl];exact z) λh' tk acc c kp ho jP=>?_;refine⟨.ref s.heap.objs.size,_,I.laid (a:=s.heap.objs.size) (o:=.lst (kvs.map λkv=>kV kv.1)) (t':=tk) kp (Zd _) ⟨by simpa using z,acc.toList,c,?_,by simpa using ho⟩,rfl,q _ I.fresh⟩;refine qA0 (by simp[hl,jP.1]) λi x v hx hv=>?_;rw[Zb] at hx;obtain⟨kv,hkv,rfl⟩:=Zj.mp hx;obtain⟨k,y,hk,his⟩:=jP.2 i v (by simpa using hv);have e1:vs[i]?=some (k,y):=hk;have e2:kv.1=k:=by
  have z1:(kvs.map (·.1))[i]?=some kv.1:=by rw[Zb,hkv];rfl
  have z2:(vs.map (·.1))[i]?=some k:=by rw[Zb,e1];rfl
  rw[rel.keys] at z1;rw[z1] at z2;exact Zv z2
 rw[e2];exact xK1 his
theorem qw0:qh1 X (.type "range") (λxs H Q=>∃n:Int,xs=[.int n]/\∀r,H r=none->Q (.ref r) (upd H r (.rng 0 n))):=by
 intro j8 s σ H xs us Q I r h;obtain⟨n,rfl,q⟩:=h;obtain⟨u,rfl,t,rfl⟩:=qj8 r;exact call_range_1 ⟨.ref s.heap.objs.size,_,I.laid (a:=s.heap.objs.size) (o:=.rng 0 n) (λb o e=>Zf _ e) (Zd _) ⟨_,_,_,Zo _ rfl⟩,rfl,q _ I.fresh⟩
theorem qE0 (hc:X.calm=true):qh1 X (.type "list") (λxs H Q=>∃(r:Addr) (n:Nat),xs=[.ref r]/\H r=some (.rng 0 (n:Int))/\n<=1000000/\∀l,H l=none->Q (.ref l) (upd H l (.lst ((List.range n).map λ(i:Nat)=>V.int (i:Int))))):=by
 intro j8 s σ H xs us Q I rv h;obtain⟨r,n,rfl,hr,hn,q⟩:=h;obtain⟨u,rfl,ru⟩:=qj8 rv;cases ru;obtain⟨t,u,v,ho⟩:=I.hok r _ hr;refine call_list_range (a:=0) (b:=n) (c:=1) (n:=n) (I.ok.hd hc) ho (small_one (by lia) (by lia) (by lia) (by lia)) (by rw[rangeSize_one];split<;>lia) (by lia) λh' tk acc c kp ho' jP=>?_;refine⟨.ref s.heap.objs.size,_,I.laid (a:=s.heap.objs.size) (o:=.lst ((List.range n).map λ(i:Nat)=>V.int (i:Int))) (t':=tk) kp (Zd _) ⟨?_,acc.toList,c,?_,by simpa using ho'⟩,rfl,q _ I.fresh⟩
 ·rw[Ze,Xe,Y9];lia
 ·refine qA0 (by simp[jP.1]) λi x v hx hv=>?_;rw[Zb] at hx;obtain⟨j,hj,rfl⟩:=Zj.mp hx;have e:j=i:=by
   obtain⟨_,e⟩:=gS_ hj;simpa using e.symm
  subst e;obtain⟨t',rfl⟩:=jP.2 j v (by simpa using hv);exact⟨t',by simp⟩
end
namespace TupMul
theorem noFill:fillsNumberSlot (.type "tuple") "mul" = pure false:=
 PySem.fillsNumberSlot_seq (id:= "tuple.__mul__") (r:=some (.builtin "tuple.__rmul__")) F.slot_tuple_mul.lookup (by decide +kernel) F.slot_tuple_rmul.lookup (by decide +kernel)
theorem rep:seqRepeat? (.type "tuple")=pure (some (.builtin "tuple.__mul__")):=by
 unfold seqRepeat?
 rw[PySem.seqSlot_of (T:= "tuple") (name:= "__mul__") (id:= "tuple.__mul__") F.slot_tuple_mul.lookup (by decide +kernel),PySem.seqSlot_of (T:= "tuple") (name:= "__rmul__") (id:= "tuple.__rmul__") F.slot_tuple_rmul.lookup (by decide +kernel)]
 rfl
theorem declines (a:Int) (t:Tok) (l:Addr) (items:Array Value) (n:Nat) (dct:Option Addr) (sl:Array (Option Value)) :
  Meets (Builtin.«int.__rmul__» ⟨[.int a t,.ref l],[]⟩) (λ_ R s=>s.heap.get? l=some { cls:=.type "tuple",dict:=dct,data:=.seq items n,slots:=sl }/\R (.ok (.ret Value.notImplemented)) s):=
 .of_wp λprog w A R s h=>by
  obtain⟨hp,g,d,tk,os⟩:=s;obtain⟨hl,h⟩:=h
  wp_walk
  exact⟨_,rfl,h⟩
theorem mul (k:Int) (t:Tok) (l:Addr) (items:Array Value) (n:Nat) (dct:Option Addr) (sl:Array (Option Value)) (h1:1<k) (h2:k<=1000) (hs:items.size=1) :
  Meets (Builtin.«tuple.__mul__» ⟨[.ref l,.int k t],[]⟩) (λ_ R s=>s.heap.get? l=some { cls:=.type "tuple",dict:=dct,data:=.seq items n,slots:=sl } /\
   R (.ok (.ret (.ref s.heap.objs.size))) { s with heap:=s.heap.push { cls:=.type "tuple",data:=.seq ((List.replicate k.toNat items).foldl (·++·) #[]) } }):=
 .of_wp λprog w A R s h=>by
  obtain⟨hp,g,d,tk,os⟩:=s;obtain⟨hl,h⟩:=h;have c1:(decide (k < -2^63)||decide (k>=2^63))=false:=by simp;lia
  have c0:items.isEmpty=false:=by
   cases he:items.isEmpty with
   |false=>rfl
   |true=>rw[Array.isEmpty_iff.mp he] at hs;cases hs
  have c2:(items.isEmpty||k==1)=false:=by rw[c0];simp;lia
  have c3:(decide (k<=0)||items.isEmpty)=false:=by rw[c0];simp;lia
  have c4:¬((items.size:Int)*k>(2^63-1)/8):=by rw[hs];lia
  have c5:Builtin.Tuple.tupleTooMany ((items.size:Int)*k)=false:=by
   rw[hs];show decide (((1:Nat):Int)*k>(sizeLine:Int))=false;rw[Y9];exact Zq (by lia)
  wp_walk
  refine XX (λz=>by rw[c1] at z;cases z) λ_=>?_
  wp_walk
  refine XX (λz=>by rw[c2] at z;cases z) λ_=>?_;refine XX (λz=>by rw[c3] at z;cases z) λ_=>?_;refine XX (λz=>absurd z c4) λ_=>?_;refine XX (λz=>by rw[c5] at z;cases z) λ_=>?_
  wp_walk
  refine XX (λz=>absurd z ?_) λ_=>?_
  ·have f:∀(m:Nat) (acc:Array Value),(List.foldl (λx1 x2=>x1++x2) acc (List.replicate m items)).size=acc.size+m:=λm=>by
    induction m with
    |zero=>intro acc;rfl
    |succ m ih=>
     intro acc;rw[XM,Yd,ih,Array.size_append,hs];lia
   rw[f,Y9];simp;lia
  wp_walk
  exact⟨_,rfl,h⟩
end TupMul
section
variable {X:Cx}
theorem xa5:OpR X (binaryOp .Mult) (λx y H Q=>∃(l:Addr) (k:Int) (v:V),x=.ref l/\y=.int k/\H l=some (.tup [v])/\1<k/\k<=1000/\∀p,H p=none->Q (.ref p) (upd H p (.tup (List.replicate k.toNat v)))):=by
 intro j8 s σ H x y v u Q I rx ry h;obtain⟨l,k,v1,rfl,rfl,hH,h1,h2,q⟩:=h;cases rx;obtain⟨t,rfl⟩:=ry;obtain⟨_,its,r,o,ho,hc,⟨n,hdn⟩,hd⟩:=I.hok l _ hH;obtain⟨oc,od,odt,osl⟩:=o
 replace hc:oc=.type "tuple":=hc
 replace hd:odt=.seq its.toArray n:=hd
 subst hc hd;cases r with
 |cons r1 rr=>
  cases rr;rename_i u1;have hnew:List.foldl (λx1 x2=>x1++x2) #[] (List.replicate k.toNat #[u1])=(List.replicate k.toNat u1).toArray:=by
   have f:∀(m:Nat) (acc:List Value),List.foldl (λx1 x2=>x1++x2) acc.toArray (List.replicate m #[u1])=(acc++List.replicate m u1).toArray:=λm=>by
    induction m with
    |zero=>intro acc;simp
    |succ m ih=>
     intro acc;rw[XM,Yd,show acc.toArray++#[u1]=(acc++[u1]).toArray by simp,ih];simp[XM]
   have:=f k.toNat [];simpa using this
  refine wpAny_binaryOp_repeat_ref (T:= "tuple") (U:= "int") (by decide) ⟨_,ho,rfl⟩ (λs'=>typeIs_int s' k t) TupMul.noFill F.fills_int_mul F.slot_int_rmul TupMul.rep F.slot_int_index.lookup
   (call_meets F.slot_int_rmul (typeIs_int s k t) F.entry_int_rmul (F.args_int_rmul_2 _ _) (TupMul.declines k t l _ n od osl)
    ⟨ho,rfl,⟨_,ho,rfl⟩,call_meets F.slot_tuple_mul ⟨_,ho,rfl⟩ F.entry_tuple_mul (F.args_tuple_mul_2 _ _) (TupMul.mul k t l _ n od osl h1 h2 rfl) ⟨ho,?_⟩⟩)
  rw[hnew];refine⟨.ref _,_,I.laid (a:=s.heap.objs.size) (o:=.tup (List.replicate k.toNat v1)) (t':=s.toks) (λb o e=>Zf _ e) (Zd _) ⟨?_,List.replicate k.toNat u1,?_,_,Zo _ rfl,rfl,⟨_,rfl⟩,rfl⟩,rfl,q _ I.fresh⟩
  ·rw[List.length_replicate,Y9];lia
  ·generalize k.toNat=m
   induction m with
   |zero=>exact .nil
   |succ m ih=>exact .cons r1 ih
end
end L2
namespace Qf
abbrev Row:=List Nat
def mx:List Nat->Nat
 |[]=>0
 |a::l=>max a (mx l)
theorem qH8 {x:Nat}:∀{l:List Nat},x∈l->x<=mx l
 |a::l,h=>by
  rcases ZB.mp h with rfl|h
  ·exact Nat.le_max_left _ _
  ·exact ZL (qH8 h) (Nat.le_max_right _ _)
theorem xk1 {b:Nat}:∀{l:List Nat},(∀x∈l,x<=b)->mx l<=b
 |[],_=>ZE _
 |a::l,h=>Nat.max_le.mpr ⟨h a Zu,xk1 λx hx=>h x (Zn _ hx)⟩
theorem qW5 {f g:Nat->Nat}{l:List Nat}(h:∀x∈l,f x=g x):mx (l.map f)=mx (l.map g):=by
 rw[Yj h]
def xv6 (p:Nat) (r:Row):Prop:=r.length=4/\∀x∈r,x<p+2
def qb2 (rows:List Row):Prop:=∀p r,rows[p]?=some r->xv6 p r
def xv7 (ds:List Nat) (r:Row):List Nat:=ds++[1+mx (r.map (ds.getD · 0))]
def deps (rows:List Row):List Nat:=rows.foldl xv7 [0,0]
def dp (rows:List Row) (x:Nat):Nat:=(deps rows).getD x 0
theorem qr8 (rows:List Row) (r:Row):deps (rows++[r])=deps rows++[1+mx (r.map (dp rows))]:=by
 unfold deps dp deps;rw[VD]
 rfl
theorem qW6 {P:List Row->Prop}(h0:P []) (h1:∀l a,P l->P (l++[a])) (l:List Row):P l:=by
 have:∀m:List Row,P m.reverse:=λm=>by
  induction m with
  |nil=>exact h0
  |cons a m ih=>rw[List.reverse_cons];exact h1 _ _ ih
 have h:=this l.reverse
 rwa [List.reverse_reverse] at h
theorem qi2 (rows:List Row):(deps rows).length=rows.length+2:=by
 induction rows using qW6 with
 |h0=>rfl
 |h1 l a ih=>rw[qr8,Zr,ih,Zr];simp
theorem q21 {rows:List Row}{r:Row}{x:Nat}(h:x<rows.length+2):dp (rows++[r]) x=dp rows x:=by
 unfold dp;rw[qr8,Zx,Zx,Zh (by rw[qi2];exact h)]
theorem q22 {rows:List Row}{r:Row}:dp (rows++[r]) (rows.length+2)=1+mx (r.map (dp rows)):=by
 unfold dp;rw[qr8,Zx,Zi (by rw[qi2];exact Zd _),qi2];simp only[Wh,List.getElem?_cons_zero,Option.getD_some]
 rfl
theorem qm7 {rows more:List Row}{x:Nat}(h:x<rows.length+2):dp (rows++more) x=dp rows x:=by
 induction more using qW6 with
 |h0=>simp
 |h1 l a ih=>
  rw[<- Ye,q21 (by simp;lia),ih]
theorem qE1 {rows:List Row}{x:Nat}(h:x<2):dp rows x=0:=by
 have:=qm7 (rows:=[]) (more:=rows) (x:=x) (by simpa using h);rw[List.nil_append] at this;rw[this]
 match x,h with
 |0,_=>rfl
 |1,_=>rfl
theorem xa6 {rows:List Row}{p:Nat}{r:Row}(hp:rows[p]?=some r):rows=rows.take p++[r]++rows.drop (p+1):=by
 have jB:=(gS_ hp).1;have he:=(gS_ hp).2;rw[<- he,YI jB,YF]
theorem qp8 {rows:List Row}(ok:qb2 rows){p:Nat}{r:Row}(hp:rows[p]?=some r):dp rows (p+2)=1+mx (r.map (dp rows)):=by
 have jB:=(gS_ hp).1;have hl:(rows.take p).length=p:=by simp;lia
 have e:=xa6 hp;have h1:dp rows (p+2)=dp (rows.take p++[r]) (p+2):=by
  have:=qm7 (rows:=rows.take p++[r]) (more:=rows.drop (p+1)) (x:=p+2) (by simp;lia);rw[<- e] at this;exact this
 have h2:=q22 (rows:=rows.take p) (r:=r);rw[hl] at h2;rw[h1,h2];congr 1;refine qW5 λx hx=>?_;have hx2:=(ok p r hp).2 x hx;have:=qm7 (rows:=rows.take p) (more:=[r]++rows.drop (p+1)) (x:=x) (by rw[hl];exact hx2);rw[<- Ye,<- e] at this;exact this.symm
def dfs (rows:List Row):Nat->List Nat->Nat->List Nat
 |0,e,_=>e
 |d+1,e,x=>if x<2\/x-2∈e then e else (rows.getD (x-2) []).foldl (dfs rows d) e++[x-2]
theorem qr9 {f:List Nat->Nat->List Nat}(h:∀e x,∃s,f e x=e++s):∀(l:List Nat) (e:List Nat),∃s,l.foldl f e=e++s
 |[],e=>⟨[],by simp⟩
 |a::l,e=>by
  obtain⟨s,hs⟩:=h e a;obtain⟨s',hs'⟩:=qr9 h l (f e a);exact⟨s++s',by rw[Yd,hs',hs,Ye]⟩
theorem qH9 (rows:List Row):∀(d:Nat) (e:List Nat) (x:Nat),∃s,dfs rows d e x=e++s
 |0,e,x=>⟨[],by simp[dfs]⟩
 |d+1,e,x=>by
  unfold dfs;split
  ·exact⟨[],by simp⟩
  ·obtain⟨s,hs⟩:=qr9 (qH9 rows d) (rows.getD (x-2) []) e;exact⟨s++[x-2],by rw[hs,Ye]⟩
structure Post (rows:List Row) (e:List Nat):Prop where
 nd:e.Nodup
 lt:∀p∈e,p<rows.length
 ch:∀(i p:Nat),e[i]?=some p->∀q∈rows.getD p [],q<2\/∃j:Nat,j<i/\e[j]?=some (q-2)
theorem qg5 (rows:List Row):Post rows []:=⟨Vq,λp hp=>(nomatch hp),λi p h=>by simp at h⟩
theorem xa7 {e s:List Nat}{j a:Nat}(h:e[j]?=some a):(e++s)[j]?=some a:=by
 have:=(gS_ h).1;rw[Zh this];exact h
theorem qe7 {rows:List Row}(ok:qb2 rows):∀(d:Nat) (e:List Nat) (x:Nat),Post rows e->x<rows.length+2->dp rows x<=d->Post rows (dfs rows d e x)/\(x<2\/x-2∈dfs rows d e x)
 |0,e,x,pe,hx,hd=>by
  refine⟨pe,?_⟩;by_cases h:x<2
  ·exact .inl h
  ·exfalso;obtain⟨p,rfl⟩:∃p,x=p+2:=⟨x-2,by lia⟩;have hp:rows[p]?=some (rows[p]'(by lia)):=by simp[show p<rows.length by lia]
   rw[qp8 ok hp] at hd;lia
 |d+1,e,x,pe,hx,hd=>by
  unfold dfs;split
  ·rename_i h;exact⟨pe,h⟩
  ·rename_i h;obtain⟨h1,h2⟩:=not_or.mp h;obtain⟨p,rfl⟩:∃p,x=p+2:=⟨x-2,by lia⟩;rw[Wx] at h2 ⊢;have jB:p<rows.length:=by lia
   have hp:rows[p]?=some rows[p]:=by simp[jB]
   have eg:rows.getD p []=rows[p]:=by simp[List.getD,jB]
   rw[eg];have hdp:=qp8 ok hp;have rk:=ok p _ hp;have key:∀(l:List Nat) (e0:List Nat),(∀q∈l,q<p+2/\dp rows q<=d)->Post rows e0->Post rows (l.foldl (dfs rows d) e0)/\(∀q∈l,q<2\/q-2∈l.foldl (dfs rows d) e0)/\(∀a∈l.foldl (dfs rows d) e0,a∈e0\/a<p):=λl=>by
    induction l with
    |nil=>exact λe0 _ pe0=>⟨pe0,λq hq=>(nomatch hq),λa ha=>.inl ha⟩
    |cons q l ih=>
     intro e0 hl pe0;obtain⟨hq1,hq2⟩:=hl q Zu;obtain⟨p1,m1⟩:=qe7 ok d e0 q pe0 (by lia) hq2;obtain⟨p2,m2,n2⟩:=ih (dfs rows d e0 q) (λq' hq'=>hl q' (Zn _ hq')) p1;obtain⟨s,hs⟩:=qr9 (qH9 rows d) l (dfs rows d e0 q);refine⟨p2,λq' hq'=>?_,λa ha=>?_⟩
     ·rcases ZB.mp hq' with rfl|hq'
      ·rcases m1 with z|z
       ·exact .inl z
       ·rw[Yd,hs];exact .inr (X8 _ z)
      ·exact m2 q' hq'
     ·rcases n2 a ha with z|z
      ·
       have below:∀(d0:Nat) (e1:List Nat) (y:Nat),y<rows.length+2->∀a∈dfs rows d0 e1 y,a∈e1\/a+2<=y:=λd0=>by
        induction d0 with
        |zero=>exact λe1 y _ a ha=>.inl ha
        |succ d0 ihd=>
         intro e1 y hy a ha;unfold dfs at ha;split at ha
         ·exact .inl ha
         ·rename_i hh;obtain⟨hh1,hh2⟩:=not_or.mp hh;rcases Z6.mp ha with ha|ha
          ·have hy2:y-2<rows.length:=by lia
           have eg2:rows.getD (y-2) []=rows[y-2]:=by simp[List.getD,hy2]
           rw[eg2] at ha;have rk2:=ok (y-2) rows[y-2] (by simp[hy2]);have kk:∀(l2:List Nat) (e2:List Nat),(∀q∈l2,q<y-2+2)->∀a∈l2.foldl (dfs rows d0) e2,a∈e2\/a+2<=y:=λl2=>by
            induction l2 with
            |nil=>exact λe2 _ a ha=>.inl ha
            |cons q2 l2 ih2=>
             intro e2 jW a ha;rcases ih2 _ (λq' hq'=>jW q' (Zn _ hq')) a ha with z|z
             ·have hq2:=jW q2 Zu;rcases ihd e2 q2 (by lia) a z with z|z
              ·exact .inl z
              ·exact .inr (by lia)
             ·exact .inr z
           exact kk _ _ rk2.2 a ha
          ·have:a=y-2:=by simpa using ha
           exact .inr (by lia)
       rcases below d e0 q (by lia) a z with z|z
       ·exact .inl z
       ·exact .inr (by lia)
      ·exact .inr z
   obtain⟨k1,k2,k3⟩:=key rows[p] e (λq hq=>⟨rk.2 q hq,by
    have:dp rows q<=mx (rows[p].map (dp rows)):=qH8 (ZR.mpr ⟨q,hq,rfl⟩);lia⟩) pe
   refine⟨⟨?_,?_,?_⟩,.inr (ZU _ (by simp))⟩
   ·rw[Xz];refine⟨k1.nd,by simp,λa ha b hb=>?_⟩;have:b=p:=by simpa using hb
    subst this;intro z;subst z;rcases k3 a ha with z|z
    ·exact h2 z
    ·exact YT _ z
   ·intro a ha;rcases Z6.mp ha with ha|ha
    ·exact k1.lt a ha
    ·have:a=p:=by simpa using ha
     lia
   ·intro i a hi q hq;by_cases j9:i<(rows[p].foldl (dfs rows d) e).length
    ·rw[Zh j9] at hi;rcases k1.ch i a hi q hq with z|⟨j,hj,ej⟩
     ·exact .inl z
     ·exact .inr ⟨j,hj,xa7 ej⟩
    ·rw[Zi (by lia)] at hi;have vX:i-(rows[p].foldl (dfs rows d) e).length=0:=by
      have:=(gS_ hi).1;simp at this;lia
     rw[vX] at hi;have:a=p:=by simpa using hi.symm
     subst this;rw[eg] at hq;rcases k2 q hq with z|z
     ·exact .inl z
     ·obtain⟨j,hj,ej⟩:=ZK.mp z;exact .inr ⟨j,by lia,xa7 (by simp[hj,ej])⟩
theorem nd_iff {α:Type}{l:List α}:l.Nodup<->∀i j:Nat,i<j->j<l.length->l[i]?≠l[j]?:=by
 unfold List.Nodup;rw[YX];constructor
 ·intro h i j jT hj z;rw[Zc (by lia),Zc hj] at z;exact h i j (by lia) hj jT (Zv z)
 ·intro h i j hi hj jT z;refine h i j jT hj ?_;rw[Zc hi,Zc hj,z]
def nm (E:List Nat) (q:Nat):Nat:=if q<2 then q else E.idxOf (q-2)+2
theorem qj2 {E:List Nat}{q:Nat}(h:q<2):nm E q=q:=Zp h
theorem qg6 {E:List Nat}{q:Nat}(h:¬q<2):nm E q=E.idxOf (q-2)+2:=Zk h
def InE (E:List Nat) (q:Nat):Prop:=q<2\/q-2∈E
theorem xq3 {E:List Nat}(nd:E.Nodup){i a:Nat}(h:E[i]?=some a):E.idxOf a=i:=by
 obtain⟨hl,he⟩:=gS_ h;rw[<- he];exact nd.idxOf_getElem _ _
theorem qE2 {E:List Nat}{a:Nat}(h:a∈E):E[E.idxOf a]?=some a:=by
 have hl:=X5 h;rw[Zc hl];congr 1;exact List.getElem_idxOf hl
theorem xC7 {E:List Nat}{q r:Nat}(hq:InE E q) (hr:InE E r) (h:nm E q=nm E r):q=r:=by
 by_cases h1:q<2
 ·rw[qj2 h1] at h;by_cases h2:r<2
  ·rwa [qj2 h2] at h
  ·rw[qg6 h2] at h;lia
 ·rw[qg6 h1] at h;by_cases h2:r<2
  ·rw[qj2 h2] at h;lia
  ·rw[qg6 h2] at h;have a:=qE2 (hq.resolve_left h1);have b:=qE2 (hr.resolve_left h2);have e:E.idxOf (q-2)=E.idxOf (r-2):=by lia
   rw[e,b] at a;have:=Zv a;lia
def told (rows:List Row) (E:List Nat):List Row:=E.map λp=>(rows.getD p []).map (nm E)
theorem qe8 (rows:List Row) (E:List Nat):(told rows E).length=E.length:=by simp[told]
theorem qm8 {rows:List Row}{E:List Nat}{i p:Nat}(h:E[i]?=some p):(told rows E)[i]?=some ((rows.getD p []).map (nm E)):=by
 unfold told;rw[Zb,h];rfl
theorem qN7 {rows:List Row}{E:List Nat}(pe:Post rows E){i p:Nat}(h:E[i]?=some p){q:Nat}(hq:q∈rows.getD p []):InE E q/\nm E q<i+2:=by
 rcases pe.ch i p h q hq with z|⟨j,hj,ej⟩
 ·exact⟨.inl z,by rw[qj2 z];lia⟩
 ·have hm:q-2∈E:=Zm ej;refine⟨.inr hm,?_⟩;by_cases z:q<2
  ·rw[qj2 z];lia
  ·rw[qg6 z,xq3 pe.nd ej];lia
theorem qd0 {rows:List Row}{p:Nat}(h:p<rows.length):rows[p]?=some (rows.getD p []):=by
 simp[List.getD,h]
theorem qS4 {rows:List Row}(ok:qb2 rows){E:List Nat}(pe:Post rows E):qb2 (told rows E):=by
 intro i r hi;have hl:i<E.length:=by
  have:=(gS_ hi).1
  rwa [qe8] at this
 have he:E[i]?=some E[i]:=Zc hl;rw[qm8 he] at hi;have hr:=Zv hi;subst hr;have hp:=pe.lt _ (YR hl);refine⟨?_,λx hx=>?_⟩
 ·rw[Ze];exact (ok _ _ (qd0 hp)).1
 ·obtain⟨q,hq,rfl⟩:=ZR.mp hx;exact (qN7 pe he hq).2
theorem q23 {rows:List Row}{E:List Nat}(pe:Post rows E) (nd:rows.Nodup):(told rows E).Nodup:=by
 rw[nd_iff];intro i j jT hj;rw[qe8] at hj;have hi:i<E.length:=by lia
 have ei:E[i]?=some E[i]:=Zc hi;have ej:E[j]?=some E[j]:=Zc hj;rw[qm8 ei,qm8 ej];intro z;have z:=Zv z;have key:∀l m:List Nat,(∀q∈l,InE E q)->(∀q∈m,InE E q)->l.map (nm E)=m.map (nm E)->l=m:=λl=>by
  induction l with
  |nil=>intro m _ _ h;cases m with
   |nil=>rfl
   |cons b m=>simp at h
  |cons a l ih=>intro m h1 h2 h;cases m with
   |nil=>simp at h
   |cons b m=>
    rw[ZC,ZC] at h;injection h with h3 h4
    rw[xC7 (h1 a Zu) (h2 b Zu) h3,ih m (λq hq=>h1 q (Zn _ hq)) (λq hq=>h2 q (Zn _ hq)) h4]
 have e:=key _ _ (λq hq=>(qN7 pe ei hq).1) (λq hq=>(qN7 pe ej hq).1) z;have pi:=pe.lt _ (YR hi);have pj:=pe.lt _ (YR hj);have gi:=qd0 pi;have gj:=qd0 pj;rw[e,<- gj] at gi;have:E[i]=E[j]:=by
  by_cases jH:E[i]=E[j]
  ·exact jH
  ·exfalso;rcases Nat.lt_or_gt_of_ne jH with w|w
   ·exact (nd_iff.mp nd) _ _ w pj gi
   ·exact (nd_iff.mp nd) _ _ w pi gi.symm
 have:=(nd_iff.mp pe.nd) i j jT hj;rw[ei,ej] at this;exact this (by rw[‹E[i]=E[j]›])
def qg8 (r:Row):Prop:=r=[0,0,0,0]\/r=[1,1,1,1]
instance (r:Row):Decidable (qg8 r):=by unfold qg8;infer_instance
theorem qS5 {f:Nat->Nat}{c:Nat}(h:∀q,f q=c->q=c):∀{l:List Nat}{k:Nat},l.map f=List.replicate k c->l=List.replicate k c
 |[],0,_=>rfl
 |[],k+1,z=>by simp[List.replicate] at z
 |a::l,0,z=>by simp at z
 |a::l,k+1,z=>by
  rw[ZC,XM] at z;injection z with z1 z2
  rw[h a z1,qS5 h z2,XM]
theorem qW7 {E:List Nat}{c:Nat}(hc:c<2) (q:Nat) (h:nm E q=c):q=c:=by
 by_cases z:q<2
 ·rwa [qj2 z] at h
 ·rw[qg6 z] at h;lia
theorem qN8 {rows:List Row}{E:List Nat}(pe:Post rows E) (np:∀r∈rows,¬qg8 r):∀r∈told rows E,¬qg8 r:=by
 intro r hr;obtain⟨p,hp,rfl⟩:=ZR.mp hr;have hm:rows.getD p []∈rows:=Zm (qd0 (pe.lt p hp));intro z;rcases z with z|z
 ·exact np _ hm (.inl (qS5 (k:=4) (qW7 (by decide)) z))
 ·exact np _ hm (.inr (qS5 (k:=4) (qW7 (by decide)) z))
theorem xv8 {rows:List Row}(ok:qb2 rows){E:List Nat}(pe:Post rows E):∀q,InE E q->dp (told rows E) (nm E q)=dp rows q:=by
 intro q
 induction q using Nat.strongRecOn with
 |ind q ih=>
  intro hq;by_cases z:q<2
  ·rw[qj2 z,qE1 z,qE1 z]
  ·have hm:=hq.resolve_left z;have hp:=pe.lt _ hm;have ea:=qE2 hm;rw[qg6 z,qp8 (qS4 ok pe) (qm8 ea)];have e2:dp rows q=1+mx ((rows.getD (q-2) []).map (dp rows)):=by
    have:=qp8 ok (qd0 hp)
    rwa [show q-2+2=q by lia] at this
   rw[e2,Ym];congr 1;refine qW5 λx hx=>?_;have hx2:=(ok _ _ (qd0 hp)).2 x hx;exact ih x (by lia) (qN7 pe ea hx).1
theorem qW8 {rows:List Row}(ok:qb2 rows){E:List Nat}(pe:Post rows E):∀(d:Nat) (e:List Nat) (y:Nat),dfs rows d e y <+: E->dfs (told rows E) d (List.range e.length) (nm E y)=List.range (dfs rows d e y).length
 |0,e,y,_=>rfl
 |d+1,e,y,pf=>by
  have pe1:e <+: E:=by
   obtain⟨s,hs⟩:=qH9 rows (d+1) e y;rw[hs] at pf;exact Vf (Vv _ _) pf
  have memi:∀{a:Nat},a∈E->(a∈e<->E.idxOf a<e.length):=λ{a} ha=>by
   obtain⟨s,hs⟩:=pe1;constructor
   ·intro hm;rw[<- hs,VE,Zp hm];exact X5 hm
   ·intro hl;have:=qE2 ha;rw[<- hs,Zh (by rw[hs];exact hl)] at this;exact Zm this
  unfold dfs at pf ⊢;by_cases h:y<2\/y-2∈e
  ·rw[Zp h,Zp];rcases h with h|h
   ·exact .inl (by rw[qj2 h];exact h)
   ·by_cases z:y<2
    ·exact .inl (by rw[qj2 z];exact z)
    ·right;rw[qg6 z,Wx,ZH];exact (memi (pe1.subset h)).mp h
  ·rw[Zk h] at pf ⊢;obtain⟨h1,h2⟩:=not_or.mp h;have hE:y-2∈E:=pf.subset (by simp);rw[qg6 h1,Wx];have hnot:¬(E.idxOf (y-2)+2<2\/E.idxOf (y-2)∈List.range e.length):=by
    rw[ZH];rintro (z|z)
    ·lia
    ·exact h2 ((memi hE).mpr z)
   rw[Zk hnot];have et:(told rows E).getD (E.idxOf (y-2)) []=(rows.getD (y-2) []).map (nm E):=by
    have:=qm8 (rows:=rows) (qE2 hE);rw[Zx,this];rfl
   rw[et];have key:∀(l:List Nat) (e0:List Nat),l.foldl (dfs rows d) e0 <+: E->(l.map (nm E)).foldl (dfs (told rows E) d) (List.range e0.length)=List.range (l.foldl (dfs rows d) e0).length:=λl=>by
    induction l with
    |nil=>exact λe0 _=>rfl
    |cons q l ih=>
     intro e0 pf0;rw[ZC,Yd,Yd];have:dfs rows d e0 q <+: E:=by
      obtain⟨s,hs⟩:=qr9 (qH9 rows d) l (dfs rows d e0 q);rw[Yd,hs] at pf0;exact Vf (Vv _ _) pf0
     rw[qW8 ok pe d e0 q this];exact ih _ pf0
   have pf2:(rows.getD (y-2) []).foldl (dfs rows d) e <+: E:=Vf (Vv _ _) pf;rw[key _ e pf2,Zr];have:E.idxOf (y-2)=((rows.getD (y-2) []).foldl (dfs rows d) e).length:=by
    refine xq3 pe.nd ?_;obtain⟨s,hs⟩:=pf;rw[<- hs,Ye,Zi (Zd _),Wh]
    rfl
   rw[this];exact YM.symm
structure Canon (n top:Nat) (rows:List Row):Prop where
 size:n<=12
 rok:qb2 rows
 inn:top<rows.length+2
 deep:dp rows top<=n
 unplain:∀r∈rows,¬qg8 r
 unlike:rows.Nodup
 ends:dfs rows n [] top=List.range rows.length
theorem q24 {n x:Nat}{rows:List Row}(hn:n<=12) (ok:qb2 rows) (hx:x<rows.length+2) (hd:dp rows x<=n) (np:∀r∈rows,¬qg8 r) (nd:rows.Nodup) :
  Canon n (nm (dfs rows n [] x) x) (told rows (dfs rows n [] x)):=by
 obtain⟨pe,hm⟩:=qe7 ok n [] x (qg5 rows) hx hd;refine⟨hn,qS4 ok pe,?_,?_,qN8 pe np,q23 pe nd,?_⟩
 ·rw[qe8];by_cases z:x<2
  ·rw[qj2 z];lia
  ·rw[qg6 z];have:=X5 (hm.resolve_left z);lia
 ·rw[xv8 ok pe x hm];exact hd
 ·rw[qe8];exact qW8 ok pe n [] x (List.prefix_refl _)
end Qf
namespace L2
open PySem PySem.Spec PyProof.Rows
section
variable {X:Cx}
theorem qW9 {i0:Nat}{x0:Str}{px0 spos:Pos}{nn:List Str}{tg:Expr}{ifs:List Expr}{pos:Pos}{elt iter:Expr}{scope:Scope}{wi:TI}{g:TG}{tt:TT}{te:TE}(T:Env->Sem Bool) (hc:X.calm=true) (hi:PI X tg iter wi)
  (hturn:∀it acc env,compTurn (.ListComp elt [⟨tg,iter,ifs,0⟩] scope pos) 0 it acc env=(standAt iter.pos >>= λ_=>pyNext it >>= λr=>match r with
   |none=>pure (.done .next)
   |some v=>letOwnedTupleGo tg it v >>= λ_=>assign tg env v >>= λ_=>T env >>= λok=>(if ok=true then (eval elt env >>= λx=>call (.builtin "list.append") [acc,x] >>= λ_=>pure ()) else pure ()) >>= λ_=>
     again (.compLoop (.ListComp elt [⟨tg,iter,ifs,0⟩] scope pos) 0 it acc env)))
  (hgt:∀cl C fp s₀ H₀,PG (qc4 X scope cl C nn fp s₀ H₀) tg g)
  (hloc2:∀y (os σ:St) H R,os.length=nn.length->g y (os++σ) H R->g y (os++σ) H λσ' H'=>(∃os':St,os'.length=nn.length/\σ'=os'++σ)/\R σ' H')
  (htt:∀cl C fp s₀ H₀ (j8:List (Addr×Obj)) (s:Shared) (σ:St) (H:Hp) (Q:Bool->Hp->Prop),Inv (qc4 X scope cl C nn fp s₀ H₀) j8 σ H s->tt σ H Q->wpAny (model X.prog X.w) X.A (T (compEnvC scope cl C X.env)) (TP (qc4 X scope cl C nn fp s₀ H₀) j8 σ Q) (λ_ _=>False) s)
  (he:∀cl C fp s₀ H₀,PE (qc4 X scope cl C nn fp s₀ H₀) elt te)
  (jE:scope.kind=.function) (jC:∀y∈scope.names,y.2≠.cell) (jD:∀y∈scope.names,y.2=.local->scope.names.lookup y.1=some .local)
  (jL:∀y∈X.N,scope.names.lookup y≠some .local) (kB:∀p∈scope.names,p.2=.free->Vis X.env.scope p.1/\X.env.scope.names.lookup p.1≠some .local)
  (hs:∀x,foldedSetIterable iter X.env x=pure x) (hN0:X.N.Nodup) (vX:X.N[i0]?=some x0) (hx0:X.env.scope.names.lookup x0=some .local) (hsw:swapsWith (.ListComp elt [⟨tg,iter,ifs,0⟩] scope pos) (some (.Name x0 px0)) spos.line X.env=pure true) :
  PS X (.Assign [.Name x0 px0] (.ListComp elt [⟨tg,iter,ifs,0⟩] scope pos) spos) (tAsg (qr7 nn.length wi g tt te) (qg7 i0)):=by
 intro j8 s σ H EE I h;rw[exec_Assign_Name_used _ _ _ _ hsw];refine Za (wpAny_standAt (Za ?_));show wpAny _ X.A (do let _ <- comprehension (.ListComp elt [⟨tg,iter,ifs,0⟩] scope pos) scope X.env _ (newList []) false (eval iter X.env) (some (assign (.Name x0 px0) X.env))) _ _ s;obtain⟨cl,hclos,jX,hcl2⟩:=qm6 (scope:=scope) (env:=X.env) (λp hp hk=>by
  obtain⟨hv,hn⟩:=kB p hp hk;refine I.ok.has p.1 ?_;rcases hv with z|z
  ·exact absurd z hn
  ·exact z)
 refine Za (Y0 (wpAny_comprehension_free (use:=some (assign (.Name x0 px0) X.env)) (Q:=λ_ s'=>SP X j8 EE .next s') rfl hs hclos jE jD (thn (hi j8 s σ H _ I h) λv s1 h1=>thn h1 λitv s2 h2=>?_)) (λ_ s' hq=>Zg (Zg hq)) λ_ _ e=>e);obtain⟨it,fp,tn,J,H2,rfl,I2,T',st2,f2,q⟩:=h2;have hD:H2 s2.heap.objs.size=none:=I2.hok.fresh (Zd _);obtain⟨W,⟨m0,w0⟩,turn⟩:=q _ hD;refine Z7 (wpAny_newFunctionEnv jC (by intro y hy;simp at hy) (λh₁ hns₁ hsb₁=>?_) jE);dsimp only at hns₁ hsb₁ ⊢;have I3:Inv X j8 σ (upd H2 s2.heap.objs.size (.lst [])) { s2 with heap:=s2.heap.push { cls:=.type "list",dict:=none,data:=.seq ([]:List Value).toArray } }:=
  I2.laid (t':=s2.toks) (λb u e=>Zf _ e) (Zd _) ⟨ZE _,[],0,.nil,Zo _ rfl⟩
 have fpn:∀b∈fp,b≠s2.heap.objs.size:=λb hb=>by
  obtain⟨o,e,_⟩:=T'.obj 0 s2.heap st2 b hb;exact ZA (Zs e)
 have fplt:∀b∈fp,b<(s2.heap.push { cls:=.type "list",dict:=none,data:=.seq ([]:List Value).toArray }).objs.size:=λb hb=>by
  obtain⟨o,e,_⟩:=T'.obj 0 s2.heap st2 b hb;rw[YG];exact Yl (Zs e)
 have f3:∀b∈fp,FpOk X j8 (upd H2 s2.heap.objs.size (.lst [])) b:=λb hb=>⟨by rw[qa5 (fpn b hb)];exact (f2 b hb).1,(f2 b hb).2⟩;generalize kD:s2.heap.push { cls:=.type "list",dict:=none,data:=.seq ([]:List Value).toArray }=g2 at hns₁ hsb₁ I3 fplt ⊢;have keep:∀b o,g2.get? b=some o->h₁.get? b=some o:=λb o e=>(hsb₁.2 b (ZA (Zs e))).trans (Zf _ e);have J0:=qz7 (nn:=nn) (tk:=s2.toks+([]:List (Str×Value)).length) I3 (C:=g2.objs.size) rfl keep hns₁ f3 fplt jE jC jL jX hcl2 kB;generalize hY:qc4 X scope cl g2.objs.size nn fp { s2 with heap:=g2 } (upd H2 s2.heap.objs.size (.lst []))=Y at J0;have eY:PE Y elt te:=by rw[<- hY];exact he _ _ _ _ _
 have eG:PG Y tg g:=by rw[<- hY];exact hgt _ _ _ _ _
 have eT:∀(j8:List (Addr×Obj)) (s:Shared) (σ:St) (H:Hp) (Q:Bool->Hp->Prop),Inv Y j8 σ H s->tt σ H Q->wpAny (model Y.prog Y.w) Y.A (T Y.env) (TP Y j8 σ Q) Y.xe s:=by rw[<- hY];exact htt _ _ _ _ _
 have eP:Y.prog=X.prog:=by rw[<- hY];rfl
 have eW:Y.w=X.w:=by rw[<- hY];rfl
 have eK:Y.K=X.K:=by rw[<- hY];rfl
 have eA:Y.A=X.A:=by rw[<- hY];rfl
 have eC:Y.calm=true:=by rw[<- hY];exact hc
 have eE:Y.env=compEnvC scope cl g2.objs.size X.env:=by rw[<- hY];rfl
 have eX:Y.xe=λ_ _=>False:=by rw[<- hY];rfl
 have eN:Y.N=nn++X.N:=by rw[<- hY];rfl
 have eEx:Y.ex=fp:=by rw[<- hY];rfl
 have eFs:Y.fs=frs X.stack:=by rw[<- hY];rfl
 have ePn:Y.pn=[]:=by rw[<- hY];rfl
 have fpY:∀{H':Hp},(∀b∈fp,H' b=none)->∀b∈fp,FpOk Y [] H' b:=λhn b hb=>by
  have g:=f3 b hb;refine⟨hn b hb,?_,?_,.inl (by rw[eEx];exact hb),?_,λp hp=>absurd hp (by rw[ePn];simp)⟩
  ·rw[eE];exact ZA (fplt b hb)
  ·rw[eFs];intro z;rcases ZB.mp (I3.stkSub b z) with z|z
   ·exact g.2.1 z
   ·exact g.2.2.1 z
  ·rw[eE];exact λy c e=>g.2.2.2.2.1 y c (jX y c e)
 have loop:∀s₃:Shared,s₃={ s2 with heap:=h₁,toks:=s2.toks+([]:List (Str×Value)).length } ->
   codeAny (model X.prog X.w) X.A (.compLoop (.ListComp elt [⟨tg,iter,ifs,0⟩] scope pos) 0 (.ref it) (.ref s2.heap.objs.size) (compEnvC scope cl g2.objs.size X.env))
    (compPost (model X.prog X.w) X.A X.xe (some (assign (.Name x0 px0) X.env)) (λ_ s'=>SP X j8 EE .next s') (.ref s2.heap.objs.size) g2.objs.size) s₃:=by
  rintro s₃ rfl;refine qN3 (T (compEnvC scope cl g2.objs.size X.env)) (hturn _ _ _) (λn s'=>∃i xs H' os,os.length=nn.length/\Inv Y [] (os++σ) H' s'/\tn i s'.heap/\(∀b∈fp,H' b=none)/\W i n xs H') ?_ m0
   ⟨0,[],_,nn.map λ_=>none,by simp,J0,T'.keep 0 _ _ st2 (λb hb o e=>keep b o (by rw[<- kD];exact Zf _ e)),λb hb=>(f3 b hb).1,w0⟩
  rintro n s3 ⟨i,xs,H3,os,kZ,I4,st3,fr3,w3⟩;obtain⟨hDx,hlx,alt⟩:=turn i n xs H3 w3;rcases alt with ⟨stop,qn⟩|⟨go,step⟩
  ·have D1:=T'.done Y eP eW eK eC i [] s3 _ H3 (λ_ _=>False) I4 (fpY fr3) st3 stop;rw[eA] at D1;refine thn D1 λr s4 ⟨hr,I5⟩=>?_;subst hr;obtain⟨m4,kI,_⟩:=id I5.loc;rw[eE] at kI;have hC0:H3 g2.objs.size=none:=by
    have:=I5.free;rw[eE] at this;exact this
   have fC:FpOk X j8 H3 g2.objs.size:=I3.fpOk (Zd _) hC0;rw[<- hY] at I5;have IX:Inv X j8 σ H3 s4:=qN4 I3 rfl f3 I5 (Heap.SameBut.refl _ _);have kI:s4.heap.Ns g2.objs.size m4:=kI;obtain⟨oC,esC,epC,hoC,rC⟩:=id kI;have IP:=IX.pinned (fp:=[g2.objs.size]) (λb hb=>by
    have:b=g2.objs.size:=by simpa using hb
    subst this;exact fC) (λb hb=>by
    have:b=g2.objs.size:=by simpa using hb
    subst this;exact⟨oC,hoC,λv z=>by rw[rC.1] at z;cases z⟩)
   show wpAny _ X.A (assign (.Name x0 px0) X.env (.ref s2.heap.objs.size)) _ _ s4;refine wpAny_assign_Name (qF9 (v:=.ref s2.heap.objs.size) IP hN0 vX (.inl hx0) rfl (λs5 I6=>?_) (.inr hx0));have pC:=I6.pin (g2.objs.size,oC) (ZU _ (ZU _ (qk2 (by simp) hoC)));refine⟨m4,kI.at' (λo e=>by rw[hoC] at e;cases e;exact pC.1),λh' sb=>⟨_,H3,?_,qn⟩⟩;exact I6.unpinned.turned (t':=s5.toks) (λb o hb e=>(sb.2 b hb).trans e) fC.1 fC.2.1 fC.2.2.2.1 fC.2.2.2.2.1 fC.2.2.2.2.2
  ·have G1:=T'.item Y eP eW eK eC i [] s3 _ H3 (λ_ _=>False) I4 (fpY fr3) st3 go;rw[eA] at G1;refine thn G1 λr s4 ⟨u,hr,h4⟩=>?_;subst hr;refine thn h4 λ_ s5 ⟨y,H5,I5,r5,y5,st5,fr5⟩=>?_;have I5':=I5.pinned (fpY fr5) (T'.obj _ _ st5);have S1:=eG _ s5 _ H5 y u _ I5' r5 (hloc2 y os σ H5 _ kZ (step y _ y5 os kZ));rw[eP,eW,eA,eE,eX] at S1;refine thn S1 λ_ s6 ⟨σ6,H6,I6,⟨os6,hos6,e6⟩,q6⟩=>?_;subst e6;have S2:=eT _ s6 _ _ _ I6 q6;rw[eP,eW,eA,eE,eX] at S2;refine thn S2 λok s7 ⟨H7,I7,q7⟩=>?_;have back:∀{s9:Shared}{H9:Hp}{m':Nat}{zs:List V},Inv Y ([]++qD0 fp s5.heap) (os6++σ) H9 s9->m'<n->W (i+1) m' zs H9->∃m,m<n/\∃i xs H' os,os.length=nn.length/\Inv Y [] (os++σ) H' s9/\tn i s9.heap/\(∀b∈fp,H' b=none)/\W i m xs H':=λ{s9 H9 m' zs} I9 hm' w9=>by
    have pin:∀b∈fp,∀ob,s5.heap.get? b=some ob->s9.heap.get? b=some ob/\H9 b=none:=λb hb ob e=>by
     have z:=I9.pin (b,ob) (ZU _ (ZU _ (qk2 hb e)));exact⟨z.1,z.2.1⟩
    refine⟨m',hm',i+1,zs,H9,os6,hos6,I9.unpinned,T'.keep _ _ _ st5 (λb hb ob e=>(pin b hb ob e).1),λb hb=>?_,w9⟩;obtain⟨ob,e,_⟩:=T'.obj _ _ st5 b hb;exact (pin b hb ob e).2
   cases ok with
   |true=>
    rw[Zp rfl] at q7;rw[Zp rfl];have S3:=eY _ s7 _ _ _ I7 q7;rw[eP,eW,eA,eE,eX] at S3;refine thn S3 λxv s8 ⟨v8,H8,I8,r8,hD8,m',hm',w8⟩=>?_;have S4:=qf2 (X:=Y) _ s8 _ H8 (.ref s2.heap.objs.size) [v8] (.ref s2.heap.objs.size) [xv] (λ_ H9=>H9=upd H8 s2.heap.objs.size (.lst (xs++[v8]))) I8 rfl (.cons r8 .nil) ⟨_,xs,v8,rfl,rfl,hD8,hlx,rfl⟩;rw[eP,eW,eA,eX] at S4;refine thn S4 λ_ s9 ⟨v9,H9,I9,_,e9⟩=>?_;subst e9;exact back I9 hm' w8
   |false=>
    rw[Zk ZD] at q7;rw[Zk ZD];obtain⟨m',hm',w8⟩:=q7;exact back I7 hm' w8
 exact codeAny_compStart_list (loop _ rfl) (T'.self _ 0 _ _ _ (T'.keep 0 _ _ st2 (λb hb o e=>keep b o (by rw[<- kD];exact Zf _ e))) (loop _ rfl))
theorem xv9 {i0:Nat}{x0:Str}{px0 spos:Pos}{x:Str}{px pos:Pos}{elt iter:Expr}{scope:Scope}{wi:TI}{te:TE}(N:List Str) (sc:Scope) (vC:X.N=N) (kY:X.env.scope=sc) (hc:X.calm=true) (hN:X.N.Nodup) (vX:X.N[i0]?=some x0) (hx0:X.env.scope.names.lookup x0=some .local) (hi:PI X (.Name x px) iter wi)
  (he:∀cl C fp s₀ H₀,PE (qc4 X scope cl C [x] fp s₀ H₀) elt te)
  (jE:scope.kind=.function:=by rfl) (jC:scope.names.all (λy=>y.2 != .cell)=true:=by decide +kernel) (jD:scope.names.all (λy=>y.2 != .local||scope.names.lookup y.1==some .local)=true:=by decide +kernel)
  (hx:scope.names.lookup x=some .local:=by rfl) (jL:N.all (λy=>scope.names.lookup y != some .local)=true:=by decide +kernel)
  (kB:scope.names.all (λp=>p.2 != .free||(sc.names.lookup p.1==some .cell||sc.names.lookup p.1==some .free))=true:=by decide +kernel)
  (hs:∀x,foldedSetIterable iter X.env x=pure x:=by intro _;rfl) (hsw:swapsWith (.ListComp elt [⟨.Name x px,iter,[],0⟩] scope pos) (some (.Name x0 px0)) spos.line X.env=pure true:=by rfl) :
  PS X (.Assign [.Name x0 px0] (.ListComp elt [⟨.Name x px,iter,[],0⟩] scope pos) spos) (tAsg (qr7 1 wi (qg7 0) q19 te) (qg7 i0)):=by
 obtain⟨s1,s2,s3,s4⟩:=qk5 vC kY jC jD jL kB;refine qW9 (nn:=[x]) (λ_=>pure true) hc hi (λit acc env=>qS3 elt _ iter scope pos it acc env) (λcl C fp s₀ H₀=>?_) (λy os σ H R ho h=>loc1 ho h) (λcl C fp s₀ H₀ j8 s σ H Q I h=>Zg ⟨H,I,h⟩) he jE s1 s2 s3 s4 hs hN vX hx0 hsw;have l:(qc4 X scope cl C [x] fp s₀ H₀).env.scope.names.lookup x=some .local:=Xy hx;exact qt9 (i:=0) (YJ.mpr ⟨λz=>s3 x z hx,hN⟩) rfl (.inl l) (.inr l)
end
end L2
namespace L2
open PySem PySem.Spec PyProof.Rows PySem.W
section
variable {X:Cx}
def xC8:TE:=λ_ H Q=>∀p,H p=none->Q (.ref p) (upd H p (.dK []))
theorem qX0 {pos:Pos}:PE X (.Dict [] [] pos) xC8:=λj8 s σ H Q I h=>by
 have hb:sysModules<s.heap.objs.size:=Vj (by decide) (I.mod.glob.keeps I.bk).lt;exact wpAny_Dict_empty ⟨.ref s.heap.objs.size,_,I.laid (a:=s.heap.objs.size) (o:=.dK []) (t':=s.toks) (λ_ _ q=>Zf _ q) (Zd _) ⟨ZE _,YB.mpr (Yx (ZA hb)),[],.nil,Heap.DictOf.new _⟩,rfl,h _ (I.hok.fresh (Zd _))⟩
end
end L2
namespace L2
open PySem PySem.Spec PyProof.Rows
theorem xk2 {wi:TI}{te:TE}:xu3 wi te=qr7 1 wi (qg7 0) q19 te:=by
 funext σ H Q;unfold xu3 qr7;congr 1;funext J H1;refine propext (Y8 λD=>Y8 λ_=>exists_congr λW=>Vb λ_=>Y8 λi=>Y8 λm=>Y8 λxs=>Y8 λH2=>Y8 λ_=>Vb λ_=>Vb λ_=>or_congr_right (Vb λ_=>Y8 λy=>Y8 λH3=>Y8 λ_=>⟨λh os ho=>?_,λh=>?_⟩))
 ·match os,ho with
  |[o],_=>
   unfold qg7 q19;dsimp only;rw[Zp rfl];exact h
 ·have z:=h [none] rfl;unfold qg7 q19 at z;dsimp only at z;rw[Zp rfl] at z;exact z
section
variable {X:Cx}
theorem qe9 {x:Str}{px pos:Pos}{elt iter:Expr}{scope:Scope}{wi:TI}{te:TE}(N:List Str) (sc:Scope) (vC:X.N=N) (kY:X.env.scope=sc) (hc:X.calm=true) (hN:X.N.Nodup) (hi:PI X (.Name x px) iter wi) (he:∀cl C fp s₀ H₀,PE (qc4 X scope cl C [x] fp s₀ H₀) elt te)
  (jE:scope.kind=.function:=by rfl) (jC:scope.names.all (λy=>y.2 != .cell)=true:=by decide +kernel) (jD:scope.names.all (λy=>y.2 != .local||scope.names.lookup y.1==some .local)=true:=by decide +kernel)
  (hx:scope.names.lookup x=some .local:=by rfl) (jL:N.all (λy=>scope.names.lookup y != some .local)=true:=by decide +kernel)
  (kB:scope.names.all (λp=>p.2 != .free||(sc.names.lookup p.1==some .cell||sc.names.lookup p.1==some .free))=true:=by decide +kernel)
  (hs:∀x,foldedSetIterable iter X.env x=pure x:=by intro _;rfl):PE X (.ListComp elt [⟨.Name x px,iter,[],0⟩] scope pos) (xu3 wi te):=by
 obtain⟨s1,s2,s3,s4⟩:=qk5 vC kY jC jD jL kB;rw[xk2];refine qw8 (nn:=[x]) (λ_=>pure true) hc hi (λit acc env=>qS3 elt _ iter scope pos it acc env) (λcl C fp s₀ H₀=>?_) (λy os σ H R ho h=>loc1 ho h) (λcl C fp s₀ H₀ j8 s σ H Q I h=>Zg ⟨H,I,h⟩) he jE s1 s2 s3 s4 hs;have l:(qc4 X scope cl C [x] fp s₀ H₀).env.scope.names.lookup x=some .local:=Xy hx;exact qt9 (i:=0) (YJ.mpr ⟨λz=>s3 x z hx,hN⟩) rfl (.inl l) (.inr l)
end
end L2
namespace L2
open PySem
theorem qc2 {H:Hp}{a b:Addr}{o u:HO}(e:H a=some o) (hn:H b=none):upd H b u a=some o:=by rw[qa5 (qa3 e hn)];exact e
theorem qb1 {H:Hp}{a:Addr}{o:HO}(h:H a=none):Same H (upd H a o):=λb u e=>qc2 e h
def Tups (H H':Hp):Prop:=∀b u,H b=some (.tup u)->H' b=some (.tup u)
theorem Same.tups {H H':Hp}(s:Same H H'):Tups H H':=λb u e=>s b _ e
structure Goes (J:It) (H:Hp) (n:Nat) (item:Nat->V->Hp->Prop):Prop where
 go:∀i H2,i<n->Same H H2->J.go i H2
 yl:∀i H2 y H3,i<n->Same H H2->J.yld i H2 y H3->Same H2 H3/\item i y H3
 st:∀H2,Same H H2->J.stop n H2
theorem qh4 {K:PySem.W.Frag}{H:Hp}{a:Addr}{xs:List V}(ha:H a=some (.tup xs)):Goes (Itt K a) H xs.length (λi y _=>xs[i]?=some y) where
 go:=λi H2 hi s=>⟨xs,xs[i],SqT.of (s _ _ ha),by simp[hi]⟩
 yl:=λi H2 y H3 hi s h=>by
  obtain⟨e,h⟩:=h;subst e;exact⟨Same.refl _,h xs (SqT.of (s _ _ ha))⟩
 st:=λH2 s=>⟨xs,SqT.of (s _ _ ha),Zd _⟩
theorem qw9 {K:PySem.W.Frag}{H:Hp}{a:Addr}{xs:List V}(ha:H a=some (.lst xs)):Goes (Itl K a) H xs.length (λi y _=>xs[i]?=some y) where
 go:=λi H2 hi s=>⟨xs,xs[i],SqL.of (s _ _ ha),by simp[hi]⟩
 yl:=λi H2 y H3 hi s h=>by
  obtain⟨e,h⟩:=h;subst e;exact⟨Same.refl _,h xs (SqL.of (s _ _ ha))⟩
 st:=λH2 s=>⟨xs,SqL.of (s _ _ ha),Zd _⟩
theorem qX1 {H:Hp}{n:Nat}:Goes (Itr 0 n) H n (λi y _=>y=.int (i:Int)) where
 go:=λi H2 hi s=>hi
 yl:=λi H2 y H3 hi s h=>by
  obtain⟨e,h⟩:=h;subst e;exact⟨Same.refl _,by rw[h,Int.zero_add]⟩
 st:=λH2 s=>Zd n
theorem qN9 {K:PySem.W.Frag}{H:Hp}{a:Addr}{xs:List V}(ha:H a=some (.tup xs)):Goes (Ite K a) H xs.length (λi y H3=>∃p x,y=.ref p/\xs[i]?=some x/\H3 p=some (.tup [.int i,x])) where
 go:=λi H2 hi s=>⟨xs,xs[i],SqT.of (s _ _ ha),by simp[hi]⟩
 yl:=λi H2 y H3 hi s h=>by
  obtain⟨p,x,hp,hx,rfl,rfl⟩:=h;exact⟨qb1 hp,p,x,rfl,hx xs (SqT.of (s _ _ ha)),qa1⟩
 st:=λH2 s=>⟨xs,SqT.of (s _ _ ha),Zd _⟩
theorem qe1 {J:It}{H:Hp}{n:Nat}{item:Nat->V->Hp->Prop}{te:TE}{σ:St}{Fin:Hp->Prop}{D:Addr}(hD:H D=none) (Rel:Nat->V->Hp->Prop) (G:Goes J H n item) (hsz:n<sizeLine)
  (mono:∀i y H1 H2,i<n->Tups H1 H2->Rel i y H1->Rel i y H2)
  (step:∀i x H2,i<n->item i x H2->Same H H2->∀Q':VK,(∀y H3,Same H2 H3->Rel i y H3->Q' y H3)->te (some x::σ) H2 Q')
  (fin:∀ys H2,Same H H2->H2 D=some (.lst ys)->ys.length=n->(∀i y,ys[i]?=some y->Rel i y H2)->Fin H2) :
  ∃W:Nat->Nat->List V->Hp->Prop,(∃m,W 0 m [] (upd H D (.lst []))) /\
   ∀i m xs H2,W i m xs H2->H2 D=some (.lst xs)/\xs.length<sizeLine/\((J.stop i H2/\Fin H2)\/(J.go i H2/\∀y H3,J.yld i H2 y H3 ->
    te (some y::σ) H3 λv H4=>H4 D=some (.lst xs)/\∃m',m'<m/\W (i+1) m' (xs++[v]) (upd H4 D (.lst (xs++[v]))))):=by
 refine⟨λi m ys H2=>i<=n/\m=n-i/\ys.length=i/\H2 D=some (.lst ys)/\Same H H2/\∀j y,ys[j]?=some y->Rel j y H2,⟨n,ZE _,rfl,rfl,qa1,qb1 hD,λj y h=>by simp at h⟩,?_⟩;rintro i m ys H2 ⟨hi,rfl,hl,hd,s2,rel⟩;refine⟨hd,by lia,?_⟩;by_cases he:i=n
 ·subst he;exact .inl ⟨G.st H2 s2,fin ys H2 s2 hd hl rel⟩
 ·refine .inr ⟨G.go i H2 (by lia) s2,λy H3 hy=>?_⟩;obtain⟨s3,it⟩:=G.yl i H2 y H3 (by lia) s2 hy;refine step i y H3 (by lia) it (s2.trans s3) _ λv H4 s4 r4=>?_;have kA:=s4 _ _ (s3 _ _ hd);refine⟨kA,n-(i+1),by lia,by lia,rfl,by rw[Zr,hl];rfl,qa1,?_,?_⟩
  ·intro b o e;rw[qa5 (qa3 e hD)];exact s4 _ _ (s3 _ _ (s2 _ _ e))
  ·have tk:Tups H4 (upd H4 D (.lst (ys++[v]))):=λb u e=>by
    have:b≠D:=λz=>by subst z;rw[kA] at e;cases e
    rw[qa5 this];exact e
   intro j z hz;by_cases hj:j<i
   ·rw[Zh (by lia)] at hz;exact mono j z H4 _ (by lia) tk (mono j z H2 H4 (by lia) (s3.trans s4).tups (rel j z hz))
   ·rw[Zi (by lia)] at hz;have:j-ys.length=0:=by
     have:=(gS_ hz).1;simp at this;lia
    rw[this] at hz;have:z=v:=by simpa using hz.symm
    subst this;have:j=i:=by lia
    subst this;exact mono _ _ H4 _ (by lia) tk r4
theorem qu6 {J:It}{H:Hp}{n k:Nat}{item:Nat->V->Hp->Prop}{g:TG}{tt:TT}{te:TE}{σ:St}{Fin:Hp->Prop}{D:Addr}(hD:H D=none) (yes:Nat->Bool) (val:Nat->V) (G:Goes J H n item) (hsz:n<sizeLine)
  (step:∀i x H2,i<n->item i x H2->Same H H2->∀os:St,os.length=k->∀(Q1:Hp->Prop) (Q2:VK),(yes i=false->∀H3,Same H2 H3->Q1 H3)->(yes i=true->∀H3,Same H2 H3->Q2 (val i) H3) ->
   g x (os++σ) H2 λσ4 H4=>tt σ4 H4 λb H5=>if b=true then te σ4 H5 Q2 else Q1 H5)
  (fin:∀H2,Same H H2->H2 D=some (.lst (((List.range n).filter yes).map val))->Fin H2) :
  ∃W:Nat->Nat->List V->Hp->Prop,(∃m,W 0 m [] (upd H D (.lst []))) /\
   ∀i m xs H2,W i m xs H2->H2 D=some (.lst xs)/\xs.length<sizeLine/\((J.stop i H2/\Fin H2)\/(J.go i H2/\∀y H3,J.yld i H2 y H3->∀os:St,os.length=k ->
    g y (os++σ) H3 λσ4 H4=>tt σ4 H4 λb H5=>if b=true then te σ4 H5 λv H6=>H6 D=some (.lst xs)/\∃m',m'<m/\W (i+1) m' (xs++[v]) (upd H6 D (.lst (xs++[v]))) else ∃m',m'<m/\W (i+1) m' xs H5)):=by
 refine⟨λi m ys H2=>i<=n/\m=n-i/\ys=((List.range i).filter yes).map val/\H2 D=some (.lst ys)/\Same H H2,⟨n,ZE _,rfl,rfl,qa1,qb1 hD⟩,?_⟩;rintro i m ys H2 ⟨hi,rfl,hl,hd,s2⟩;have j9:ys.length<=i:=by
  rw[hl,Ze];exact ZL (Yr _ _) (by simp)
 refine⟨hd,by lia,?_⟩;by_cases he:i=n
 ·subst he;exact .inl ⟨G.st H2 s2,fin H2 s2 (hl▸hd)⟩
 ·refine .inr ⟨G.go i H2 (by lia) s2,λy H3 hy os ho=>?_⟩;obtain⟨s3,it⟩:=G.yl i H2 y H3 (by lia) s2 hy;refine step i y H3 (by lia) it (s2.trans s3) os ho _ _ (λwO H4 s4=>?_) (λhyes H4 s4=>?_)
  ·refine⟨n-(i+1),by lia,by lia,rfl,?_,s4 _ _ (s3 _ _ hd),(s2.trans s3).trans s4⟩;rw[hl,YM,XT];simp[wO]
  ·have kA:=s4 _ _ (s3 _ _ hd);refine⟨kA,n-(i+1),by lia,by lia,rfl,?_,qa1,λb o e=>?_⟩
   ·rw[hl,YM,XT];simp[hyes]
   ·rw[qa5 (qa3 e hD)];exact s4 _ _ (s3 _ _ (s2 _ _ e))
theorem ixL {X:Cx}(K:PySem.W.Frag) (h:X.K=K):IxR X (rIxL K):=h▸qd7
theorem ixT {X:Cx}(K:PySem.W.Frag) (h:X.K=K):IxR X (rIxT K):=h▸qd1
theorem lenS {X:Cx}(K:PySem.W.Frag) (h:X.K=K):qh1 X (.builtin "len") (λxs H Q=>∃p ys,xs=[.ref p]/\(SqL K H p ys\/SqT K H p ys)/\Q (.int ys.length) H):=h▸qa9
theorem tupO {X:Cx}(K:PySem.W.Frag) (h:X.K=K):qh1 X (.type "tuple") (λxs H Q=>∃p ys,xs=[.ref p]/\((SqL K H p ys/\∀l,H l=none->Q (.ref l) (upd H l (.tup ys)))\/(SqT K H p ys/\Q (.ref p) H))):=h▸qf4
theorem piT {X:Cx}{tg l:Expr}{tl:TE}(K:PySem.W.Frag) (h:X.K=K) (hl:PE X l tl):PI X tg l (iTup K tl):=h▸qi9 hl
end L2
namespace L2
open PySem PySem.Spec PyProof.Rows
section
variable {prog:Program}{w:World}{κ:Type}[DecidableEq κ]{hk:HeapKind prog w κ}{A:Around}{E:Value->Shared->Prop}{s:Shared}{d a:Addr}{k:κ}{xs:List (κ×Addr×Value)}
theorem qS6 {y:Value}{Q:Value->Shared->Prop}(room:hk.room A) (isK:hk.is s.heap k a) (dict:s.heap.DictOfH hk d xs) (small:xs.length<=sizeLine)
  (old:∀v,(atKey xs k).map (·.2)=some v->Q v { s with toks:=s.toks+hk.draws k })
  (new:(atKey xs k).map (·.2)=none->∀h',h'.DictOfH hk d (storedH xs k a y)->Heap.SameBut d s.heap h'->Q y { s with heap:=h',toks:=s.toks+hk.draws k }) :
  wpAny (model prog w) A (dictSetDefault d (.ref a) y) Q E s:=by
 obtain⟨ob,tab,epo,at_,exa,dat,ent,are,uni⟩:=dict;show wpAny _ _ (holding [.ref a,y] _) _ _ _;refine Yg (Za (hk.pyHash room isK (Za (wpAny_dictFind_heap (s:={ s with toks:=s.toks+hk.draws k }) room isK at_ dat ent are uni (λnone_=>?_) (λj q found=>?_)))))
 ·have abs:=atKey_none_of_get none_;refine Za (Xk (Za (wpAny_updateDictKeys (hz:=by have:=size_of_entries ent;lia) (s:={ s with toks:=s.toks+hk.draws k }) at_ dat (Zg (new (by rw[abs];rfl) _ ⟨_,_,epo+1,
   Xo _ at_ (Obj.isFreed_of_dict (Obj.data_mapDictKeys dat _)),exa.mapDictKeys _,Obj.data_mapDictKeys dat _,?_,?_,?_⟩ (Yq ..))))))
  ·rw[storedH_new abs];simp[ent,entryOfKey]
  ·rw[storedH_new abs];intro z hz;rcases Z6.mp hz with hz|hz
   ·exact hk.keeps (are z hz) at_ dat (Yq ..)
   ·have:z=(k,a,y):=by simpa using hz
    subst this;exact hk.keeps isK at_ dat (Yq ..)
  ·rw[storedH_new abs,ZW,Xz];exact⟨uni,by simp,λp hp q hq e=>not_mem_keys_of_get none_ (by
    have:q=k:=by simpa using hq
    rw[<- this,<- e];exact hp)⟩
 ·have pre:=atKey_of_get uni found;refine Za (X6 (s:={ s with toks:=s.toks+hk.draws k }) at_ dat ?_);rw[entry_at ent j,found];exact Za (Xk (Zg (old q.2 (by rw[pre];rfl))))
end
section
variable {X:Cx}
def xw0:V->List V->Hp->VK->Prop:=λx xs H Q=>∃(d b:Addr) (kvs:List (List Key×V)) (k:List Key) (y:V),x=.ref d/\xs=[.ref b,y]/\H d=some (.dT kvs)/\H b=some (.tup (k.map kV))/\kvs.length<sizeLine /\
 (∀v,valV kvs k=some v->Q v H)/\(valV kvs k=none->Q y (upd H d (.dT (putK kvs k y))))
theorem qI0 (hu:X.A.units+1<cLine):MtR X "dict.setdefault" xw0:=by
 intro j8 s σ H x xs v us Q I rx rs h;obtain⟨d,b,kvs,k,y,rfl,rfl,hd,hb,hl,q1,q2⟩:=h;cases (show v=Value.ref d from rx);obtain⟨u1,u2,rfl,r1,r2⟩:∃u1 u2,us=[u1,u2]/\RelV (.ref b) u1/\RelV y u2:=by
  cases rs with
  |cons a1 a2=>cases a2 with
   |cons a3 a4=>cases a4;exact⟨_,_,rfl,a1,a3⟩
 cases (show u1=Value.ref b from r1);obtain⟨z,lo,xs,rel,dd⟩:=xB3 I.hok hd;have hz:xs.length<=sizeLine:=by rw[<- Wm rel];exact z
 have M:MeetsIn X.prog X.w (Builtin.«dict.setdefault» ⟨[.ref d,.ref b,u2],[]⟩) (λA R s=>(tupleKind (qc6 X.prog X.w)).room A.in1/\(tupleKind (qc6 X.prog X.w)).is s.heap k b/\s.heap.DictOfH (tupleKind (qc6 X.prog X.w)) d xs /\
   (∀v,(atKey xs k).map (·.2)=some v->R (.ok (.ret v)) { s with toks:=s.toks+(tupleKind (qc6 X.prog X.w)).draws k }) /\
   ((atKey xs k).map (·.2)=none->∀h',h'.DictOfH (tupleKind (qc6 X.prog X.w)) d (storedH xs k b u2)->Heap.SameBut d s.heap h'->R (.ok (.ret u2)) { s with heap:=h',toks:=s.toks+(tupleKind (qc6 X.prog X.w)).draws k })):=
  .of_wp λA R s ⟨g1,g2,g3,g4,g5⟩=>by
   unfold Builtin.«dict.setdefault» Builtin.Dict.keyAndDefault;refine Za (Za (wpAny_notOrdered_dict g3.typeIs (Zg ?_)));show wpAny _ _ (if (d==sysModules)=true then _ else (dictSetDefault d (.ref b) u2 >>= _)) _ _ s;rw[Zk (by rw[lo];decide)];exact Za (qS6 g1 g2 g3 hz (λv hv=>Zg ⟨v,rfl,g4 v hv⟩) λhn h' a1 a2=>Zg ⟨u2,rfl,g5 hn h' a1 a2⟩)
 have val:=rel.val k;refine VM Vc dd.typeIs PySem.F.entry_dict_setdefault (PySem.F.args_dict_setdefault_3 _ _ _) M ⟨Xj hu,qy9 I.hok hb,dd,λv hv=>?_,λhn h' d' sb=>?_⟩
 ·rw[hv] at val;cases e:valV kvs k with
  |none=>rw[e] at val;exact val.elim
  |some y'=>rw[e] at val;exact⟨y',H,I.tok _,val,q1 y' e⟩
 ·rw[hn] at val;cases e:valV kvs k with
  |some y'=>rw[e] at val;exact val.elim
  |none=>
   have jW:(putK kvs k y).length<=sizeLine:=by have:=qk9 kvs k y;lia
   obtain⟨q,es,ep,hq,h2,h3,h4,_,h5⟩:=d';refine⟨y,_,?_,r2,q2 e⟩;refine qG3 I (by rw[hd];exact True.intro) sb ⟨q,hq⟩ ⟨jW,lo,_,(rel.put k hb r2).keeps λc ys ec=>?_,q,es,ep,hq,h2,h3,h4,h5⟩;rw[qa5 (qp3 ec hd (λz=>nomatch z))];exact ec
end
end L2
namespace L2
open PySem PySem.Spec PyProof.Rows PySem.W
def Bare (h:Heap) (d:Addr) (tab:Array DictEntry) (ep:Nat):Prop:=∃o,h.get? d=some o/\o.ExactDict/\o.data=.dict tab ep
theorem Bare.stay {h h':Heap}{d:Addr}{tab:Array DictEntry}{ep:Nat}(x:Bare h d tab ep) (k:∀o,h.get? d=some o->h'.get? d=some o):Bare h' d tab ep:=let ⟨o,ho,r⟩:=x;⟨o,k o ho,r⟩
theorem Bare.ty {s:Shared}{d:Addr}{tab:Array DictEntry}{ep:Nat}(x:Bare s.heap d tab ep):s.TypeIs (.ref d) "dict":=let ⟨o,ho,hc,_⟩:=x;⟨o,ho,hc.1⟩
theorem Bare.lt {h:Heap}{d:Addr}{tab:Array DictEntry}{ep:Nat}(x:Bare h d tab ep):d<h.objs.size:=let ⟨_,ho,_⟩:=x;Zs ho
section
variable {prog:Program}{w:World}{A:Around}{E:Value->Shared->Prop}{s:Shared}{d it:Addr}{tab:Array DictEntry}{ep i:Nat}
theorem xa8 {Q:Value->Shared->Prop}(lo:(d==sysModules)=false) (x:Bare s.heap d tab ep)
  (q:Q (.ref s.heap.objs.size) { s with heap:=s.heap.push { cls:=.type "dict_keyiterator",data:=.fields #[.ref d,.int 0 0,.int tab.size 0,.int ep 0] } }):wpAny (model prog w) A (pyIter (.ref d)) Q E s:=by
 obtain⟨o,ho,hc,kJ⟩:=id x;refine wpAny_pyIter_slot x.ty F.slot_dict_iter (Yp F.slot_dict_iter x.ty F.entry_dict_iter ?_ (F.args_dict_iter_1 _));show wpAny _ _ (Builtin.Dict.dictSlotNone _ _ >>= _) _ _ _;unfold Builtin.Dict.dictSlotNone;refine Za (Za (wpAny_notOrdered_dict x.ty (Zg ?_)));show wpAny _ _ (Builtin.Dict.showsAll d >>= _) _ _ s;unfold Builtin.Dict.showsAll;rw[Zk (by rw[lo];decide)];refine Za (Zg (Za (X6 ho kJ (Za (wpAny_dictEpoch ho kJ ?_)))));refine Za (Z7 (Zg ⟨_,rfl, "dict_keyiterator",_,⟨_,Zo _ rfl,rfl⟩,YN.lookup,?_⟩));simpa [rawInt] using q
theorem xa9 {Q:Option Value->Shared->Prop}(st:s.heap.IsKeyIter it d i tab.size ep) (x:Bare s.heap d tab ep) (hi:i<tab.size)
  (q:∀h',h'.IsKeyIter it d (i+1) tab.size ep->Heap.SameBut it s.heap h'->Q (some tab[i].key) { s with heap:=h' }):wpAny (model prog w) A (pyNext (.ref it)) Q E s:=by
 obtain⟨o,ho,hc,hd⟩:=id st;obtain⟨od,hod,vB,wS⟩:=id x;unfold pyNext;refine Za (XY (ZY (name:=Str.ofString "__next__") st.typeIs YN (Yp YN st.typeIs F.entry_dict_keyiterator_next ?_ (F.args_dict_keyiterator_next_1 _))));refine Za (Zg (Za (Za ?_)))
 first|(refine Za (Xa st.typeIs (Zg (Za (Vw ho hd ?_)))))|(refine Za (XG st.typeIs (Zg (Za (Vw ho hd ?_)))))
 simp only[show Builtin.Dict_items.ownsTuple "dict_keyiterator" = false by decide,Zy,Z8];show wpAny _ _ (if (Value.ref d==Value.none)=true then _ else _) _ _ s;rw[Zk (show ¬((Value.ref d==Value.none)=true) by exact ZD)];refine Za (Zg (Za (X6 hod wS ?_)));rw[Zk (by simp)];refine Za (Zg (Za (wpAny_dictEpoch hod wS ?_)));rw[Zk (by simp)];refine Zg ?_;simp only[show ¬((i:Int)<0) by lia,Z8,Xb,ZQ hi];refine Za ?_
 first|(refine Za (Xa st.typeIs (Zg (Za (WS st.typeIs ?_)))))|(refine Za (XG st.typeIs (Zg (Za (WS st.typeIs ?_)))))
 show wpAny _ _ (setField (.ref it) 1 (rawInt ((i:Int)+1)) >>= _) _ _ s;refine Za (Vu ho hd (by simp) ?_);have st':(s.heap.update it (Obj.mapFields (·.setIfInBounds 1 (rawInt ((i:Int)+1))))).IsKeyIter it d (i+1) tab.size ep:=⟨_,Xo _ ho (Obj.isFreed_of_fields (Ww hd _)),(Obj.cls_mapFields ..).trans hc,by rw[Ww hd];simp[rawInt]⟩;refine Za (Yg (Za (WS (s:={ s with heap:=s.heap.update it (Obj.mapFields (·.setIfInBounds 1 (rawInt ((i:Int)+1)))) }) st'.typeIs ?_)));show wpAny _ _ (pure tab[i].key) _ _ _;exact Zg (Zg ⟨_,rfl,Zg (q _ st' (Yq ..))⟩)
theorem xk3 {Q:Option Value->Shared->Prop}(hh:A.handled=none) (st:s.heap.IsKeyIter it d tab.size tab.size ep) (x:Bare s.heap d tab ep)
  (q:∀h',Heap.ExtBut it s.heap h'->Q none { s with heap:=h' }):wpAny (model prog w) A (pyNext (.ref it)) Q E s:=by
 obtain⟨o,ho,hc,hd⟩:=id st;obtain⟨od,hod,vB,wS⟩:=id x;unfold pyNext;refine Za (XY (ZY (name:=Str.ofString "__next__") st.typeIs YN (Yp YN st.typeIs F.entry_dict_keyiterator_next ?_ (F.args_dict_keyiterator_next_1 _))));refine Za (Zg (Za (Za ?_)))
 first|(refine Za (Xa st.typeIs (Zg (Za (Vw ho hd ?_)))))|(refine Za (XG st.typeIs (Zg (Za (Vw ho hd ?_)))))
 simp only[show Builtin.Dict_items.ownsTuple "dict_keyiterator" = false by decide,Zy,Z8];show wpAny _ _ (if (Value.ref d==Value.none)=true then _ else _) _ _ s;rw[Zk (show ¬((Value.ref d==Value.none)=true) by exact ZD)];refine Za (Zg (Za (X6 hod wS ?_)));rw[Zk (by simp)];refine Za (Zg (Za (wpAny_dictEpoch hod wS ?_)));rw[Zk (by simp)];refine Zg ?_;simp only[show ¬((tab.size:Int)<0) by lia,Z8,Xb,XU (Zd tab.size)];refine Za ?_
 first|(refine Za (Xa st.typeIs (Zg ?_)))|(refine Za (XG st.typeIs (Zg ?_)))
 show wpAny _ _ (setField (.ref it) 0 .none >>= _) _ _ s;refine Za (Vu ho hd (by simp) ?_);show wpAny _ _ (newExc (.type "StopIteration") [] >>= _) _ _ _;refine Za ?_;simp only[newExc,newTuple];refine Za (Z7 ?_ (by size_fits));refine Za (m:=firstArgMember _ _) (wpAny_of_eq (a:=Value.none) (by first|rfl|(simp only[firstArgMember];rfl)) (Z7 ?_ (by size_fits)));simp only[raiseNew];refine Za (wpAny_handled ?_);rw[show A.in1.handled=none by exact hh];refine Za (Zg (wpAny_throw ?_));refine Za (wpAny_isInstance (T:= "StopIteration") (b:=true) ⟨_,Zo _ rfl,rfl⟩ isSubtype_stop ?_);exact Zg (q _ (((Yq ..).extBut.push _).push _))
theorem q25 (hh:A.handled=none) (jH:d≠it):Walks prog w A it [it,d] [it] tab.size (λi v=>∃e,tab[i]?=some e/\v=e.key) (λi h=>h.IsKeyIter it d i tab.size ep/\Bare h d tab ep) where
 sub:=λb hb=>by simp at hb;simp[hb]
 frame:=λ_ _ _ st k=>⟨st.1.at λo e=>k it (by simp) o e,st.2.stay λo e=>k d (by simp) o e⟩
 item:=λi s Q E hi st q=>xa9 st.1 st.2 hi λh' st' sb=>q _ h' s.toks ⟨tab[i],by simp[hi],rfl⟩ ⟨st',st.2.stay λo e=>sb.extBut d o jH e⟩ λb o hb e=>sb.extBut b o (λh=>hb (by simp[h])) e
 done:=λs Q E st q=>xk3 hh st.1 st.2 λh' eb=>q h' s.toks λb o hb e=>eb b o (λh=>hb (by simp[h])) e
 self:=λ_ _ _ _ st q=>wpAny_pyIter_keyiter st.1 q
theorem xk4 (lo:(d==sysModules)=false):KdlSrc prog w "dict" d d tab.size (λi v=>∃e,tab[i]?=some e/\v=e.key) (λh=>Bare h d tab ep) where
 type:=λ_ x=>x.ty
 there:=λ_ x=>⟨x.lt,x.lt⟩
 keep:=λ_ _ x k=>x.stay λo e=>k d (.inl rfl) o e
 notList:=by decide
 notTuple:=by decide
 hint:=λ_ _ _ _ x q=>kdl_hint_dict x.ty q
 iter:=λ_ _ hh x=>⟨_,_,(λ_ _ q=>xa8 lo x q),q25 hh (ZA x.lt),⟨⟨_,Zo _ rfl,rfl,rfl⟩,x.stay λo e=>Zf _ e⟩⟩
theorem xb0 (lo:(d==sysModules)=false):MeetsIn prog w (Builtin.«dict.__len__» ⟨[.ref d],[]⟩) (λ_ R s=>∃tab ep,Bare s.heap d tab ep/\R (.ok (.ret (.int tab.size s.toks))) { s with toks:=s.toks+1 }):=
 .of_wp λA R s ⟨tab,ep,⟨o,ho,hx,kJ⟩,q⟩=>by
  show wpAny _ _ (dictSize d >>= _) _ _ s;unfold dictSize;refine Za (Za (X6 ho kJ (Zg ?_)));show wpAny _ _ (Builtin.Dict.pendingCount d >>= _) _ _ s;exact Za (wpAny_pendingCount_other lo (wpAny_ret_mkInt (by rw[Vk];exact q)))
theorem xk5 {Q:Value->Shared->Prop}(lo:(d==sysModules)=false) (x:Bare s.heap d tab ep) (fit:(tab.size:Int)<2^63) (q:Q (.int tab.size (s.toks+1)) { s with toks:=s.toks+1+1 }) :
  wpAny (model prog w) A (call (.builtin "len") [.ref d]) Q E s:=by
 refine Calls.call_function_entry kind_len plain_len entry_len (args_len1 _) ?_;unfold Builtin.«len»;refine Za (m:=oneArg "len" _) (Zg ?_);refine Za (m:=callSpecial? (.ref d) (Str.ofString "__len__")) (ZY (name:=Str.ofString "__len__") x.ty F.slot_dict_len (VM F.slot_dict_len x.ty F.entry_dict_len (F.args_dict_len_1 _) (xb0 lo) ⟨tab,ep,x,?_⟩));show wpAny _ _ _ _ _ { s with toks:=s.toks+1 };refine Za (Yg (Zg (Za (wpAny_letGo ?_))));show wpAny _ _ (if ((tab.size:Nat):Int)<0 then _ else _) _ _ _;rw[Zk (by lia)];show wpAny _ _ (if ((tab.size:Nat):Int)>=2^63 then _ else _) _ _ _;rw[Zk (by lia)];exact Za (wpAny_mkInt (Zg ⟨_,rfl,q⟩))
end
section
variable {X:Cx}
theorem xb1:qh1 X (.builtin "len") (λxs H Q=>∃d kvs,xs=[V.ref d]/\H d=some (.dT kvs)/\Q (.int kvs.length) H):=by
 intro j8 s σ H xs us Q I r h;obtain⟨d,kvs,rfl,hd,q⟩:=h;obtain⟨u,rfl,ru⟩:=qj8 r;cases ru;obtain⟨z,lo,ys,rel,o,tab,ep,ho,hx,kJ,ent,uni⟩:=(show ObjOk X.prog X.w H s.heap d (.dT kvs) from I.hok d _ hd);have hl:tab.size=kvs.length:=(size_of_entries ent).trans (Wm rel).symm;have fit:(tab.size:Int)<2^63:=by rw[hl];rw[Y9] at z;lia
 refine xk5 lo ⟨o,ho,hx,kJ⟩ fit ⟨.int kvs.length,H,I.tok _,?_,q⟩;rw[hl];exact⟨_,rfl⟩
end
section
variable {prog:Program}{w:World}{A:Around}{E:Value->Shared->Prop}{s:Shared}{T:String}{r d:Addr}{n:Nat}{P:Nat->Value->Prop}{OK:Heap->Prop}
theorem qS7 {Q:List Value->Shared->Prop}(K:KdlSrc prog w T r d n P OK) (hh:A.handled=none) (hok:OK s.heap) (hn:n<=sizeLine)
  (hQ:∀(h':Heap) tk acc',(∀b o,s.heap.get? b=some o->h'.get? b=some o)->ItemsOf P acc' n->Q acc'.toList { s with heap:=h',toks:=tk }):wpAny (model prog w) A (collect (.ref r)) Q E s:=by
 have jB:=K.there _ hok;unfold collect;refine Za (wpAny_runValue (Xr F.entry_proto_collect ?_));rw[XA F.plain_proto_collect _];show wpAny _ A.in1 (newList [] >>= λl=>again (.builtin "list.__iadd__" ⟨[l,.ref r],[]⟩)) _ _ s;refine Za (Z7 ?_);refine Zg ⟨VF F.plain_list_iadd _,Xr F.entry_list_iadd ?_⟩;rw[XA F.plain_list_iadd _];have hS₁:(s.heap.push { cls:=.type "list",data:=.seq ([]:List Value).toArray }).get? s.heap.objs.size=some { cls:=.type "list",data:=.seq ([]:List Value).toArray }:=Zo _ rfl;show wpAny _ A.in1 (Builtin.List.listExtendWith (.ref s.heap.objs.size) (.ref r) (.ref s.heap.objs.size)) _ _ _;refine kdl_extend (R:=wants (λv s'=>wpAny (model prog w) A (match v with|.ref a=>(do let ob <- load a;match ob.data with|.seq xs _=>pure xs.toList|_=>unsupported "internal:collect")|_=>unsupported "internal:collect") Q E s') E) (s:={ s with heap:=s.heap.push { cls:=.type "list",data:=.seq ([]:List Value).toArray } }) K hh (K.keep _ _ hok λb _ o e=>Zf _ e) s.heap.objs.size (Vi jB.1) (Vi jB.2) _ _ hS₁ (λh' tk acc' c' hk hS' jP=>?_) hn;show wpAny _ A (load s.heap.objs.size >>= _) _ _ _;refine Za (wpAny_load hS' ?_);exact Zg (hQ h' tk acc' (λb o e=>hk b o (ZA (Zs e)) (Zf _ e)) jP)
theorem qC6 {Q₁:Value->Shared->Prop}(K:KdlSrc prog w T r d n P OK) (hh:A.handled=none) (hok:OK s.heap) (hn:n<=sizeLine)
  (h:∀(h':Heap) tk acc,(∀b o,s.heap.get? b=some o->h'.get? b=some o)->ItemsOf P acc n->Q₁ (.ref h'.objs.size) { s with heap:=h'.push { cls:=.type "tuple",data:=.seq acc },toks:=tk }) :
  codeAny (model prog w) A (.call (.builtin "tuple.__new__") ⟨[.type "tuple",.ref r],[]⟩) (wants Q₁ E) s:=by
 refine codeAny_of_tree ?_;show wpAny _ A.in1 (do checkBuiltinCall "tuple.__new__" ⟨[.type "tuple",.ref r],[]⟩;again (.builtin "tuple.__new__" ⟨[.type "tuple",.ref r],[]⟩)) _ _ s;refine Za (wpAny_of_eq (F.newCall_tuple_1 _) (Zg ⟨VF F.plain_tuple_new _,Xr F.entry_tuple_new ?_⟩));rw[XA F.plain_tuple_new _];have hsub:=sub_tuple_self;have hinit:=init_tuple_lookup;have hmh:=madeHere_tuple;have hTI:=K.type s hok;have hnt:=K.notTuple
 wp_walk using WH hTI,qS7 (A:=A.in1) K hh hok hn
 intro h' tk acc hk jP;show wpAny _ _ (Builtin.Tuple.tupleExact acc.toList.toArray >>= λv=>ret v) _ _ _;unfold Builtin.Tuple.tupleExact;refine Za (Z7 ?_ (by show acc.toList.toArray.size<=sizeLine;simp only[Array.toArray_toList];rw[jP.1];exact hn));refine Zg ?_;have e:acc.toList.toArray=acc:=by simp
 rw[e];exact h h' tk acc hk jP
theorem xb2 {Q:Value->Shared->Prop}(K:KdlSrc prog w T r d n P OK) (hh:A.handled=none) (hok:OK s.heap) (hn:n<=sizeLine)
  (h:∀(h':Heap) tk acc,(∀b o,s.heap.get? b=some o->h'.get? b=some o)->ItemsOf P acc n->Q (.ref h'.objs.size) { s with heap:=h'.push { cls:=.type "tuple",data:=.seq acc },toks:=tk }) :
  wpAny (model prog w) A (call (.type "tuple") [.ref r]) Q E s:=by
 refine callType_codes (Q₁:=λobj s₁=>s₁.TypeIs obj "tuple" /\ Q obj s₁) F.called_tuple (F.typeCall_tuple_1 _) F.entry_object_init
  (qC6 K hh hok hn λh' tk acc hk jP=>⟨⟨_,Zo _ rfl,rfl⟩,h h' tk acc hk jP⟩) λobj s₁ h₁=>?_
 exact⟨h₁.1,F.args_object_init_2 obj _,object_init_meets F.called_tuple.init.lookup F.called_tuple.made (by decide) prog w A.in1 _ s₁ ⟨h₁.1,rfl,h₁.2⟩⟩
end
section
variable {X:Cx}
theorem qO0 (hc:X.calm=true):qh1 X (.type "tuple") (λxs H Q=>∃(d:Addr) (kvs:List (List Key×V)),xs=[.ref d]/\H d=some (.dT kvs) /\
  ∀(l:Addr) (bs:List Addr),H l=none->bs.length=kvs.length->(∀(i:Nat) b kv,bs[i]?=some b->kvs[i]?=some kv->H b=some (.tup (kv.1.map kV)))->Q (.ref l) (upd H l (.tup (bs.map V.ref)))):=by
 intro j8 s σ H xs us Q I r h;obtain⟨d,kvs,rfl,hd,q⟩:=h;obtain⟨u,rfl,ru⟩:=qj8 r;cases ru;obtain⟨z,lo,ys,rel,o,tab,ep,ho,hx,kJ,ent,uni⟩:=(show ObjOk X.prog X.w H s.heap d (.dT kvs) from I.hok d _ hd);have hl:kvs.length=ys.length:=Wm rel;have ht:tab.size=ys.length:=size_of_entries ent;refine xb2 (xk4 (tab:=tab) (ep:=ep) lo) (I.ok.hd hc) ⟨o,ho,hx,kJ⟩ (by lia) λh' tk acc kp jP=>?_;have at_:∀(i:Nat) p y,kvs[i]?=some p->ys[i]?=some y->H y.2.1=some (.tup (p.1.map kV)):=by
  have gen:∀{l:List (List Key×V)}{m:List (List Key×Addr×Value)},Paired (λ(p:List Key×V) (q:List Key×Addr×Value)=>p.1=q.1/\H q.2.1=some (.tup (p.1.map kV))/\RelV p.2 q.2.2) l m->∀(i:Nat) p y,l[i]?=some p->m[i]?=some y->H y.2.1=some (.tup (p.1.map kV)):=by
   intro l m pr
   induction pr with
   |nil=>intro i p y h1;simp at h1
   |cons a1 a2 ih=>
    intro i p y h1 h2;cases i with
    |zero=>simp at h1 h2;subst h1;subst h2;exact a1.2.1
    |succ i=>exact ih i p y (by simpa using h1) (by simpa using h2)
  exact gen rel
 have jI:(ys.map (·.2.1)).length=kvs.length:=by rw[Ze,hl]
 have I1:=I.kept (t':=tk) kp;have hf:H h'.objs.size=none:=I1.hok.fresh (Zd _);refine⟨.ref h'.objs.size,_,I1.laid (a:=h'.objs.size) (o:=.tup ((ys.map (·.2.1)).map V.ref)) (t':=tk) (λb o e=>Zf _ e) (Zd _) (show ObjOk X.prog X.w _ _ _ (.tup ((ys.map (·.2.1)).map V.ref)) from ⟨by rw[Ze,jI];exact z,acc.toList,?_,by have:=IsTupX.new h' acc.toList.toArray;simpa using this⟩),rfl,q _ _ hf jI λi b kv e1 e2=>?_⟩
 ·refine qA0 (by simp[jP.1,ht]) λi x v h1 h2=>?_;rw[Zb,Zb] at h1;obtain⟨b,hb,rfl⟩:=Zj.mp h1;obtain⟨y,hy,rfl⟩:=Zj.mp hb;obtain⟨e,he,rfl⟩:=jP.2 i v (by simpa using h2);rw[entry_at ent i,hy] at he;have:=Zv he;subst this
  rfl
 ·rw[Zb] at e1;obtain⟨y,hy,rfl⟩:=Zj.mp e1;exact at_ i kv y e2 hy
open Classical in
noncomputable def qC7 (h:Heap) (d:PyData) (w:Value):Bool:=decide (∃(e:PyData) (bs:List Addr),Reads h w e bs/\e.canLay0=true/\PyData.eqv e d=true)
open Classical in
theorem xk6 {h:Heap}{d d':PyData}{w:Value}{bs:List Addr}(rb:Reads h w d' bs) (c:d'.canLay0=true):qC7 h d w=PyData.eqv d' d:=by
 unfold qC7;cases hb:PyData.eqv d' d with
 |true=>exact Zl ⟨d',bs,rb,c,hb⟩
 |false=>
  refine Zq λ⟨e,bs',re,_,he⟩=>?_;have:=SeqAt.Reads.unique d' e w bs bs' c rb re;rw[<- this,hb] at he;cases he
theorem qS8 {j8:List (Addr×Obj)}{s:Shared}{σ:St}{H:Hp}{v:Value}{d:PyData}{as:List Addr}(I:Inv X j8 σ H s) (un:X.A.units+64<cLine) (ra:Reads s.heap v d as) (c1:d.canLay0=true) (dd:d.depth<=50) :
  ∀{xs:List V}{ds:List PyData}{us:List Value},DatasAt H xs ds->Vals xs us->PyData.canLayAll0 ds=true->(∀w∈us,SeqAt.EqAt X.A.in1 s w v (qC7 s.heap d w))/\us.any (qC7 s.heap d)=ds.any λe=>PyData.eqv e d
 |_,_,_,.nil,.nil,_=>⟨λw hw=>(nomatch hw),rfl⟩
 |_,d'::ds',u0::us0,.cons hx hxs,.cons r0 rs,h3=>by
  have h3':d'.canLay0=true/\PyData.canLayAll0 ds'=true:=by simpa [PyData.canLayAll0] using h3
  obtain⟨e1,e2⟩:=qS8 I un ra c1 dd hxs rs h3'.2;obtain⟨bs,rb⟩:=hx.reads I.hok r0;have eb:=xk6 (d:=d) rb h3'.1;refine⟨λw hw=>?_,?_⟩
  ·rcases ZB.mp hw with rfl|hw
   ·rw[eb];exact SeqAt.eqAt_reads d' d X.A.in1 s w v bs as rb ra h3'.1 c1 (by
     have:X.A.in1.units=X.A.units+1:=rfl;lia)
   ·exact e1 w hw
  ·rw[XC,XC,eb,e2]
theorem xC9 {k:Nat}(hr:Room k X.A):OpR X (compareOp .In) (λx y H Q=>∃(p:Addr) (xs:List V) (ds:List PyData) (d:PyData),y=.ref p/\H p=some (.tup xs)/\DatasAt H xs ds/\DataAt H x d/\d.canLay0=true/\PyData.canLayAll0 ds=true/\d.depth<=50 /\
  Q (.bl (ds.any λe=>PyData.eqv e d)) H):=by
 intro j8 s σ H x y v u Q I rx ry h;obtain⟨p,xs,ds,d,rfl,hp,vA,hd,c1,c2,dd,q⟩:=h;cases ry;obtain⟨as,ra⟩:=hd.reads I.hok rx;obtain⟨its,rv,pl,hz⟩:=I.tuple (SqT.of hp);have un:=hr.units;obtain⟨k1,k2⟩:=qS8 (X:=X) I un ra c1 dd vA rv c2;refine SeqAt.in_tupleAt (qC7 s.heap d) pl (λw hw=>k1 w (by simpa using hw)) ⟨.bl _,H,I,rfl,?_⟩;rw[show its.toArray.any (qC7 s.heap d)=its.any (qC7 s.heap d) by simp,k2];exact q
end
end L2
namespace L2
open PySem PySem.Spec PyProof.Rows
section
variable {prog:Program}{w:World}{A:Around}{E:Value->Shared->Prop}{s:Shared}
theorem q26 {e it t:Addr}{i:Nat}{items:Array Value}{x old:Value}{Q:Option Value->Shared->Prop}(he:IsEnum s.heap e it i old) (jH:e≠it) (st:s.heap.IsListIter it t i) (ht:s.heap.IsList t items) (hx:items[i]?=some x)
  (q:∀h1 h',Heap.SameBut it s.heap h1->IsEnumOut h' e it ((i:Int)+1) x s.heap.objs.size->h'.IsListIter it t (i+1)->h'.get? s.heap.objs.size=some { cls:=.type "tuple",data:=.seq #[.int i s.toks,x] } ->
   (∀b o,b≠e->h1.get? b=some o->h'.get? b=some o)->Q (some (.ref s.heap.objs.size)) { s with heap:=h',toks:=s.toks+1 }):wpAny (model prog w) A (pyNext (.ref e)) Q E s:=by
 have hT:s.TypeIs (.ref e) "enumerate":=⟨_,he,rfl⟩;unfold pyNext;refine Za (XY (ZY (name:=Str.ofString "__next__") hT YZ (Yp YZ hT WN
  (EnumT.pair_next (St:=λh=>h.IsListIter it t (i+1)) he jH (λQ' q'=>wpAny_nextOf_list_item st ht hx λh' st' sb=>q' h' sb st') λh1 h' sb st1 ho hT' kp=>Zg (q h1 h' sb ho ?_ hT' kp)) (WB _))))
 obtain⟨o,x1,x2⟩:=st1;exact⟨o,kp it o (Yx jH) x1,x2⟩
end
def ItEl (K:PySem.W.Frag) (a:Addr):It:=
 ⟨λi H=>∃xs x,SqL K H a xs/\xs[i]?=some x,λi H y H'=>∃p x,H p=none/\(∀xs,SqL K H a xs->xs[i]?=some x)/\H'=upd H p (.tup [.int i,x])/\y=.ref p,λi H=>∃xs,SqL K H a xs/\xs.length<=i⟩
theorem q27 {P:Program}{w:World}{K:PySem.W.Frag}{elts:List Expr}{x1:Nat}{tpos:Pos}(a e it:Addr) (jH:e≠it) :
  Turn P w K (.Tuple elts x1 tpos) (ItEl K a) [e,it] e (λi h=>(∃old,IsEnum h e it i old)/\h.IsListIter it a i) where
 mem:=by simp
 obj:=λi h st b hb=>by
  rcases ZB.mp hb with rfl|hb
  ·obtain⟨⟨old,z⟩,_⟩:=st;exact⟨_,z,λv q=>by
    have q':Data.fields _=Data.cell v:=q;cases q'⟩
  ·have:b=it:=by simpa using hb
   subst this;obtain⟨_,o,z,_,d⟩:=st;exact⟨o,z,λv q=>by rw[d] at q;cases q⟩
 keep:=λi h h' st k=>by
  obtain⟨⟨old,z⟩,st2⟩:=st;exact⟨⟨old,k e (by simp) _ z⟩,st2.at λo q=>k it (by simp) o q⟩
 item:=by
  intro X hP hw hK hc i j8 s σ H E I hf st hg;subst hP hw hK;obtain⟨⟨old,he⟩,st2⟩:=st;obtain⟨xs,x,hq,hx⟩:=hg;obtain⟨its,rv,p,hz⟩:=I.list hq;obtain⟨u,hu,ru⟩:=rv.get hx;obtain⟨e0,e1,e2,e3,e4,e5⟩:=hf e (by simp);obtain⟨f0,f1,f2,f3,f4,f5⟩:=hf it (by simp);refine q26 he jH st2 (show s.heap.IsList a its.toArray from p.isList) (x:=u) (by simpa using hu) λh1 h' sb ho st3 ht kp=>?_;refine⟨_,rfl,wpAny_letOwnedTupleGo_enum ho λh2 jZ sb2=>?_⟩;have elt:e<s.heap.objs.size:=Zs he;have ilt:it<s.heap.objs.size:=by obtain⟨o,z,_⟩:=st2;exact Zs z
  have fresh:H s.heap.objs.size=none:=I.hok.fresh (Zd _);have z1:h1.objs.size=s.heap.objs.size:=sb.1;have J0:Inv X j8 σ (upd H s.heap.objs.size (.tup [.int i,x])) { s with heap:=s.heap.push { cls:=.type "tuple",data:=.seq #[.int i s.toks,u] },toks:=s.toks+1 }:=
   I.laid (λb o q=>Zf _ q) (Zd _) ⟨by show 2<=sizeLine;decide,[.int i s.toks,u],.cons ⟨_,rfl⟩ (.cons ru .nil),_,Zo _ rfl,rfl,⟨_,rfl⟩,rfl⟩
  have ne1:(upd H s.heap.objs.size (.tup [.int i,x])) it=none:=by rw[qa5 (ZA ilt)];exact f0
  have ne2:(upd H s.heap.objs.size (.tup [.int i,x])) e=none:=by rw[qa5 (ZA elt)];exact e0
  have J1:=J0.turned (it:=it) (h':=h1.push { cls:=.type "tuple",data:=.seq #[.int i s.toks,u] }) (t':=s.toks+1) (λb o hb q=>by
    have q:(s.heap.push { cls:=.type "tuple",data:=.seq #[.int i s.toks,u] }).get? b=some o:=q;by_cases jB:b<s.heap.objs.size
    ·have q':s.heap.get? b=some o:=qH5 q jB;exact Zf _ ((sb.2 b hb).trans q')
    ·have kE:b<s.heap.objs.size+1:=by have:=Zs q;rw[YG] at this;exact this
     have eb:b=s.heap.objs.size:=Wt (Xd kE) (Wf jB);subst eb;rw[Zo _ rfl] at q;cases q;have:=Zo h1 (o:={ cls:=.type "tuple",data:=.seq #[.int i s.toks,u] }) rfl;rw[z1] at this;exact this) ne1 f1 f3 f4 f5
  have J2:=J1.turned (it:=e) (h':=h') (t':=s.toks+1) (λb o hb q=>by
    have q:(h1.push { cls:=.type "tuple",data:=.seq #[.int i s.toks,u] }).get? b=some o:=q;by_cases jB:b<s.heap.objs.size
    ·have q':h1.get? b=some o:=qH5 q (by rw[z1];exact jB);exact kp b o hb q'
    ·have kE:b<s.heap.objs.size+1:=by have:=Zs q;rw[YG,z1] at this;exact this
     have eb:b=s.heap.objs.size:=Wt (Xd kE) (Wf jB);subst eb;have:=Zo h1 (o:={ cls:=.type "tuple",data:=.seq #[.int i s.toks,u] }) rfl;rw[z1] at this;rw[this] at q;cases q;exact ht) ne2 e1 e3 e4 e5
  have J3:=J2.turned (it:=e) (h':=h2) (t':=s.toks+1) (λb o hb q=>(sb2.2 b hb).trans q) ne2 e1 e3 e4 e5;refine⟨.ref s.heap.objs.size,_,J3,rfl,⟨_,x,fresh,λys hy=>by rw[I.list_inj hy hq];exact hx,rfl,rfl⟩,⟨⟨u,by
   have:(((i+1:Nat)):Int)=(i:Int)+1:=by lia
   rw[this];exact jZ⟩,st3.at λo q=>(sb2.2 it (Yx jH)).trans q⟩,λb hb=>?_⟩
  rcases ZB.mp hb with rfl|hb
  ·exact ne2
  ·have:b=it:=by simpa using hb
   subst this;exact ne1
 done:=by
  intro X hP hw hK hc i j8 s σ H E I hf st hg;subst hP hw hK;obtain⟨⟨old,he⟩,st2⟩:=st;obtain⟨xs,hq,hx⟩:=hg;obtain⟨its,rv,p,hz⟩:=I.list hq;obtain⟨f0,f1,f2,f3,f4,f5⟩:=hf it (by simp);have hl:=rv.length;exact wpAny_pyNext_enum_end (I.ok.hd hc) he st2 (show s.heap.IsList a its.toArray from p.isList) (by simp;lia) λh' eb=>⟨rfl,I.turned (t':=s.toks) (λb o hb e=>eb b o hb e) f0 f1 f3 f4 f5⟩
 self:=λ_ _ _ _ _ st h=>by
  obtain⟨⟨old,he⟩,_⟩:=st;exact WO he h
section
variable {X:Cx}{elts:List Expr}{x1:Nat}{tpos:Pos}
def xD0 (K:PySem.W.Frag) (ta:TA):TI:=λσ H R=>ta σ H λvs H1=>∃a,vs=[.ref a]/\(∃xs,SqL K H1 a xs)/\R (ItEl K a) H1
theorem xk7 {e:Expr}{ta:TA}{p pos:Pos}(hg:Gl X "enumerate") (hm:X.mg "enumerate" = none) (ha:PA X [e] ta) (hs:starEach [e] X.env=[(false,eval e X.env)]:=by rfl):PI X (.Tuple elts x1 tpos) (.Call (.Name "enumerate" p) [e] [] pos) (xD0 X.K ta):=by
 intro j8 s σ H R I h;refine Call_ (qC8 I hg hm Vm (Xg (thn (ha pos j8 s σ H _ I h) λus s1 ⟨vs,H1,I1,r1,q1⟩=>?_) hs rfl));obtain⟨a,rfl,⟨xs,hq⟩,q⟩:=q1;obtain⟨u,rfl,ru⟩:=qj8 r1;cases ru;obtain⟨its,rv,pt,hz⟩:=I1.list hq;refine call_enumerate_list (show s1.heap.IsList a its.toArray from pt.isList) λh' he st _ kp=>?_;refine WO he ?_;have J:Inv X j8 σ H1 { s1 with heap:=h' }:=I1.kept (t':=s1.toks) kp;refine⟨s1.heap.objs.size+1,[s1.heap.objs.size+1,s1.heap.objs.size],_,_,H1,rfl,J,q27 a _ _ (Nat.succ_ne_self _),⟨⟨.none,he⟩,st⟩,λb hb=>?_,q⟩;rcases ZB.mp hb with rfl|hb
 ·exact I1.fpOk (Wy _) (I1.hok.fresh (Wy _))
 ·have:b=s1.heap.objs.size:=by simpa using hb
  subst this;exact I1.fpOk (Zd _) (I1.hok.fresh (Zd _))
end
theorem q28 {K:PySem.W.Frag}{H:Hp}{a:Addr}{xs:List V}(ha:H a=some (.lst xs)):Goes (ItEl K a) H xs.length (λi y H3=>∃p x,y=.ref p/\xs[i]?=some x/\H3 p=some (.tup [.int i,x])) where
 go:=λi H2 hi s=>⟨xs,xs[i],SqL.of (s _ _ ha),by simp[hi]⟩
 yl:=λi H2 y H3 hi s h=>by
  obtain⟨p,x,hp,hx,rfl,rfl⟩:=h;exact⟨qb1 hp,p,x,rfl,hx xs (SqL.of (s _ _ ha)),qa1⟩
 st:=λH2 s=>⟨xs,SqL.of (s _ _ ha),Zd _⟩
theorem xb3 {K:PySem.W.Frag}{a:Addr}{xs:List V}{g:TG}{tb:TS}{D:Ends}{σ:St}{H:Hp}(Pv:Nat->St->Hp->Prop) (hk:∀i σ H2,Pv i σ H2->H2 a=some (.tup xs)) (h0:Pv 0 σ H)
  (hs:∀i x σ H p,xs[i]?=some x->Pv i σ H->H p=none->g (.ref p) σ (upd H p (.tup [.int i,x])) λσ2 H2=>tb { D with nx:=Pv (i+1),ct:=Pv (i+1),bk:=D.nx } σ2 H2) (hd:∀σ H,Pv xs.length σ H->D.nx σ H) :
  ∃W:Nat->Nat->St->Hp->Prop,(∃m,W 0 m σ H)/\∀i m σ H,W i m σ H ->
   ((Ite K a).stop i H/\D.nx σ H)\/((Ite K a).go i H/\∃N:St->Hp->Prop,(∀σ' H',N σ' H'->∃m',m'<m/\W (i+1) m' σ' H')/\∀x H',(Ite K a).yld i H x H'->g x σ H' λσ2 H2=>tb { D with nx:=N,ct:=N,bk:=D.nx } σ2 H2):=by
 refine⟨λi m σ H=>m=xs.length-i/\i<=xs.length/\Pv i σ H,⟨xs.length,by simp,ZE _,h0⟩,?_⟩;rintro i m σ H ⟨rfl,hi,p⟩;have hq:SqT K H a xs:=SqT.of (hk i σ H p);by_cases jB:i<xs.length
 ·refine .inr ⟨⟨xs,xs[i],hq,by simp[jB]⟩,Pv (i+1),λσ' H' p'=>⟨xs.length-(i+1),by lia,rfl,jB,p'⟩,λx H' y=>?_⟩;obtain⟨b,c,e0,e1,e2,e3⟩:=y;subst e2 e3;exact hs i c σ _ b (e1 xs hq) p e0
 ·have e:i=xs.length:=by lia
  subst e;exact .inl ⟨⟨xs,hq,Zd _⟩,hd σ H p⟩
section
variable {X:Cx}
theorem qO1:qh1 X (.type "range") (λxs H Q=>∃a b:Int,xs=[.int a,.int b]/\∀r,H r=none->Q (.ref r) (upd H r (.rng a b))):=by
 intro j8 s σ H xs us Q I r h;obtain⟨a,b,rfl,q⟩:=h;obtain⟨u,v,rfl,⟨t,rfl⟩,t2,rfl⟩:=xh8 r;exact call_range_2 ⟨.ref s.heap.objs.size,_,I.laid (a:=s.heap.objs.size) (o:=.rng a b) (t':=s.toks+1) (λb o e=>Zf _ e) (Zd _) ⟨_,_,_,Zo _ rfl⟩,rfl,q _ I.fresh⟩
theorem qS9 (hc:X.calm=true):qh1 X (.type "list") (λxs H Q=>∃(r:Addr) (a n:Nat),xs=[.ref r]/\H r=some (.rng (a:Int) ((a+n:Nat):Int))/\a+n<=1000000/\∀l,H l=none->Q (.ref l) (upd H l (.lst ((List.range n).map λ(i:Nat)=>V.int ((a+i:Nat):Int))))):=by
 intro j8 s σ H xs us Q I rv h;obtain⟨r,a,n,rfl,hr,hn,q⟩:=h;obtain⟨u,rfl,ru⟩:=qj8 rv;cases ru;obtain⟨t,u,v,ho⟩:=I.hok r _ hr;refine call_list_range (a:=a) (b:=((a+n:Nat):Int)) (c:=1) (n:=n) (I.ok.hd hc) ho (small_one (by lia) (by lia) (by lia) (by lia)) (by rw[rangeSize_one];split<;>lia) (by lia) λh' tk acc c kp ho' jP=>?_;refine⟨.ref s.heap.objs.size,_,I.laid (a:=s.heap.objs.size) (o:=.lst ((List.range n).map λ(i:Nat)=>V.int ((a+i:Nat):Int))) (t':=tk) kp (Zd _) ⟨?_,acc.toList,c,?_,by simpa using ho'⟩,rfl,q _ I.fresh⟩
 ·rw[Ze,Xe,Y9];lia
 ·refine qA0 (by simp[jP.1]) λi x v hx hv=>?_;rw[Zb] at hx;obtain⟨j,hj,rfl⟩:=Zj.mp hx;have e:j=i:=by
   obtain⟨_,e⟩:=gS_ hj;simpa using e.symm
  subst e;obtain⟨t',rfl⟩:=jP.2 j v (by simpa using hv);exact⟨t',by simp⟩
theorem xw1 {k:Nat}(hr:Room k X.A):OpR X (compareOp .In) (λx y H Q=>∃(p:Addr) (xs:List V) (ds:List PyData) (d:PyData),y=.ref p/\H p=some (.lst xs)/\DatasAt H xs ds/\DataAt H x d/\d.canLay0=true/\PyData.canLayAll0 ds=true/\d.depth<=50 /\
  Q (.bl (ds.any λe=>PyData.eqv e d)) H):=by
 intro j8 s σ H x y v u Q I rx ry h;obtain⟨p,xs,ds,d,rfl,hp,vA,hd,c1,c2,dd,q⟩:=h;cases ry;obtain⟨as,ra⟩:=hd.reads I.hok rx;obtain⟨its,rv,pl,hz⟩:=I.list (SqL.of hp);have un:=hr.units;obtain⟨k1,k2⟩:=qS8 (X:=X) I un ra c1 dd vA rv c2;refine SeqAt.in_listAt (qC7 s.heap d) pl.isList (λw hw=>k1 w (by simpa using hw)) ⟨.bl _,H,I,rfl,?_⟩;rw[show its.toArray.any (qC7 s.heap d)=its.any (qC7 s.heap d) by simp,k2];exact q
end
end L2
namespace Pr
open PySem L2
abbrev qE3:Stmt:=top 8
abbrev qA1:Stmt:=top 9
abbrev q29:Stmt:=top 10
abbrev sEnd:Stmt:=top 11
abbrev qA2:Stmt:=top 12
abbrev ql8:Stmt:=top 13
abbrev qx0:Stmt:=top 14
abbrev qI1:Stmt:=qh8 (top 15) 0
abbrev qX2:Stmt:=qh8 (top 15) 1
abbrev qI2:Stmt:=qh8 (top 15) 2
abbrev xb4:Stmt:=top 18
abbrev qu7:Stmt:=top 20
abbrev sRow:Stmt:=top 21
abbrev q30:Stmt:=top 22
abbrev qo0:Stmt:=top 23
abbrev qO2:Stmt:=top 24
abbrev qu8:Stmt:=top 25
abbrev xb5:Stmt:=top 27
abbrev qA3:Stmt:=top 28
abbrev xb6:Stmt:=top 29
abbrev qo1:Stmt:=top 30
abbrev qA4:Stmt:=top 31
abbrev xk8:Stmt:=top 32
abbrev qs0:Stmt:=top 33
abbrev xb7:Stmt:=top 34
abbrev lPot:Stmt:=top 36
abbrev qA5:Stmt:=top 37
abbrev qE4:Stmt:=top 38
abbrev xb8:Stmt:=top 39
abbrev qs1:Stmt:=top 40
abbrev qI3:Stmt:=top 41
abbrev qO3:Stmt:=top 42
abbrev qE5:Stmt:=top 43
abbrev lHas:Stmt:=top 44
abbrev qm9:Stmt:=top 45
abbrev qX3:Stmt:=top 46
abbrev xk9:Stmt:=top 47
abbrev qs2:Stmt:=top 48
abbrev qI4:Stmt:=top 49
abbrev xl0:Stmt:=top 50
abbrev qX4:Stmt:=top 51
abbrev lLaw:Stmt:=top 52
end Pr
namespace L2
open PySem PySem.Spec PyProof.Rows
theorem qd9 {N P:List Str}{sc:Scope}(a:sc.kind=.function:=by rfl) (b:sc.isCoroutine=false:=by rfl) (c:sc.isGenerator=false:=by rfl) (d:N.Nodup:=by decide +kernel) (e:N.take P.length=P:=by rfl) (f:∀x∈P,sc.names.lookup x=some .local\/sc.names.lookup x=some .cell:=by decide +kernel) (g:∀y∈sc.names,y.2≠.free:=by decide +kernel):FnScope N P sc:=⟨a,b,c,d,e,f,g⟩
section
variable {X:Cx}
theorem psN (i:Nat){x:Str}{e:Expr}{te:TE}{pos pos':Pos}(hN:X.N.Nodup) (he:PE X e te) (hi:X.N[i]?=some x:=by rfl) (hx:Loc X.env.scope x:=by first|left;rfl|right;rfl) (hs:swapsWith e (some (.Name x pos')) pos.line X.env=pure false:=by rfl) (hf:X.fn x=true\/X.env.scope.names.lookup x=some .local:=by first|left;rfl|right;rfl|assumption):PS X (.Assign [.Name x pos'] e pos) (tAsg te (qg7 i)):=xp1 hN hi hx he hs hf
theorem pgN (i:Nat){x:Str}{pos:Pos}(hN:X.N.Nodup) (hi:X.N[i]?=some x:=by rfl) (hx:Loc X.env.scope x:=by first|left;rfl|right;rfl) (hf:X.fn x=true\/X.env.scope.names.lookup x=some .local:=by first|left;rfl|right;rfl|assumption):PG X (.Name x pos) (qg7 i):=qt9 hN hi hx hf
theorem pcN {k:Nat}{f:Addr}{fd:FuncData}{ps:List Str}{sp:Sp}{x:Str}{p pos:Pos}{e:Expr}{es:List Expr}{t:TA}(F:FnOk X.prog X.w X.K X.mg X.base CX0 k f fd ps sp) (hr:Room k X.A) (hm:X.mg x=some (.ref f)) (hk:PySem.W.keepIn X.K (.ref f)=true) (hb:Binds X.K fd ps []) (ha:PA X (e::es) t) (hg:Gl X x:=by rfl) (w4:(x==("__debug__" : Str))=false:=by decide) (he:starEach (e::es) X.env=(false,eval e X.env)::starEach es X.env:=by rfl) (jS:(backTo pos (starEach es X.env)).any (·.1)=false:=by rfl) :
  PE X (.Call (.Name x p) (e::es) [] pos) (xA9 sp [] E0 t):=q64 F hr hg hm hk hb .nil q74 ha w4 he jS
theorem pxN {r:R2}{a b:Expr}{pos:Pos}{ta tb:TE}(hr:IxR X r) (ha:PE X a ta) (hb:PE X b tb) (hs:q70 b:=by intro _ _;rfl):PE X (.Subscript a b pos) (tOp r ta tb):=xJ2 hr ha hb hs
end
end L2
namespace Pr
open PySem L2 Qf
structure Blt (mg:Str->Option Value):Prop where
 isi:mg "isinstance" = none
 int:mg "int" = none
 bool:mg "bool" = none
 tuple:mg "tuple" = none
 list:mg "list" = none
 set:mg "set" = none
 len:mg "len" = none
 all:mg "all" = none
 any:mg "any" = none
 enum:mg "enumerate" = none
 range:mg "range" = none
 max:mg "max" = none
 min:mg "min" = none
structure Cst (mg:Str->Option Value):Prop where
 first:∃t,mg "FIRST" = some (.int 2 t)
 full:∃t,mg "FULL" = some (.int 1 t)
 great:∃t,mg "GREATEST_SIZE" = some (.int 12 t)
def vN (r:List Nat):List V:=r.map λn:Nat=>V.int (n:Int)
theorem qb5 (r:List Nat):(vN r).length=r.length:=Ze ..
theorem qi0 {r:List Nat}{i:Nat}{x:V}(h:(vN r)[i]?=some x):∃n:Nat,r[i]?=some n/\x=.int (n:Int):=by
 unfold vN at h;rw[Zb] at h;obtain⟨n,h1,h2⟩:=Zj.mp h;exact⟨n,h1,h2.symm⟩
theorem qT0 {r:List Nat}{i n:Nat}(h:r[i]?=some n):(vN r)[i]?=some (.int (n:Int)):=by
 unfold vN;rw[Zb,h];rfl
theorem qs3 {r:List Nat}{i n:Nat}(h:r[i]?=some n):atI (vN r) (i:Int)=some (.int (n:Int)):=qe0 (qT0 h)
theorem qw1 (r:List Nat):vN r=(r.map λn:Nat=>(n:Int)).map V.int:=by unfold vN;rw[Ym];rfl
def RowsAt (H:Hp) (p:Addr) (rows:List Row):Prop:=∃bs:List Addr,H p=some (.tup (bs.map V.ref))/\bs.length=rows.length/\∀(i:Nat) b r,bs[i]?=some b->rows[i]?=some r->H b=some (.tup (vN r))
theorem RowsAt.mono {H H':Hp}{p:Addr}{rows:List Row}(h:RowsAt H p rows) (t:Tups H H'):RowsAt H' p rows:=by
 obtain⟨bs,h1,h2,h3⟩:=h;exact⟨bs,t _ _ h1,h2,λi b r e1 e2=>t _ _ (h3 i b r e1 e2)⟩
theorem RowsAt.same {H H':Hp}{p:Addr}{rows:List Row}(h:RowsAt H p rows) (t:Same H H'):RowsAt H' p rows:=h.mono t.tups
def RowsS (H:Hp) (p:Addr) (rows:List Row):Prop:=∃bs:List Addr,(H p=some (.tup (bs.map V.ref))\/H p=some (.lst (bs.map V.ref)))/\bs.length=rows.length/\∀(i:Nat) b r,bs[i]?=some b->rows[i]?=some r->H b=some (.tup (vN r))
theorem RowsAt.s {H:Hp}{p:Addr}{rows:List Row}(h:RowsAt H p rows):RowsS H p rows:=let ⟨bs,a,b,c⟩:=h;⟨bs,.inl a,b,c⟩
theorem RowsS.same {H H':Hp}{p:Addr}{rows:List Row}(h:RowsS H p rows) (s:Same H H'):RowsS H' p rows:=by
 obtain⟨bs,h1,h2,h3⟩:=h;exact⟨bs,h1.imp (s _ _) (s _ _),h2,λi b r e1 e2=>s _ _ (h3 i b r e1 e2)⟩
def rIxS (K:PySem.W.Frag):R2:=λx y H Q=>rIxL K x y H Q\/rIxT K x y H Q
theorem ixS {X:Cx}(K:PySem.W.Frag) (h:X.K=K):IxR X (rIxS K):=(ixL K h).or (ixT K h)
section
variable {P:Program}{w:World}{K:PySem.W.Frag}{mg:Str->Option Value}{base:Heap}
theorem xw2:FnScope ["thing"] ["thing"] (qa4 qE3):=qd9
def qI5:Sp:=λvs H Q _=>∃i:Int,vs=[.int i]/\Q (.bl true) H
theorem qI6 {f:Addr}{fd:FuncData}(F:Fun K "is_whole" "is_whole" qE3 f fd) (B:Blt mg):FnOk P w K mg base CX0 1 f fd ["thing"] qI5:=by
 refine F.ok xw2 (λvs H Q E h=>?_) (λcdv A outer s H vs Q E hr h=>?_)
 ·obtain⟨i,rfl,_⟩:=h
  rfl
 ·obtain⟨i,rfl,q⟩:=h;refine⟨_,qa8 (qb0 (qy1 (qa7 qj4 (by rfl) B.isi Z1 (qa0 (pv 0) (qa0 (qm1 (v:=.ty "int") (by rfl) B.int PyProof.Rows.boot_int rfl) qa2)))
   (qy0 (xA3 (qa7 qj4 (by rfl) B.isi Z1 (qa0 (pv 0) (qa0 (qm1 (v:=.ty "bool") (by rfl) B.bool PyProof.Rows.boot_bool rfl) qa2))))))),?_⟩
  exact⟨_,rfl,_,_,_,_,true,rfl,rfl,.inl (.int i),rfl,_,rfl,iteT ⟨_,rfl,_,_,_,_,false,rfl,rfl,.inl (.int i),rfl,_,rfl,q⟩⟩
theorem xD1:FnScope ["thing"] ["thing"] (qa4 xb4):=qd9
def xb9:Sp:=λvs H Q _=>∃n:Nat,vs=[.int n]/\n<=12/\Q (.bl true) H
theorem xw3 {f fW:Addr}{fd fdW:FuncData}(F:Fun K "is_size" "is_size" xb4 f fd) (B:Blt mg) (T:Cst mg) (hW:mg "is_whole" = some (.ref fW)) (FW:Fun K "is_whole" "is_whole" qE3 fW fdW) (bW:Binds K fdW ["thing"] []):FnOk P w K mg base CX0 2 f fd ["thing"] xb9:=by
 have GW:FnOk P w K mg base CX0 1 fW fdW ["thing"] qI5:=qI6 FW B;obtain⟨tg,hgr⟩:=T.great;refine F.ok xD1 (λvs H Q E h=>?_) (λcdv A outer s H vs Q E hr h=>?_)
 ·obtain⟨x,rfl,_⟩:=h
  rfl
 ·obtain⟨n,rfl,hn,q⟩:=h;refine⟨_,qa8 (qb0 (qy1 (pcN GW hr hW FW.kp bW (qa0 (pv 0) qa2)) (qy0 (qU1 qC5 qC5 qa6 (pv 0) (qd6 (v:=.int 12) (by rfl) hgr ⟨_,rfl⟩))))),?_⟩;refine⟨_,rfl,n,rfl,_,rfl,iteT ⟨_,rfl,_,_,rfl,rfl,_,rfl,?_⟩⟩;have e:decide ((n:Int)<=12)=true:=Zl (by lia);refine ite2 (λ_=>⟨_,_,rfl,rfl,?_⟩) (λh1=>absurd (Zl (Int.natCast_nonneg n)) h1);show Q (V.bl (decide ((n:Int)<=12))) H;rw[e];exact q
theorem xl1:FnScope ["thing", "many"] ["thing", "many"] (qa4 qu7):=qd9
def qx1:Sp:=λvs H Q _=>∃n m:Nat,vs=[.int n,.int m]/\n<m+2/\Q (.bl true) H
theorem xc0 {f fW:Addr}{fd fdW:FuncData}(F:Fun K "is_number" "is_number" qu7 f fd) (B:Blt mg) (T:Cst mg) (hW:mg "is_whole" = some (.ref fW)) (FW:Fun K "is_whole" "is_whole" qE3 fW fdW) (bW:Binds K fdW ["thing"] []):FnOk P w K mg base CX0 2 f fd ["thing", "many"] qx1:=by
 have GW:FnOk P w K mg base CX0 1 fW fdW ["thing"] qI5:=qI6 FW B;obtain⟨tf,hf⟩:=T.first;refine F.ok xl1 (λvs H Q E h=>?_) (λcdv A outer s H vs Q E hr h=>?_)
 ·obtain⟨n,m,rfl,_⟩:=h
  rfl
 ·obtain⟨n,m,rfl,hn,q⟩:=h;refine⟨_,qa8 (qb0 (qy1 (pcN GW hr hW FW.kp bW (qa0 (pv 0) qa2)) (qy0 (qU1 qC5 qu1 qa6 (pv 0) (qb3 qd3 (pv 1) (qd6 (v:=.int 2) (by rfl) hf ⟨_,rfl⟩)))))),?_⟩;refine⟨_,rfl,n,rfl,_,rfl,iteT ⟨_,rfl,_,_,rfl,rfl,_,rfl,?_⟩⟩;have e:decide ((n:Int)<(m:Int)+2)=true:=Zl (by lia);refine ite2 (λ_=>⟨_,rfl,_,_,rfl,rfl,_,_,rfl,rfl,?_⟩) (λh1=>absurd (Zl (Int.natCast_nonneg n)) h1);show Q (V.bl (decide ((n:Int)<(m:Int)+2))) H;rw[e];exact q
theorem xw4:FnScope ["row"] ["row"] (qa4 qA1):=qd9
def qI7:Sp:=λvs H Q _=>∃(b:Addr) (r:Row),vs=[.ref b]/\H b=some (.tup (vN r))/\r.length=4/\∀H',Same H H'->Q (.bl (decide (qg8 r))) H'
theorem qI8 {l m:List Nat}(h:(l.map λn:Nat=>(n:Int))=m.map λn:Nat=>(n:Int)):l=m:=by
 induction l generalizing m with
 |nil=>cases m with
  |nil=>rfl
  |cons b m=>simp at h
 |cons a l ih=>cases m with
  |nil=>simp at h
  |cons b m=>
   rw[ZC,ZC] at h;injection h with h1 h2
   rw[ih h2,Xi h1]
theorem qI9 {f:Addr}{fd:FuncData}(F:Fun K "is_plain" "is_plain" qA1 f fd) (T:Cst mg):FnOk P w K mg base CX0 2 f fd ["row"] qI7:=by
 obtain⟨tf,hf⟩:=T.first;refine F.ok xw4 (λvs H Q E h=>?_) (λcdv A outer s H vs Q E hr h=>?_)
 ·obtain⟨b,r,rfl,_⟩:=h
  rfl
 ·obtain⟨b,r,rfl,hb,hl,q⟩:=h;refine⟨_,qa8 (qb0 (qy1 (qg3 qu1 (pxN qd1 (pv 0) qa6) (qd6 (v:=.int 2) (by rfl) hf ⟨_,rfl⟩) (qb7 _))
   (qy0 (qg3 (qV2 hr) (pv 0) (qb3 xa5 (ql7 (qa0 (pxN qd1 (pv 0) qa6) qa2)) qa6) (qb7 _))))),?_⟩
  match r,hl with
  |[x0,x1,x2,x3],_=>
   refine⟨_,rfl,b,_,0,.int x0,rfl,rfl,SqT.of hb,rfl,_,_,rfl,rfl,_,rfl,?_⟩;refine ite2 (λhc=>?_) (λhc=>?_)
   ·have h2:x0<2:=by have:=ZI hc;lia
    refine⟨_,rfl,_,rfl,b,_,0,.int x0,rfl,rfl,SqT.of hb,rfl,(by show 1<=sizeLine;decide),λp hp=>⟨p,4,.int x0,rfl,rfl,qa1,by decide,by decide,λp2 k9=>?_⟩⟩;have kE:=qc2 (u:=.tup (List.replicate 4 (V.int x0))) (qc2 (u:=.tup [V.int x0]) hb hp) k9;refine⟨dT [(x0:Int),(x1:Int),(x2:Int),(x3:Int)],dT [(x0:Int),(x0:Int),(x0:Int),(x0:Int)],.tup kE (DatasAt.ints [(x0:Int),(x1:Int),(x2:Int),(x3:Int)]),.tup qa1 (DatasAt.ints [(x0:Int),(x0:Int),(x0:Int),(x0:Int)]),qV3 _,qV3 _,(by show 1<=60;decide),?_⟩;rw[xC2];have e:decide (([(x0:Int),(x1:Int),(x2:Int),(x3:Int)]:List Int)=([(x0:Int),(x0:Int),(x0:Int),(x0:Int)]:List Int))=decide (qg8 [x0,x1,x2,x3]):=by
     congr 1;apply propext;unfold qg8;constructor
     ·intro z;have:[x0,x1,x2,x3]=[x0,x0,x0,x0]:=qI8 (l:=[x0,x1,x2,x3]) (m:=[x0,x0,x0,x0]) z;have:x0=0\/x0=1:=by lia
      rcases this with rfl|rfl
      ·exact .inl ‹_›
      ·exact .inr ‹_›
     ·rintro (z|z)<;>(cases z;rfl)
    rw[e];exact q _ ((qb1 hp).trans (qb1 k9))
   ·have h2:¬x0<2:=λz=>hc (Zl (by lia));have e:decide (qg8 [x0,x1,x2,x3])=false:=Zq (by
     rintro (z|z)<;>(cases z;lia))
    have:=q H (Same.refl H);rw[e] at this;exact this
end
end Pr
namespace Qf
theorem xw5 (l:List Nat) (a:Nat):mx (l++[a])=max (mx l) a:=by
 induction l with
 |nil=>show max a 0=max 0 a;lia
 |cons b l ih=>show max b (mx (l++[a]))=max (max b (mx l)) a;rw[ih];lia
theorem xc1 (l:List Nat):∀k,k<l.length->L2.best (l.map λn:Nat=>(n:Int)) k=(mx (l.take (k+1)):Nat)
 |0,h=>by
  cases l with
  |nil=>simp at h
  |cons a l=>show ((a:Nat):Int)=((max a 0:Nat):Int);simp
 |k+1,h=>by
  have ih:=xc1 l k (by lia);have e:(l.map λn:Nat=>(n:Int)).getD (k+1) 0=((l[k+1]:Nat):Int):=by simp[List.getD,h]
  have t:l.take (k+1+1)=l.take (k+1)++[l[k+1]]:=by rw[YI h]
  unfold L2.best;rw[e,ih,t,xw5];split<;>lia
theorem qX5 {l:List Nat}(h:l≠[]):L2.best (l.map λn:Nat=>(n:Int)) ((l.map λn:Nat=>(n:Int)).length-1)=(mx l:Nat):=by
 have hl:0<l.length:=XJ.mpr h;rw[Ze,xc1 l (l.length-1) (by lia),show l.length-1+1=l.length by lia,YS]
theorem qO4 {rows:List Row}{i:Nat}{r:Row}(h:rows[i]?=some r):deps (rows.take (i+1))=deps (rows.take i)++[1+mx (r.map (dp (rows.take i)))]:=by
 have hl:=(gS_ h).1;have he:=(gS_ h).2;rw[<- qr8,<- he,YI hl]
theorem qO5 {rows:List Row}{x:Nat}(h:x<rows.length+2):(deps rows)[x]?=some (dp rows x):=by
 unfold dp;rw[Zx];have:x<(deps rows).length:=by rw[qi2];exact h
 rw[Zc this];rfl
end Qf
namespace Pr
open PySem L2 Qf
theorem qh5 {xs ys:List V}(hl:xs.length=ys.length) (h:∀(i:Nat) x,xs[i]?=some x->ys[i]?=some x):xs=ys:=by
 refine Xc λi=>?_;cases e:xs[i]? with
 |some x=>exact (h i x e).symm
 |none=>
  have:xs.length<=i:=List.getElem?_eq_none_iff.mp e;exact (Yb (by lia)).symm
section
variable {P:Program}{w:World}{K:PySem.W.Frag}{mg:Str->Option Value}{base:Heap}
theorem scDeps:FnScope ["rows", "depths", "row"] ["rows"] (qa4 q29):=qd9
def xc2:Sp:=λvs H Q _=>∃(p:Addr) (rows:List Row),vs=[.ref p]/\RowsAt H p rows/\qb2 rows/\rows.length<=900/\∀H' D,Same H H'->H' D=some (.lst (vN (deps rows)))->Q (.ref D) H'
theorem xc3 {f:Addr}{fd:FuncData}(F:Fun K "depths_of" "depths_of" q29 f fd) (B:Blt mg):FnOk P w K mg base CX0 1 f fd ["rows"] xc2:=by
 refine F.ok scDeps (λvs H Q E h=>?_) (λcdv A outer s H vs Q E hr h=>?_)
 ·obtain⟨p,rows,rfl,_⟩:=h
  rfl
 ·obtain⟨p,rows,rfl,hR,ok,hn,q⟩:=h;refine⟨_,qb9 (psN 1 scDeps.nd (qf6 (qa0 qa6 (qa0 qa6 qa2))))
   (qb9 (qj0 Z2 rfl (qi9 (pv 0)) (pgN 2 scDeps.nd)
    (qa8 (qf0 (q14 Z0 Z4 Z5 qf2 (pv 1) (qa0 (qb3 qd3 qa6 (qa7 (qN6 rfl) (by rfl) B.max XZ
     (qa0 (qe9 ["rows", "depths", "row"] (qa4 q29) rfl rfl rfl scDeps.nd (qi9 (pv 2)) (λcl C fp s₀ H₀=>pxN (ixL K rfl) (pv 2) (pv 0))) qa2))) qa2)))))
   (qa8 (qb0 (pv 1)))),?_⟩
  refine⟨(by show 2<=sizeLine;decide),λD hD=>?_⟩;obtain⟨bs,hp,j9,jA⟩:=id hR;have jV:=qc2 (u:=.lst [.int 0,.int 0]) hp hD;have jI:(bs.map V.ref).length=rows.length:=by rw[Ze];exact j9
  refine⟨_,rfl,p,rfl,⟨_,SqT.of jV⟩,qp5 (K:=K) (a:=p) (xs:=bs.map V.ref) (λi σ H2=>Same H H2/\H2 D=some (.lst (vN (deps (rows.take i))))/\∃v2,σ=[some (.ref p),some (.ref D),v2])
   ⟨qb1 hD,qa1,none,rfl⟩ (λi σ H2 _ ⟨s2,_⟩=>SqT.of (s2 _ _ hp)) ?_ ?_⟩
  ·rintro i y σ H2 hy ⟨s2,jR,v2,rfl⟩;have hi:i<rows.length:=by rw[<- jI];exact (gS_ hy).1
   rw[Zb] at hy;obtain⟨b,hb,rfl⟩:=Zj.mp hy;have jF:rows[i]?=some rows[i]:=by simp[hi]
   have jQ:=s2 _ _ (jA i b rows[i] hb jF);have rk:=ok i _ jF;have tl:(rows.take i).length=i:=by rw[ZX];lia
   have vA:∀x,x<i+2->(deps (rows.take i))[x]?=some (dp (rows.take i) x):=λx hx=>qO5 (by rw[tl];exact hx);generalize rows[i]=r at jF jQ rk;refine⟨_,rfl,.inl ⟨rfl,_,SqL.of jR⟩,_,rfl,b,rfl,⟨_,SqT.of jQ⟩,λD2 jY=>qe1 jY (λj z _=>∃x,r[j]?=some x/\z=.int (dp (rows.take i) x:Nat)) (qh4 (K:=K) jQ) (by rw[qb5,rk.1];decide) (λ_ _ _ _ _ _ h=>h) ?_ ?_⟩
   ·intro j x H3 hj hx s3 Q' hq;obtain⟨m,hm,rfl⟩:=qi0 hx;have jB:=rk.2 m (Zm hm);exact⟨_,rfl,_,rfl,D,_,(m:Int),.int (dp (rows.take i) m:Nat),rfl,rfl,SqL.of (s3 _ _ jR),qs3 (vA m jB),hq _ _ (Same.refl _) ⟨m,hm,rfl⟩⟩
   ·intro ys H3 s3 k6 jK jM;have ey:ys=(r.map (dp (rows.take i))).map (λn:Nat=>V.int (n:Int)):=by
     refine qh5 (by rw[jK,qb5,Ze,Ze]) λj x hx=>?_;obtain⟨m,hm,rfl⟩:=jM j x hx;rw[Zb,Zb,hm];rfl
    have e2:ys=((r.map (dp (rows.take i))).map (λn:Nat=>(n:Int))).map V.int:=ey.trans (qw1 _);have jH:r.map (dp (rows.take i))≠[]:=λz=>by
     have:=Yt List.length z;rw[Ze,rk.1] at this;cases this
    refine⟨D2,(r.map (dp (rows.take i))).map (λn:Nat=>(n:Int)),rfl,e2▸k6,λz=>jH (YU.mp z),_,_,rfl,rfl,?_⟩;rw[qX5 jH];have kA:=s3 _ _ jR;refine⟨D,_,_,rfl,rfl,kA,?_,?_⟩
    ·rw[qb5,qi2,tl];exact qm2 (by lia)
    ·have nD:∀b o,H b=some o->b≠D:=λb o e=>qa3 e hD;refine⟨λb o e=>by rw[qa5 (nD b o e)];exact s3 _ _ (s2 _ _ e),?_,_,rfl⟩;rw[qa1,qO4 jF];unfold vN;rw[ZW]
     rfl
  ·rintro σ H2 ⟨s2,jR,v2,rfl⟩;refine⟨_,rfl,q H2 D s2 ?_⟩;rw[jI,YS] at jR;exact jR
end
end Pr
namespace Qf
theorem qo2 {rows:List Row}{e:List Nat}(h:Post rows e):e.length<=rows.length:=by
 have:=h.nd.length_le_of_subset (l₂:=List.range rows.length) λp hp=>ZH.mpr (h.lt p hp);simpa using this
theorem qn0 {rows:List Row}(ok:qb2 rows){d p:Nat}{r:Row}(hp:rows[p]?=some r) (hd:dp rows (p+2)<=d+1):∀(l e:List Nat),(∀q∈l,q∈r)->Post rows e->Post rows (l.foldl (dfs rows d) e)
 |[],_,_,pe=>pe
 |q::l,e,hl,pe=>by
  have hq:=hl q Zu;have jB:=(ok p r hp).2 q hq;have jS:=(gS_ hp).1;have hdq:dp rows q<=d:=by
   have:=qH8 (ZR.mpr ⟨q,hq,rfl⟩:dp rows q∈r.map (dp rows));have e:=qp8 ok hp;lia
  exact qn0 ok hp hd l _ (λz hz=>hl z (Zn _ hz)) (qe7 ok d e q pe (by lia) hdq).1
theorem qh2 {rows:List Row}(ok:qb2 rows){d p:Nat}{r:Row}(hp:rows[p]?=some r) (hd:dp rows (p+2)<=d+1){q:Nat}(hq:q∈r):q<rows.length+2/\dp rows q<=d:=by
 have jB:=(ok p r hp).2 q hq;have jS:=(gS_ hp).1;have:=qH8 (ZR.mpr ⟨q,hq,rfl⟩:dp rows q∈r.map (dp rows));have e:=qp8 ok hp;exact⟨by lia,by lia⟩
theorem qw2 {rows:List Row}(ok:qb2 rows){x:Nat}(hx:x<rows.length+2) (h:dp rows x<=0):x<2:=by
 by_cases z:x<2
 ·exact z
 ·exfalso;have hp:x-2<rows.length:=by lia
  have:=qp8 ok (qd0 hp);rw[show x-2+2=x by lia] at this;lia
end Qf
namespace Pr
open PySem L2 Qf
theorem qd5 {n:Nat}(h:n<=1191000):n<sizeLine:=Y2 h (by decide)
def But (e:Addr) (H H':Hp):Prop:=∀b o,H b=some o->b≠e->H' b=some o
theorem But.refl (e:Addr) (H:Hp):But e H H:=λ_ _ h _=>h
theorem But.trans {e:Addr}{H H1 H2:Hp}(a:But e H H1) (b:But e H1 H2):But e H H2:=λc o h n=>b c o (a c o h n) n
theorem But.upd {e:Addr}{H:Hp}{o:HO}:But e H (upd H e o):=λb u h n=>by rw[qa5 n];exact h
theorem But.of {e:Addr}{H H':Hp}(h:Same H H'):But e H H':=λb o q _=>h b o q
theorem But.tups {e:Addr}{H H':Hp}(h:But e H H'){o:HO}(he:H e=some o) (no:∀u,o≠.tup u):Tups H H':=λb u q=>h b _ q λz=>by
 subst z;rw[q] at he;exact no u (Zv he).symm
def eK (es:List Nat):List (Key×V):=es.map λp:Nat=>(Sum.inl (p:Int),V.bl true)
theorem xq4 (es:List Nat) (p:Nat):(valV (eK es) (Sum.inl (p:Int))).isSome=decide (p∈es):=by
 rw[<- qi1];unfold eK;rw[List.any_map];by_cases h:p∈es
 ·rw[Zl h,XO];exact⟨p,h,by simp⟩
 ·rw[Zq h,WD];intro q hq;simp only[Function.comp,X4];intro z;have:(q:Int)=p:=X7 z;exact h (by rw[<- Xi this];exact hq)
theorem xD2 {es:List Nat}{p:Nat}(h:p∉es):putK (eK es) (Sum.inl (p:Int)) (.bl true)=eK (es++[p]):=by
 unfold putK;have:=xq4 es p;rw[<- qi1,Zq h] at this;rw[Zk (by rw[this];decide)];unfold eK;rw[ZW];rfl
section
variable {P:Program}{w:World}{K:PySem.W.Frag}{mg:Str->Option Value}{base:Heap}
theorem scEnd:FnScope ["rows", "number", "ended", "quarter"] ["rows", "number", "ended"] (qa4 sEnd):=qd9
def xD3 (d:Nat):Sp:=λvs H Q _=>∃(p e:Addr) (x:Nat) (rows:List Row) (es:List Nat),vs=[.ref p,.int (x:Nat),.ref e]/\RowsS H p rows/\qb2 rows/\rows.length<=1190900/\x<rows.length+2/\dp rows x<=d/\Post rows es /\
 H e=some (.dK (eK es))/\∀H',But e H H'->H' e=some (.dK (eK (dfs rows d es x)))->Q .non H'
theorem xD4 {f:Addr}{fd:FuncData}(F:Fun K "end_rows" "end_rows" sEnd f fd) (T:Cst mg) (hE:mg "end_rows" = some (.ref f)) (bE:Binds K fd ["rows", "number", "ended"] []):∀d,FnOk P w K mg base CX0 (d+1) f fd ["rows", "number", "ended"] (xD3 d):=by
 obtain⟨tf,hf⟩:=T.first;intro d
 induction d with
 |zero=>
  refine F.ok scEnd (λvs H Q E h=>?_) (λcdv A outer s H vs Q E hr h=>?_)
  ·obtain⟨p,e,x,rows,es,rfl,_⟩:=h
   rfl
  ·obtain⟨p,e,x,rows,es,rfl,hR,ok,hn,hx,hd,pe,he,q⟩:=h;have hu:A.units+3+1<cLine:=by have:=hr.un;exact Y2 (Y5 _ _) (show A.units+3+1+199<cLine from by simpa using this)
   have x2:=qw2 ok hx hd;refine⟨_,qb9 (qf1 (qk1 (qc0 qu1 (pv 1) (qd6 (v:=.int 2) (by rfl) hf ⟨_,rfl⟩) (qb7 _)) (qi8 (qx9 (xp6 hu (qb3 ql6 (pv 1) (qd6 (v:=.int 2) (by rfl) hf ⟨_,rfl⟩)) (pv 2))))).pt (qa8 q51) qb6) qf7,?_⟩;refine⟨_,rfl,_,_,rfl,rfl,_,rfl,?_⟩;rw[Zl (show (x:Int)<2 by lia)];exact iteT (iteT (q H (But.refl e H) he))
 |succ d ih=>
  refine F.ok scEnd (λvs H Q E h=>?_) (λcdv A outer s H vs Q E hr h=>?_)
  ·obtain⟨p,e,x,rows,es,rfl,_⟩:=h
   rfl
  ·obtain⟨p,e,x,rows,es,rfl,hR,ok,hn,hx,hd,pe,he,q⟩:=h;have hu:A.units+3+1<cLine:=by have:=hr.un;exact Y2 (Y5 _ (16*(d+1)+199)) (show A.units+3+1+(16*(d+1)+199)<cLine from by
    have h2:A.units+3+16*(d+1)+200<cLine:=this;lia)
   refine⟨_,qb9 (qf1 (qk1 (qc0 qu1 (pv 1) (qd6 (v:=.int 2) (by rfl) hf ⟨_,rfl⟩) (qb7 _)) (qi8 (qx9 (xp6 hu (qb3 ql6 (pv 1) (qd6 (v:=.int 2) (by rfl) hf ⟨_,rfl⟩)) (pv 2))))).pt (qa8 q51) qb6)
    (qb9 (qj0 Z2 rfl (qi9 (pxN (ixS K rfl) (pv 0) (qb3 ql6 (pv 1) (qd6 (v:=.int 2) (by rfl) hf ⟨_,rfl⟩)))) (pgN 3 scEnd.nd)
     (qa8 (qf0 (pcN ih hr hE F.kp bE (qa0 (pv 0) (qa0 (pv 3) (qa0 (pv 2) qa2)))))))
    (qa8 (qu2 hu (pv 2) (qb3 ql6 (pv 1) (qd6 (v:=.int 2) (by rfl) hf ⟨_,rfl⟩)) qo7 (by rfl)))),?_⟩
   refine⟨_,rfl,_,_,rfl,rfl,_,rfl,?_⟩;unfold dfs at q;refine ite2 (λhc=>?_) (λhc=>?_)
   ·have x2:x<2:=by have:=ZI hc;lia
    rw[Zp (.inl x2)] at q;exact iteT (q H (But.refl e H) he)
   ·have x2:¬x<2:=λz=>hc (Zl (by lia));have ex:(x:Int)-2=((x-2:Nat):Int):=by lia
    have dg:DGet H e (.int ((x:Int)-2)) (valV (eK es) (Sum.inl ((x-2:Nat):Int))):=by rw[ex];exact DGet.k (k:=Sum.inl ((x-2:Nat):Int)) he
    refine⟨_,rfl,_,_,rfl,rfl,_,rfl,e,_,rfl,dg,_,rfl,?_⟩;rw[xq4];refine ite2 (λhm=>?_) (λhm=>?_)
    ·rw[Zp (.inr (ZI hm))] at q;exact q H (But.refl e H) he
    ·have hnm:x-2∉es:=λz=>hm (Zl z);rw[Zk (by rintro (z|z);exact x2 z;exact hnm z)] at q;have jB:x-2<rows.length:=by lia
     have hg:=qd0 jB;generalize rows.getD (x-2) []=r at q hg;obtain⟨bs,hp,j9,jA⟩:=id hR;have vG:dp rows (x-2+2)<=d+1:=by rw[show x-2+2=x by lia];exact hd
     have kK:bs[x-2]?=some (bs[x-2]'(by lia)):=by simp[show x-2<bs.length by lia]
     have jQ:=jA (x-2) _ r kK hg;have nbe:∀b∈bs,b≠e:=λb hb z=>by
      obtain⟨j,hj,ej⟩:=ZK.mp hb;have:=jA j b (rows[j]'(by lia)) (by rw[Zc hj,ej]) (Zc (by lia));rw[z,he] at this;cases this
     have npe:p≠e:=λz=>by
      rw[z,he] at hp;rcases hp with hp|hp<;>cases hp
     have hRm:∀H2,But e H H2->RowsS H2 p rows:=λH2 s2=>⟨bs,hp.imp (λh=>s2 _ _ h npe) (λh=>s2 _ _ h npe),j9,λi b r e1 e2=>s2 _ _ (jA i b r e1 e2) (nbe b (Zm e1))⟩;have ixx:∀Q':VK,Q' (.ref (bs[x-2]'(by lia))) H->rIxS K (.ref p) (.int ((x:Int)-2)) H Q':=λQ' hQ=>by
      rcases hp with h|h
      ·exact .inr ⟨p,_,((x-2:Nat):Int),.ref (bs[x-2]'(by lia)),rfl,Yt V.int ex,SqT.of h,qe0 (by rw[Zb,kK];rfl),hQ⟩
      ·exact .inl ⟨p,_,((x-2:Nat):Int),.ref (bs[x-2]'(by lia)),rfl,Yt V.int ex,SqL.of h,qe0 (by rw[Zb,kK];rfl),hQ⟩
     refine⟨_,rfl,_,rfl,_,_,rfl,rfl,ixx _ ⟨_,rfl,⟨_,SqT.of jQ⟩,
      qp5 (K:=K) (xs:=vN r) (λi σ H2=>But e H H2/\H2 e=some (.dK (eK ((r.take i).foldl (dfs rows d) es)))/\∃v3,σ=[some (.ref p),some (.int (x:Nat)),some (.ref e),v3])
      ⟨But.refl e H,he,none,rfl⟩ (λi σ H2 _ ⟨s2,_⟩=>SqT.of (s2.tups he (λu z=>by cases z) _ _ jQ)) ?_ ?_⟩⟩
     ·rintro i y σ H2 hy ⟨s2,jZ,v3,rfl⟩;obtain⟨m,hm,rfl⟩:=qi0 hy;have hq:=Zm hm;obtain⟨b1,b2⟩:=qh2 ok hg vG hq;refine⟨_,rfl,_,rfl,_,rfl,p,e,m,rows,(r.take i).foldl (dfs rows d) es,rfl,hRm H2 s2,ok,hn,b1,b2,qn0 ok hg vG _ es (λz hz=>W2 hz) pe,jZ,λH3 s3 vF=>⟨s2.trans s3,?_,_,rfl⟩⟩;have v0:=(gS_ hm).1;have hme:=(gS_ hm).2;rw[<- YI v0,VD,hme];exact vF
     ·rintro σ H2 ⟨s2,jZ,v3,rfl⟩;rw[qb5,YS] at jZ;have pf:=qn0 ok hg vG r es (λz hz=>hz) pe;have fin:=(qe7 ok (d+1) es x pe hx hd).1;unfold dfs at fin;rw[Zk (by rintro (z|z);exact x2 z;exact hnm z)] at fin;have eg:rows.getD (x-2) []=r:=by
       rw[Zx,hg];rfl
      rw[eg] at fin;have hni:x-2∉r.foldl (dfs rows d) es:=λz=>by
       have:=(Xz.mp fin.nd).2.2 (x-2) z (x-2) (by simp);exact this rfl
      have dq:DPut H2 e (.int ((x:Int)-2)) (.bl true) (upd H2 e (.dK (eK (r.foldl (dfs rows d) es++[x-2])))):=by
       rw[ex,<- xD2 hni];refine DPut.k (k:=Sum.inl ((x-2:Nat):Int)) jZ ?_;unfold eK;rw[Ze];exact qd5 (by have:=qo2 pf;lia)
      exact⟨_,rfl,_,rfl,_,_,rfl,rfl,e,_,rfl,dq,q _ (s2.trans But.upd) qa1⟩
theorem scPlaces:FnScope ["rows", "top", "ended"] ["rows", "top"] (qa4 qA2):=qd9
def qx2 (d:Nat):Sp:=λvs H Q _=>∃(p:Addr) (x:Nat) (rows:List Row),vs=[.ref p,.int (x:Nat)]/\RowsS H p rows/\qb2 rows/\rows.length<=1190900/\x<rows.length+2/\dp rows x<=d /\
 ∀H' D,Same H H'->H' D=some (.lst (vN (dfs rows d [] x)))->Q (.ref D) H'
theorem qO6 {f fE:Addr}{fd fdE:FuncData}(F:Fun K "places_as_ended" "places_as_ended" qA2 f fd) (B:Blt mg) (T:Cst mg) (hE:mg "end_rows" = some (.ref fE)) (FE:Fun K "end_rows" "end_rows" sEnd fE fdE) (bE:Binds K fdE ["rows", "number", "ended"] []) (d:Nat):FnOk P w K mg base CX0 (d+2) f fd ["rows", "top"] (qx2 d):=by
 have GE:FnOk P w K mg base CX0 (d+1) fE fdE ["rows", "number", "ended"] (xD3 d):=xD4 FE T hE bE d;refine F.ok scPlaces (λvs H Q E h=>?_) (λcdv A outer s H vs Q E hr h=>?_)
 ·obtain⟨p,x,rows,rfl,_⟩:=h
  rfl
 ·obtain⟨p,x,rows,rfl,hR,ok,hn,hx,hd,q⟩:=h;refine⟨_,qb9 (psN 2 scPlaces.nd qX0)
   (qb9 (qf0 (pcN GE hr hE FE.kp bE (qa0 (pv 0) (qa0 (pv 1) (qa0 (pv 2) qa2)))))
   (qa8 (qb0 (qb4 (qD9 rfl) (by rfl) B.list Xh (qa0 (pv 2) qa2))))),?_⟩
  refine λe he=>⟨_,rfl,_,rfl,_,rfl,p,e,x,rows,[],rfl,hR.same (qb1 he),ok,hn,hx,hd,qg5 rows,qa1,λH2 s2 jZ=>?_⟩;refine⟨_,rfl,e,_,rfl,jZ,λl hl=>q _ l ?_ ?_⟩
  ·intro b o z;have nb:b≠e:=qa3 z he;exact qc2 (s2 b o (qc2 z he) nb) hl
  ·rw[qa1];unfold eK vN;rw[Ym]
   rfl
end
def TellAt (H:Hp) (t:Addr) (n top:Nat) (rows:List Row):Prop:=∃p:Addr,H t=some (.tup [.int (n:Nat),.int (top:Nat),.ref p])/\RowsAt H p rows
theorem TellAt.mono {H H':Hp}{t:Addr}{n top:Nat}{rows:List Row}(h:TellAt H t n top rows) (s:Tups H H'):TellAt H' t n top rows:=by
 obtain⟨p,h1,h2⟩:=h;exact⟨p,s _ _ h1,h2.mono s⟩
theorem xc4 {ys:List V}(h:∀(i:Nat) y,ys[i]?=some y->y=.bl true):ys=(List.replicate ys.length true).map V.bl:=by
 refine qh5 (by simp) λi x hx=>?_;have hi:=(gS_ hx).1;rw[h i x hx];simp[hi]
theorem qT1 (k:Nat):(List.replicate k true).all id=true:=by
 rw[YQ];intro x hx;exact (List.mem_replicate.mp hx).2
section
variable {P:Program}{w:World}{K:PySem.W.Frag}{mg:Str->Option Value}{base:Heap}
theorem scRow:FnScope ["thing", "before"] ["thing", "before"] (qa4 sRow):=qd9
def xD5:Sp:=λvs H Q _=>∃(b:Addr) (i:Nat) (r:Row),vs=[.ref b,.int (i:Nat)]/\H b=some (.tup (vN r))/\xv6 i r/\∀H',Same H H'->Q (.bl true) H'
theorem xD6 {f fN:Addr}{fd fdN:FuncData}(F:Fun K "is_row" "is_row" sRow f fd) (B:Blt mg) (hN:mg "is_number" = some (.ref fN)) (FN:Fun K "is_number" "is_number" qu7 fN fdN) (bN:Binds K fdN ["thing", "many"] []) (GN:FnOk P w K mg base CX0 2 fN fdN ["thing", "many"] qx1):FnOk P w K mg base CX0 3 f fd ["thing", "before"] xD5:=by
 refine F.ok scRow (λvs H Q E h=>?_) (λcdv A outer s H vs Q E hr h=>?_)
 ·obtain⟨b,i,r,rfl,_⟩:=h
  rfl
 ·obtain⟨b,i,r,rfl,hb,rk,q⟩:=h;refine⟨_,qb9 (qf1 (qk1 (qg9 (qe6 (qa7 qj4 (by rfl) B.isi Z1 (qa0 (pv 0) (qa0 (qm1 (v:=.ty "tuple") (by rfl) B.tuple ZG rfl) qa2)))))
    (qi8 (qc0 q58 (qa7 qa9 (by rfl) B.len ZM (qa0 (pv 0) qa2)) qa6 (qb7 _)))).pt (qa8 (qb0 qo7)) qb6)
   (qa8 (qb0 (qa7 (qz9 rfl) (by rfl) B.all WT (qa0 (qe9 ["thing", "before"] (qa4 sRow) rfl rfl rfl scRow.nd (piT K rfl (pv 0)) (λcl C fp s₀ H₀=>pcN GN hr hN FN.kp bN (qa0 (pv 0) (qa0 (pv 2) qa2)))) qa2)))),?_⟩
  refine⟨_,rfl,_,_,_,_,true,rfl,rfl,.inl (.tup hb),rfl,_,rfl,iteF ⟨_,rfl,b,_,rfl,.inr (SqT.of hb),rfl,_,rfl,xJ4 (by rw[qb5,rk.1];rfl) ?_⟩⟩;refine⟨_,rfl,b,rfl,⟨_,SqT.of hb⟩,λD hD=>qe1 hD (λ_ z _=>z=.bl true) (qh4 (K:=K) hb) (by rw[qb5,rk.1];decide) (λ_ _ _ _ _ _ h=>h) ?_ ?_⟩
  ·intro j x H3 hj hx s3 Q' hq;obtain⟨m,hm,rfl⟩:=qi0 hx;exact⟨_,rfl,_,rfl,m,i,rfl,rk.2 m (Zm hm),hq _ _ (Same.refl _) rfl⟩
  ·intro ys H3 s3 k6 jK jM;have e:=xc4 jM;refine⟨D,List.replicate ys.length true,rfl,by rw[<- e];exact k6,?_⟩;rw[qT1];exact q H3 s3
theorem scRows:FnScope ["thing"] ["thing"] (qa4 q30):=qd9
def xc5:Sp:=λvs H Q _=>∃(p:Addr) (rows:List Row),vs=[.ref p]/\RowsAt H p rows/\qb2 rows/\rows.length<=900/\∀H',Same H H'->Q (.bl true) H'
theorem xw6 {f fR:Addr}{fd fdR:FuncData}(F:Fun K "are_rows" "are_rows" q30 f fd) (B:Blt mg) (hR:mg "is_row" = some (.ref fR)) (FR:Fun K "is_row" "is_row" sRow fR fdR) (bR:Binds K fdR ["thing", "before"] []) (GR:FnOk P w K mg base CX0 3 fR fdR ["thing", "before"] xD5):FnOk P w K mg base CX0 4 f fd ["thing"] xc5:=by
 refine F.ok scRows (λvs H Q E h=>?_) (λcdv A outer s H vs Q E hr h=>?_)
 ·obtain⟨p,rows,rfl,_⟩:=h
  rfl
 ·obtain⟨p,rows,rfl,jN,ok,hn,q⟩:=h;obtain⟨bs,hp,j9,jA⟩:=id jN;refine⟨_,qa8 (qb0 (qy1 (qa7 qj4 (by rfl) B.isi Z1 (qa0 (pv 0) (qa0 (qm1 (v:=.ty "tuple") (by rfl) B.tuple ZG rfl) qa2)))
   (qy0 (qa7 (qz9 rfl) (by rfl) B.all WT (qa0 (xj8 ["thing"] (qa4 q30) rfl rfl rfl scRows.nd (qH6 (by rfl) B.enum (qa0 (pv 0) qa2)) (λcl C fp s₀ H₀=>pcN GR hr hR FR.kp bR (qa0 (pv 1) (qa0 (pv 0) qa2)))) qa2))))),?_⟩
  refine⟨_,rfl,_,_,_,_,true,rfl,rfl,.inl (.tup hp),rfl,_,rfl,iteT ?_⟩;have jI:(bs.map V.ref).length=rows.length:=by rw[Ze];exact j9
  refine⟨_,rfl,p,rfl,⟨_,SqT.of hp⟩,λD hD=>qu6 hD (λ_=>true) (λ_=>.bl true) (qN9 (K:=K) hp) (by rw[jI];exact qm2 (by lia)) ?_ ?_⟩
  ·rintro i x H2 hi ⟨t,y,rfl,hy,ht⟩ s2 os ho Q1 Q2 q1 q2
   match os,ho with
   |[o1,o2],_=>
    have vE:i<rows.length:=by rw[<- jI];exact hi
    rw[Zb] at hy;obtain⟨b,hb,rfl⟩:=Zj.mp hy;have jF:rows[i]?=some rows[i]:=by simp[vE]
    refine⟨t,_,rfl,SqT.of ht,rfl,_,_,rfl,_,_,rfl,rfl,?_⟩;refine iteT (B:=Q1 H2) ?_;exact⟨_,rfl,_,rfl,b,i,rows[i],rfl,s2 _ _ (jA i b _ hb jF),ok i _ jF,λH3 s3=>q2 rfl H3 s3⟩
  ·intro H2 s2 jR;refine⟨D,List.replicate (bs.map V.ref).length true,rfl,?_,?_⟩
   ·rw[jR];congr 2;rw[List.map_replicate,List.filter_eq_self.mpr (λ_ _=>rfl)];refine qh5 (by simp) λi x hx=>?_;have hi:=(gS_ hx).1;rw[Zb] at hx;obtain⟨_,_,rfl⟩:=Zj.mp hx;simp at hi;rw[Ze,List.getElem?_replicate,Zp hi]
   ·rw[qT1];exact q H2 s2
theorem scTelling:FnScope ["thing", "n", "top", "rows"] ["thing"] (qa4 qo0):=qd9
def qO7:Sp:=λvs H Q _=>∃(t:Addr) (n tp:Nat) (rows:List Row),vs=[.ref t]/\TellAt H t n tp rows/\n<=12/\qb2 rows/\rows.length<=900/\tp<rows.length+2/\dp rows tp<=n/\∀H',Same H H'->Q (.bl true) H'
theorem q31 {f fS fR fN fD:Addr}{fd fdS fdR fdN fdD:FuncData}(F:Fun K "is_telling" "is_telling" qo0 f fd) (B:Blt mg)
  (hS:mg "is_size" = some (.ref fS)) (FS:Fun K "is_size" "is_size" xb4 fS fdS) (bS:Binds K fdS ["thing"] []) (GS:FnOk P w K mg base CX0 2 fS fdS ["thing"] xb9)
  (hR:mg "are_rows" = some (.ref fR)) (FR:Fun K "are_rows" "are_rows" q30 fR fdR) (bR:Binds K fdR ["thing"] []) (GR:FnOk P w K mg base CX0 4 fR fdR ["thing"] xc5)
  (hN:mg "is_number" = some (.ref fN)) (FN:Fun K "is_number" "is_number" qu7 fN fdN) (bN:Binds K fdN ["thing", "many"] []) (GN:FnOk P w K mg base CX0 2 fN fdN ["thing", "many"] qx1)
  (hD:mg "depths_of" = some (.ref fD)) (FD:Fun K "depths_of" "depths_of" q29 fD fdD) (bD:Binds K fdD ["rows"] []):FnOk P w K mg base CX0 5 f fd ["thing"] qO7:=by
 have GD:FnOk P w K mg base CX0 1 fD fdD ["rows"] xc2:=xc3 FD B;refine F.ok scTelling (λvs H Q E h=>?_) (λcdv A outer s H vs Q E hr h=>?_)
 ·obtain⟨t,n,tp,rows,rfl,_⟩:=h
  rfl
 ·obtain⟨t,n,tp,rows,rfl,⟨p,ht,jN⟩,hn,ok,hl,jO,hd,q⟩:=h;have jF:Room 1 _:=hr.mono (by decide);have kH:Room 2 _:=hr.mono (by decide);refine⟨_,qb9 (qf1 (qk1 (qg9 (qe6 (qa7 qj4 (by rfl) B.isi Z1 (qa0 (pv 0) (qa0 (qm1 (v:=.ty "tuple") (by rfl) B.tuple ZG rfl) qa2)))))
    (qi8 (qc0 q58 (qa7 qa9 (by rfl) B.len ZM (qa0 (pv 0) qa2)) qa6 (qb7 _)))).pt (qa8 (qb0 qo7)) qb6)
   (qb9 (qo9 (pv 0) (qo8 rfl (qc3 (pgN 1 scTelling.nd) (qc3 (pgN 2 scTelling.nd) (qc3 (pgN 3 scTelling.nd) qj7)))))
   (qb9 (qf1 (qk1 (qg9 (qe6 (pcN GS kH hS FS.kp bS (qa0 (pv 1) qa2))))
    (qk1 (qg9 (qe6 (pcN GR hr hR FR.kp bR (qa0 (pv 3) qa2))))
    (qi8 (qg9 (qe6 (pcN GN kH hN FN.kp bN (qa0 (pv 2) (qa0 (qa7 qa9 (by rfl) B.len ZM (qa0 (pv 3) qa2)) qa2)))))))).pt (qa8 (qb0 qo7)) qb6)
   (qa8 (qb0 (qg3 qC5 (pxN qd7 (pcN GD jF hD FD.kp bD (qa0 (pv 3) qa2)) (pv 2)) (pv 1) (qb7 _)))))),?_⟩
  refine⟨_,rfl,_,_,_,_,true,rfl,rfl,.inl (.tup ht),rfl,_,rfl,iteF ⟨_,rfl,t,_,rfl,.inr (SqT.of ht),rfl,_,rfl,iteF ?_⟩⟩;refine⟨_,rfl,t,_,rfl,SqT.of ht,rfl,_,_,rfl,_,_,rfl,_,_,rfl,rfl,?_⟩;refine⟨_,rfl,n,rfl,hn,_,rfl,iteF ⟨_,rfl,p,rows,rfl,jN,ok,hl,λH2 s2=>⟨_,rfl,iteF ?_⟩⟩⟩;obtain⟨bs,hp,j9,jA⟩:=id jN;refine⟨_,rfl,_,rfl,p,_,rfl,.inr (SqT.of (s2 _ _ hp)),tp,rows.length,by rw[Ze,j9];rfl,jO,_,rfl,iteF ?_⟩;refine⟨_,rfl,p,rows,rfl,jN.same s2,ok,hl,λH3 D s3 k6=>?_⟩;refine⟨_,rfl,D,_,(tp:Int),.int (dp rows tp:Nat),rfl,rfl,SqL.of k6,qs3 (qO5 jO),_,rfl,_,_,rfl,rfl,?_⟩;show Q (V.bl (decide ((dp rows tp:Int)<=(n:Int)))) H3;rw[Zl (by lia)];exact q H3 (s2.trans s3)
end
def xw7 (H:Hp) (t:Addr) (n top:Nat) (rows:List Row):Prop:=TellAt H t n top rows/\Canon n top rows/\rows.length<=900
def keyN (r:List Nat):List Key:=r.map λn:Nat=>Sum.inl (n:Int)
theorem qs4 (r:List Nat):(keyN r).map kV=vN r:=by unfold keyN vN;rw[Ym];rfl
theorem qo3 {l m:List Nat}(h:keyN l=keyN m):l=m:=by
 have:vN l=vN m:=by rw[<- qs4,<- qs4,h]
 rw[qw1,qw1] at this;exact qI8 ((Vx (λ_ _ z=>V.int.inj z)).mp this)
theorem qE6 {rows:List Row}(h:rows.Nodup):(rows.map keyN).Nodup:=by
 rw[nd_iff] at h ⊢;intro i j jT hj z;rw[Ze] at hj;refine h i j jT hj ?_;rw[Zb,Zb,Zc (by lia),Zc hj] at z;rw[Zc (by lia),Zc hj];congr 1;exact qo3 (Zv z)
theorem qE7 (ns:List Int):PyData.depthAll (ns.map PyData.int)<=1:=by
 induction ns with
 |nil=>simp[PyData.depthAll]
 |cons a ns ih=>
  rw[ZC];simp only[PyData.depthAll,PyData.depth];lia
theorem qX6 (ns:List Int):(dL ns).depth<=2:=by
 have:=qE7 ns;unfold dL;simp only[PyData.depth];lia
theorem xl2 (ns:List Int):(dT ns).depth<=2:=by
 have:=qE7 ns;unfold dT;simp only[PyData.depth];lia
section
variable {P:Program}{w:World}{K:PySem.W.Frag}{mg:Str->Option Value}{base:Heap}
theorem scShape:FnScope ["thing", "top", "rows"] ["thing"] (qa4 qO2):=qd9
end
end Pr
namespace L2
open PySem
theorem xl3 {α:Type}{i1 i2:BEq α}(h1:@LawfulBEq α i1) (h2:@LawfulBEq α i2):i1=i2:=by
 have:∀a b,@BEq.beq α i1 a b=@BEq.beq α i2 a b:=λa b=>by
  rw[Yn,@Y1 α i1 h1,@Y1 α i2 h2]
 cases i1;cases i2;congr 1;funext a b;exact this a b
structure PEb (X:Cx) (e:Expr) (t:TE):Prop where
 go:PE X e t
structure PSb (X:Cx) (st:Stmt) (t:TS):Prop where
 go:PS X st t
inductive StB (X:Cx):List Stmt->TS->Prop
 |one {st:Stmt}{t:TS}(h:PSb X st t):StB X [st] t
 |cons {st:Stmt}{rest:List Stmt}{t u:TS}(h:PSb X st t) (r:StB X rest u):StB X (st::rest) (tSeq t u)
theorem StB.go {X:Cx}:∀{l:List Stmt}{t:TS},StB X l t->PSs X l t
 |_,_,.one h=>qa8 h.go
 |_,_,.cons h r=>qb9 h.go r.go
theorem seqE {X:Cx}{st:Stmt}{rest:List Stmt}{R:TS->Prop}(h:∃t,PSb X st t/\∃u,PSs X rest u/\R (tSeq t u)):∃t,PSs X (st::rest) t/\R t:=by
 obtain⟨t,h1,u,h2,h3⟩:=h;exact⟨_,qb9 h1.go h2,h3⟩
theorem qh3 {X:Cx}{st:Stmt}{R:TS->Prop}(h:∃t,PSb X st t/\R t):∃t,PSs X [st] t/\R t:=by
 obtain⟨t,h1,h3⟩:=h;exact⟨_,qa8 h1.go,h3⟩
inductive Ars2 (X:Cx):List Expr->TA->Prop
 |nil:Ars2 X [] tNil
 |cons {e:Expr}{es:List Expr}{te:TE}{t:TA}(h:PEb X e te) (r:Ars2 X es t) (hs:starEach (e::es) X.env=(false,eval e X.env)::starEach es X.env):Ars2 X (e::es) (xA8 te t)
theorem Ars2.go {X:Cx}:∀{es:List Expr}{t:TA},Ars2 X es t->PA X es t
 |_,_,.nil=>qa2
 |_,_,.cons h r hs=>qa0 h.go r.go hs
theorem qE8 {X:Cx}{T id:String}{name:Str}{r:V->List V->Hp->VK->Prop}{o e:Expr}{es:List Expr}{to:TE}{t:TA}{apos cpos:Pos}(pa:PlainAttrs T) (slot:Slot T name id) (hty:typeOf (.builtin id)=pure (.type "method_descriptor")) (hm:MtR X id r) (ho:PEb X o to) (ha:Ars2 X (e::es) t)
  (hbase:attributeBase o name X.env (eval o X.env)=eval o X.env:=by rfl)
  (hfew:((backTo cpos (starEach (e::es) X.env)).all (λx=>!x.1)&&(backToKw cpos (keywordEach [] X.env)).all (λx=>x.1.isSome)
   && decide ((e::es).length+([]:List Keyword).length+(if ([]:List Keyword).isEmpty then 0 else 1)<30))=true:=by rfl)
  (hline:(apos.endLine==cpos.line)=true:=by rfl) (hs:starEach (e::es) X.env=(false,eval e X.env)::starEach es X.env:=by rfl) (hplain:(backTo cpos (starEach es X.env)).any (·.1)=false:=by rfl) :
  PEb X (.Call (.Attribute o name apos) (e::es) [] cpos) (tBM X.K T r to t):=⟨q14 pa slot hty hm ho.go ha.go hbase hfew hline hs hplain⟩
inductive Prs (X:Cx) (pos:Pos):List (Option Expr)->List Expr->List (TE×TE)->Prop
 |nil:Prs X pos [] [] []
 |cons {k v:Expr}{ks:List (Option Expr)}{vs:List Expr}{tk tv:TE}{trs:List (TE×TE)}(hk:PEb X k tk) (hv:PEb X v tv) (r:Prs X pos ks vs trs):Prs X pos (some k::ks) (v::vs) ((tk,tv)::trs)
theorem Prs.go {X:Cx}{pos:Pos}:∀{ks:List (Option Expr)}{vs:List Expr}{trs:List (TE×TE)},Prs X pos ks vs trs->PPs X pos ks vs trs
 |_,_,_,.nil=>xt8
 |_,_,_,.cons hk hv r=>xj0 hk.go hv.go r.go
theorem qX7 {X:Cx}{pos:Pos}{keys:List (Option Expr)}{values:List Expr}{trs:List (TE×TE)}(h:Prs X pos keys values trs) (jG:keys.all (·.isSome)=true) (hl:keys.length=values.length) (h0:keys≠[])
  (h15:keys.length<=15):PEb X (.Dict keys values pos) (xB5 trs):=⟨xt9 h.go jG hl h0 h15⟩
theorem qk0 {X:Cx}{i:Int}{j:Nat}{pos:Pos}:PEb X (.Constant (.int i) j pos) (tC (.int i)):=⟨qa6⟩
theorem xc6 {X:Cx}{i:Nat}{x:Str}{e:Expr}{te:TE}{pos pos':Pos}(hN:X.N.Nodup) (hi:X.N[i]?=some x) (hx:Loc X.env.scope x) (he:PEb X e te) (hs:swapsWith e (some (.Name x pos')) pos.line X.env=pure false) (hf:X.fn x=true) :
  PSb X (.Assign [.Name x pos'] e pos) (tAsg te (qg7 i)):=⟨xp1 hN hi hx he.go hs (.inl hf)⟩
end L2
namespace Pr
open PySem L2 Qf
def PurseAt (H:Hp) (p:Addr):Prop:=∃a b:Int,H p=some (.lst [.int a,.int b])/\0<=a/\0<=b/\b<2^40
theorem PurseAt.same {H H':Hp}{p:Addr}(h:PurseAt H p) (s:Same H H'):PurseAt H' p:=by
 obtain⟨a,b,e,r⟩:=h;exact⟨a,b,s _ _ e,r⟩
def RowsL (H:Hp) (p:Addr) (rows:List Row):Prop:=∃bs:List Addr,H p=some (.lst (bs.map V.ref))/\bs.length=rows.length/\∀(i:Nat) b r,bs[i]?=some b->rows[i]?=some r->H b=some (.tup (vN r))
theorem RowsL.same {H H':Hp}{p:Addr}{rows:List Row}(h:RowsL H p rows) (s:Same H H'):RowsL H' p rows:=by
 obtain⟨bs,h1,h2,h3⟩:=h;exact⟨bs,s _ _ h1,h2,λi b r e1 e2=>s _ _ (h3 i b r e1 e2)⟩
theorem qT2 {C:Nat->Prop}:∀{ys:List V},(∀(i:Nat) y,ys[i]?=some y->∃x:Nat,y=.int (x:Nat)/\C x)->∃r:List Nat,ys=vN r/\∀x∈r,C x
 |[],_=>⟨[],rfl,λx hx=>nomatch hx⟩
 |y::ys,h=>by
  obtain⟨x,rfl,hx⟩:=h 0 y rfl;obtain⟨r,rfl,hr⟩:=qT2 (C:=C) (ys:=ys) λi z hz=>h (i+1) z (by simpa using hz);refine⟨x::r,rfl,λz hz=>?_⟩;rcases ZB.mp hz with rfl|hz
  ·exact hx
  ·exact hr z hz
theorem qO8 {H:Hp}{n:Nat}{te:TE}{σ:St}{Fin:Hp->Prop}{D p:Addr}(hD:H D=none) (hpD:p≠D) (I:Hp->Prop) (Rel:Nat->V->Prop) (hsz:n<sizeLine) (i0:∀H2 o,I H2->I (upd H2 D o)) (hI:I H)
  (step:∀i H2,i<n->But p H H2->I H2->∀Q':VK,(∀y H3,But p H2 H3->I H3->Rel i y->Q' y H3)->te (some (.int (0+(i:Int)))::σ) H2 Q')
  (fin:∀ys H2,But p H H2->I H2->H2 D=some (.lst ys)->ys.length=n->(∀i y,ys[i]?=some y->Rel i y)->Fin H2) :
  ∃W:Nat->Nat->List V->Hp->Prop,(∃m,W 0 m [] (upd H D (.lst []))) /\
   ∀i m xs H2,W i m xs H2->H2 D=some (.lst xs)/\xs.length<sizeLine/\(((Itr 0 n).stop i H2/\Fin H2)\/((Itr 0 n).go i H2/\∀y H3,(Itr 0 n).yld i H2 y H3 ->
    te (some y::σ) H3 λv H4=>H4 D=some (.lst xs)/\∃m',m'<m/\W (i+1) m' (xs++[v]) (upd H4 D (.lst (xs++[v]))))):=by
 refine⟨λi m ys H2=>i<=n/\m=n-i/\ys.length=i/\H2 D=some (.lst ys)/\But p H H2/\I H2/\∀j y,ys[j]?=some y->Rel j y,⟨n,ZE _,rfl,rfl,qa1,But.of (qb1 hD),i0 _ _ hI,λj y h=>by simp at h⟩,?_⟩;rintro i m ys H2 ⟨hi,rfl,hl,hd,b2,i2,rel⟩;refine⟨hd,by lia,?_⟩;by_cases he:i=n
 ·subst he;exact .inl ⟨Zd i,fin ys H2 b2 i2 hd hl rel⟩
 ·refine .inr ⟨show i<n by lia,λy H3 hy=>?_⟩;obtain⟨e1,e2⟩:=hy;rw[e1,e2];refine step i H2 (by lia) b2 i2 _ λv H4 b4 i4 r4=>?_;refine⟨b4 _ _ hd (Yx hpD),n-(i+1),by lia,by lia,rfl,by rw[Zr,hl];rfl,qa1,?_,i0 _ _ i4,λj z hz=>?_⟩
  ·intro b o e nb;rw[qa5 (qa3 e hD)];exact b4 _ _ (b2 _ _ e nb) nb
  ·by_cases hj:j<i
   ·rw[Zh (by lia)] at hz;exact rel j z hz
   ·rw[Zi (by lia)] at hz;have:j-ys.length=0:=by
     have:=(gS_ hz).1;simp at this;lia
    rw[this] at hz;have:z=v:=by simpa using hz.symm
    subst this;have:j=i:=by lia
    subst this;exact r4
def tabl {α κ:Type}(key:α->κ) (l:List α) (k:Nat):List (κ×V):=(l.zipIdx k).map λp=>(key p.1,V.int (p.2:Nat))
section
variable {α κ:Type}[DecidableEq α] [DecidableEq κ]{key:α->κ}
theorem ql2 (l:List α) (k:Nat):(tabl key l k).length=l.length:=by simp[tabl]
theorem xc7 (a:α) (l:List α) (k:Nat):tabl key (a::l) k=(key a,V.int (k:Nat))::tabl key l (k+1):=by simp[tabl]
theorem qO9 (l:List α) (a:α) (k:Nat):tabl key (l++[a]) k=tabl key l k++[(key a,V.int (k+l.length:Nat))]:=by simp[tabl,List.zipIdx_append]
theorem ql3 (inj:∀a b,key a=key b->a=b) (a:α):∀(l:List α) (k:Nat),valV (tabl key l k) (key a)=if a∈l then some (.int (k+l.idxOf a:Nat)) else none
 |[],k=>by simp[tabl,valV]
 |b::l,k=>by
  rw[xc7];by_cases h:b=a
  ·subst h;rw[qf5 rfl,Zp Zu,List.idxOf_cons_self]
   rfl
  ·rw[qe3 (λz=>h (inj _ _ z)),ql3 inj a l (k+1)];by_cases hm:a∈l
   ·have e:(b::l).idxOf a=l.idxOf a+1:=by
     rw[List.idxOf_cons,beq_false_of_ne h]
     rfl
    rw[Zp hm,Zp (Zn _ hm),e];congr 3;lia
   ·rw[Zk hm,Zk (λz=>by rcases ZB.mp z with z|z;exact h z.symm;exact hm z)]
theorem qJ0 (inj:∀a b,key a=key b->a=b){l:List α}{a:α}{k:Nat}(h:a∉l):putK (tabl key l k) (key a) (.int (k+l.length:Nat))=tabl key (l++[a]) k:=by
 unfold putK;rw[qi1,ql3 inj,Zk h,Zk (by decide),qO9]
end
def fKey (p:Nat):Key:=Sum.inl ((p+2:Nat):Int)
theorem qs5 (a b:Nat) (h:fKey a=fKey b):a=b:=by
 have:((a+2:Nat):Int)=((b+2:Nat):Int):=X7 h;lia
def fK (es:List Nat):List (Key×V):=tabl fKey es 2
theorem RowsL.but {H H':Hp}{p e:Addr}{rows:List Row}{o:HO}(h:RowsL H p rows) (b:But e H H') (kC:p≠e) (he:H e=some o) (no:∀u,o≠.tup u):RowsL H' p rows:=by
 obtain⟨bs,h1,h2,h3⟩:=h;exact⟨bs,b _ _ h1 kC,h2,λi c r e1 e2=>b.tups he no _ _ (h3 i c r e1 e2)⟩
theorem xD7 {es:List Nat}{i:Nat}{kv:Key×V}(h:(fK es)[i]?=some kv):∃p,es[i]?=some p/\kv.1=fKey p:=by
 unfold fK tabl at h;rw[Zb] at h;obtain⟨p,hp,rfl⟩:=Zj.mp h;rw[W4] at hp;obtain⟨r,hr,rfl⟩:=Zj.mp hp;exact⟨r,hr,rfl⟩
def ql4:List (Key×V):=[(Sum.inl 0,.int 0),(Sum.inl 1,.int 1)]
theorem qX8 (p:Nat):valV ql4 (fKey p)=none:=by
 unfold ql4 fKey;rw[qe3 (λz=>by have:=X7 z;lia),qe3 (λz=>by have:=X7 z;lia)]
 rfl
theorem qA6 {κ:Type}[DecidableEq κ] (a b:List (κ×V)) (k:κ):valV (a++b) k=(valV a k).or (valV b k):=by
 unfold valV;rw[List.find?_append];cases List.find? (λkv=>decide (kv.1=k)) a<;>rfl
theorem xq5 {es:List Nat}{q:Nat}(h:InE es q):valV (ql4++fK es) (Sum.inl (q:Int))=some (.int (nm es q:Nat)):=by
 by_cases z:q<2
 ·rw[qj2 z]
  match q,z with
  |0,_=>rfl
  |1,_=>rfl
 ·have hm:=h.resolve_left z;have ek:(Sum.inl (q:Int):Key)=fKey (q-2):=by
   show (Sum.inl (q:Int):Key)=Sum.inl ((q-2+2:Nat):Int);rw[show q-2+2=q by lia]
  rw[ek,qA6,qX8,qg6 z];show valV (tabl fKey es 2) _=_;rw[ql3 qs5,Zp hm];congr 3;lia
def qp9 (n top:Nat) (rows:List Row):PyData:=.tuple [.int (n:Nat),.int (top:Nat),.tuple (rows.map λr=>dT (r.map λx:Nat=>(x:Int)))]
theorem qk6 {H:Hp}:∀{bs:List Addr}{rows:List Row},bs.length=rows.length->(∀(i:Nat) b r,bs[i]?=some b->rows[i]?=some r->H b=some (.tup (vN r))) ->
  DatasAt H (bs.map V.ref) (rows.map λr=>dT (r.map λx:Nat=>(x:Int)))
 |[],[],_,_=>.nil
 |b::bs,r::rows,hl,h=>by
  refine .cons ?_ (qk6 (by simpa using hl) λi c q e1 e2=>h (i+1) c q (by simpa using e1) (by simpa using e2));have h0:=h 0 b r rfl rfl;rw[qw1] at h0;exact .tup h0 (DatasAt.ints _)
theorem qf8 {H:Hp}{t:Addr}{n top:Nat}{rows:List Row}(h:TellAt H t n top rows):DataAt H (.ref t) (qp9 n top rows):=by
 obtain⟨p,ht,bs,hp,hl,hr⟩:=h;exact .tup ht (.cons (.int _) (.cons (.int _) (.cons (.tup hp (qk6 hl hr)) .nil)))
theorem qs6:∀rows:List Row,PyData.canLayAll0 (rows.map λr=>dT (r.map λx:Nat=>(x:Int)))=true
 |[]=>rfl
 |r::rows=>by
  rw[ZC,PyData.canLayAll0,qV3,qs6 rows];rfl
theorem qi3 (n top:Nat) (rows:List Row):(qp9 n top rows).canLay0=true:=by
 unfold qp9;simp only[PyData.canLay0,PyData.canLayAll0,qs6 rows,VG]
theorem qE9:∀ns:List Int,PyData.depthAll (ns.map PyData.int)=0
 |[]=>rfl
 |n::ns=>by rw[ZC,PyData.depthAll,qE9 ns];rfl
theorem qu9:∀rows:List Row,PyData.depthAll (rows.map λr=>dT (r.map λx:Nat=>(x:Int)))<=1
 |[]=>by decide
 |r::rows=>by
  have:=qu9 rows;have e:(dT (r.map λx:Nat=>(x:Int))).depth=1:=by
   show PyData.depthAll _+1=1;rw[qE9]
  rw[ZC,PyData.depthAll,e];lia
theorem qi6 (n top:Nat) (rows:List Row):(qp9 n top rows).depth<=60:=by
 have:=qu9 rows;show max _ (max _ (max (PyData.depthAll _+1) _))+1<=60;have e1:(PyData.int (n:Int)).depth=0:=rfl;have e2:(PyData.int (top:Int)).depth=0:=rfl;have e3:PyData.depthAll []=0:=rfl;rw[e1,e2,e3];lia
theorem qJ1 (n top:Nat) (rows:List Row):PyData.eqv (qp9 n top rows) (qp9 n top rows)=true:=PySem.SeqAt.eqv_refl _ (qi3 n top rows)
theorem qJ2 (cs:List Addr) (t:Addr):cs.map V.ref++[.ref t]=(cs++[t]).map V.ref:=by rw[ZW];rfl
def ql9 (rows:List Row):List PyData:=rows.map λr=>dT (r.map λx:Nat=>(x:Int))
theorem xc8 (m:List Row):PyData.eqv (.list (ql9 m)) (.list [])=m.isEmpty:=by
 cases m with
 |nil=>rfl
 |cons a l=>simp[ql9,PyData.eqv,PyData.eqvAll]
theorem qv0 {H:Hp}{p:Addr}{rows:List Row}(h:RowsL H p rows):DataAt H (.ref p) (.list (ql9 rows)):=by
 obtain⟨bs,hp,hl,hr⟩:=h;exact .lst hp (qk6 hl hr)
theorem qq0 (rows:List Row):(PyData.list (ql9 rows)).depth<=60:=by
 have:=qu9 rows;show PyData.depthAll _+1<=60;unfold ql9;lia
def tK (rows:List Row):List (List Key×V):=tabl keyN rows 2
theorem xl4 {α:Type}{i1 i2:BEq α}(h1:@LawfulBEq α i1) (h2:@LawfulBEq α i2) (l:List α) (a:α):@List.idxOf α i1 a l=@List.idxOf α i2 a l:=by
 cases xl3 h1 h2
 rfl
theorem xc9 (rows:List Row) (r:Row):valV (tK rows) (keyN r)=if r∈rows then some (.int (rows.idxOf r+2:Nat)) else none:=by
 unfold tK;rw[ql3 (λa b=>qo3)];split
 ·rw[Nat.add_comm];exact Yt (λn:Nat=>some (V.int ((n+2:Nat):Int))) (xl4 (by infer_instance) (by infer_instance) _ _)
 ·rfl
end Pr
namespace L2
open PySem PySem.Spec PyProof.Rows PySem.W
section
variable {X:Cx}{st:Stmt}{rest:List Stmt}{t u:TS}
def xD8 (t u:TS):TS:=λD σ H=>∃I:St->Hp->Prop,t { D with nx:=I } σ H/\∀σ' H',I σ' H'->u D σ' H'
theorem xd0 (h1:PS X st t) (h2:PSs X rest u):PSs X (st::rest) (xD8 t u):=by
 intro j8 s σ H D I ⟨J,h,hJ⟩;refine wpAny_execs_cons (thn (h1 j8 s σ H { D with nx:=J } I h) λf s1 q=>?_);cases f with
 |next=>
  obtain⟨σ',H',I',q⟩:=q;exact h2 j8 s1 σ' H' D I' (hJ σ' H' q)
 |ret v=>exact q
 |brk=>exact q
 |cont=>exact q
end
section
variable {X:Cx}{e:Expr}{te:TE}
end
end L2
namespace Pr
open PySem L2 Qf
inductive StI (X:Cx):List Stmt->TS->Prop
 |one {st:Stmt}{t:TS}(h:PSb X st t):StI X [st] t
 |cons {st:Stmt}{rest:List Stmt}{t u:TS}(h:PSb X st t) (r:StI X rest u):StI X (st::rest) (tSeq t u)
 |consI {st:Stmt}{rest:List Stmt}{t u:TS}(h:PSb X st t) (r:StI X rest u):StI X (st::rest) (xD8 t u)
theorem StI.go {X:Cx}:∀{l:List Stmt}{t:TS},StI X l t->PSs X l t
 |_,_,.one h=>qa8 h.go
 |_,_,.cons h r=>qb9 h.go r.go
 |_,_,.consI h r=>xd0 h.go r.go
end Pr
namespace Qf
inductive Tr
 |z|o|nd (a b c d:Tr) deriving DecidableEq
namespace Tr
def kids:Tr->List Tr
 |nd a b c d=>[a,b,c,d]
 |_=>[]
def dep:Tr->Nat
 |nd a b c d=>1+mx [dep a,dep b,dep c,dep d]
 |_=>0
def Red:Tr->Prop
 |nd a b c d=>¬(a=z/\b=z/\c=z/\d=z)/\¬(a=o/\b=o/\c=o/\d=o)/\Red a/\Red b/\Red c/\Red d
 |_=>True
def post:Tr->List Tr->List Tr
 |nd a b c d,e=>if nd a b c d∈e then e else post d (post c (post b (post a e)))++[nd a b c d]
 |_,e=>e
def In (L:List Tr) (t:Tr):Prop:=t=z\/t=o\/t∈L
theorem In.app {L s:List Tr}{t:Tr}(h:In L t):In (L++s) t:=h.imp id λh=>h.imp id λh=>X8 _ h
structure Ord (L:List Tr):Prop where
 nd:L.Nodup
 ch:∀(i:Nat) t,L[i]?=some t->(∃a b c d,t=.nd a b c d)/\∀s∈kids t,s=z\/s=o\/∃j:Nat,j<i/\L[j]?=some s
theorem ord_nil:Ord []:=⟨Vq,λi t h=>by simp at h⟩
theorem post_ext:∀(t:Tr) (e:List Tr),∃s,post t e=e++s
 |z,e=>⟨[],by simp[post]⟩
 |o,e=>⟨[],by simp[post]⟩
 |nd a b c d,e=>by
  unfold post;split
  ·exact⟨[],by simp⟩
  ·obtain⟨s1,h1⟩:=post_ext a e;obtain⟨s2,h2⟩:=post_ext b (post a e);obtain⟨s3,h3⟩:=post_ext c (post b (post a e));obtain⟨s4,h4⟩:=post_ext d (post c (post b (post a e)));exact⟨s1++s2++s3++s4++[nd a b c d],by rw[h4,h3,h2,h1];simp⟩
theorem In.post {L:List Tr}{t:Tr}(s:Tr) (h:In L t):In (post s L) t:=by
 obtain⟨u,e⟩:=post_ext s L;rw[e];exact h.app
theorem qj5:∀(t:Tr) (e:List Tr) (s:Tr),s∈post t e->s∈e\/sizeOf s<=sizeOf t
 |z,e,s,h=>.inl h
 |o,e,s,h=>.inl h
 |nd a b c d,e,s,h=>by
  unfold post at h;split at h
  ·exact .inl h
  ·have sz:sizeOf (nd a b c d)=1+sizeOf a+sizeOf b+sizeOf c+sizeOf d:=by simp
   rcases Z6.mp h with h|h
   ·rcases qj5 d _ s h with h|h
    ·rcases qj5 c _ s h with h|h
     ·rcases qj5 b _ s h with h|h
      ·rcases qj5 a _ s h with h|h
       ·exact .inl h
       ·exact .inr (by lia)
      ·exact .inr (by lia)
     ·exact .inr (by lia)
    ·exact .inr (by lia)
   ·have:s=nd a b c d:=by simpa using h
    rw[this];exact .inr (Zd _)
theorem not_below {a b c d:Tr}{e:List Tr}(h:nd a b c d∉e):nd a b c d∉post d (post c (post b (post a e))):=λh2=>by
 have sz:sizeOf (nd a b c d)=1+sizeOf a+sizeOf b+sizeOf c+sizeOf d:=by simp
 rcases qj5 d _ _ h2 with h2|h2
 ·rcases qj5 c _ _ h2 with h2|h2
  ·rcases qj5 b _ _ h2 with h2|h2
   ·rcases qj5 a _ _ h2 with h2|h2
    ·exact h h2
    ·lia
   ·lia
  ·lia
 ·lia
theorem post_ord:∀(t:Tr) (e:List Tr),Ord e->Ord (post t e)/\In (post t e) t
 |z,e,h=>⟨h,.inl rfl⟩
 |o,e,h=>⟨h,.inr (.inl rfl)⟩
 |nd a b c d,e,h=>by
  unfold post;split
  ·rename_i hm;exact⟨h,.inr (.inr hm)⟩
  ·rename_i hm;obtain⟨o1,i1⟩:=post_ord a e h;obtain⟨o2,i2⟩:=post_ord b _ o1;obtain⟨o3,i3⟩:=post_ord c _ o2;obtain⟨o4,i4⟩:=post_ord d _ o3;have i1:=((i1.post b).post c).post d;have i2:=(i2.post c).post d;have i3:=i3.post d;have nb:=not_below hm;generalize post d (post c (post b (post a e)))=L at o4 i1 i2 i3 i4 nb;refine⟨⟨?_,?_⟩,.inr (.inr (by simp))⟩
   ·rw[Xz];exact⟨o4.nd,by simp,λx hx y hy e=>nb (by
     have:y=nd a b c d:=by simpa using hy
     rw[<- this,<- e];exact hx)⟩
   ·intro i t ht;by_cases hi:i<L.length
    ·rw[Zh hi] at ht;obtain⟨h1,h2⟩:=o4.ch i t ht;refine⟨h1,λs hs=>(h2 s hs).imp id λh=>h.imp id λ⟨j,hj,e⟩=>⟨j,hj,?_⟩⟩;rw[Zh (by lia)];exact e
    ·have j9:=(gS_ ht).1;rw[Zr] at j9;have vE:i=L.length:=by simp at j9;lia
     subst vE;have et:t=nd a b c d:=by simpa using ht.symm
     subst et;refine⟨⟨a,b,c,d,rfl⟩,λs hs=>?_⟩;have jJ:In L s:=by
      have:s=a\/s=b\/s=c\/s=d:=by simpa [kids] using hs
      rcases this with rfl|rfl|rfl|rfl<;>assumption
     refine jJ.imp id λh=>h.imp id λhm=>?_;obtain⟨j,hj,e⟩:=ZK.mp hm;exact⟨j,hj,by rw[Zh hj,Zc hj,e]⟩
def name (L:List Tr):Tr->Nat
 |z=>0
 |o=>1
 |t=>L.idxOf t+2
def rowsOf (L:List Tr):List Row:=L.map λt=>(kids t).map (name L)
theorem qA7 (L:List Tr) (a b c d:Tr):name L (.nd a b c d)=L.idxOf (.nd a b c d)+2:=rfl
theorem name_at {L:List Tr}(h:Ord L){i:Nat}{t:Tr}(e:L[i]?=some t):name L t=i+2:=by
 obtain⟨⟨a,b,c,d,rfl⟩,_⟩:=h.ch i t e;rw[qA7];congr 1;have hl:=(gS_ e).1;have he:=(gS_ e).2;rw[<- he];exact h.nd.idxOf_getElem i hl
theorem name_in {L:List Tr}(h:Ord L){t:Tr}(hi:In L t):(t=z/\name L t=0)\/(t=o/\name L t=1)\/∃i:Nat,L[i]?=some t/\name L t=i+2:=by
 rcases hi with rfl|rfl|hm
 ·exact .inl ⟨rfl,rfl⟩
 ·exact .inr (.inl ⟨rfl,rfl⟩)
 ·obtain⟨j,hj,e⟩:=ZK.mp hm;have e':L[j]?=some t:=by rw[Zc hj,e]
  exact .inr (.inr ⟨j,e',name_at h e'⟩)
theorem xl5 {L:List Tr}(h:Ord L){s t:Tr}(hs:In L s) (ht:In L t) (e:name L s=name L t):s=t:=by
 rcases name_in h hs with ⟨rfl,e1⟩|⟨rfl,e1⟩|⟨i,e0,e1⟩
 ·rcases name_in h ht with ⟨rfl,e2⟩|⟨rfl,e2⟩|⟨j,e3,e2⟩
  ·rfl
  ·lia
  ·lia
 ·rcases name_in h ht with ⟨rfl,e2⟩|⟨rfl,e2⟩|⟨j,e3,e2⟩
  ·lia
  ·rfl
  ·lia
 ·rcases name_in h ht with ⟨rfl,e2⟩|⟨rfl,e2⟩|⟨j,e3,e2⟩
  ·lia
  ·lia
  ·have:i=j:=by lia
   subst this;rw[e0] at e3;exact Zv e3
theorem name_app {L s:List Tr}{t:Tr}(h:In L t) (hz:Ord L):name (L++s) t=name L t:=by
 rcases name_in hz h with ⟨rfl,_⟩|⟨rfl,_⟩|⟨i,e,_⟩
 ·rfl
 ·rfl
 ·obtain⟨⟨a,b,c,d,rfl⟩,_⟩:=hz.ch i t e;rw[qA7,qA7,VE,Zp (Zm e)]
theorem kid_in {L:List Tr}(h:Ord L){i:Nat}{t s:Tr}(e:L[i]?=some t) (hs:s∈kids t):In L s/\name L s<i+2:=by
 rcases (h.ch i t e).2 s hs with rfl|rfl|⟨j,hj,e2⟩
 ·exact⟨.inl rfl,by show 0<_;lia⟩
 ·exact⟨.inr (.inl rfl),by show 1<_;lia⟩
 ·exact⟨.inr (.inr (Zm e2)),by rw[name_at h e2];lia⟩
theorem rowsOf_len (L:List Tr):(rowsOf L).length=L.length:=by simp[rowsOf]
theorem rowsOf_at {L:List Tr}{i:Nat}{t:Tr}(e:L[i]?=some t):(rowsOf L)[i]?=some ((kids t).map (name L)):=by
 unfold rowsOf;rw[Zb,e];rfl
theorem qv1 {L:List Tr}{i:Nat}{r:Row}(e:(rowsOf L)[i]?=some r):∃t,L[i]?=some t/\r=(kids t).map (name L):=by
 unfold rowsOf at e;rw[Zb] at e;obtain⟨t,h1,h2⟩:=Zj.mp e;exact⟨t,h1,h2.symm⟩
theorem rowsOf_ok {L:List Tr}(h:Ord L):qb2 (rowsOf L):=λp r hp=>by
 obtain⟨t,ht,rfl⟩:=qv1 hp;obtain⟨⟨a,b,c,d,rfl⟩,_⟩:=h.ch p t ht;refine⟨rfl,λx hx=>?_⟩;obtain⟨s,hs,rfl⟩:=ZR.mp hx;exact (kid_in h ht hs).2
theorem qn1 {L:List Tr}(h:Ord L):∀{k l:List Tr},(∀s∈k,In L s)->(∀s∈l,In L s)->k.map (name L)=l.map (name L)->k=l
 |[],[],_,_,_=>rfl
 |[],_::_,_,_,e=>by simp at e
 |_::_,[],_,_,e=>by simp at e
 |a::k,b::l,h1,h2,e=>by
  simp only[ZC,YW] at e;rw[xl5 h (h1 a Zu) (h2 b Zu) e.1,qn1 h (λs hs=>h1 s (Zn _ hs)) (λs hs=>h2 s (Zn _ hs)) e.2]
theorem qX9 {s t:Tr}(hs:∃a b c d,s=.nd a b c d) (ht:∃a b c d,t=.nd a b c d) (e:kids s=kids t):s=t:=by
 obtain⟨a,b,c,d,rfl⟩:=hs;obtain⟨a',b',c',d',rfl⟩:=ht;simpa [kids] using e
theorem rowsOf_nodup {L:List Tr}(h:Ord L):(rowsOf L).Nodup:=by
 rw[nd_iff];intro i j jT hj e;rw[rowsOf_len] at hj;have ei:L[i]?=some L[i]:=Zc (by lia);have ej:L[j]?=some L[j]:=Zc hj;rw[rowsOf_at ei,rowsOf_at ej] at e;have:=qX9 (h.ch i _ ei).1 (h.ch j _ ej).1 (qn1 h (λs hs=>(kid_in h ei hs).1) (λs hs=>(kid_in h ej hs).1) (Zv e));have h2:=nd_iff.mp h.nd i j jT hj;rw[ei,ej] at h2;exact h2 (by rw[this])
end Tr
open Tr
def tr (rows:List Row):Nat->Nat->Tr
 |0,x=>if x=1 then .o else .z
 |d+1,x=>if x=0 then .z else if x=1 then .o else .nd (tr rows d ((rows.getD (x-2) []).getD 0 0)) (tr rows d ((rows.getD (x-2) []).getD 1 0)) (tr rows d ((rows.getD (x-2) []).getD 2 0)) (tr rows d ((rows.getD (x-2) []).getD 3 0))
theorem qA8 (rows:List Row) (d:Nat):tr rows d 0=.z:=by cases d<;>rfl
theorem qP0 (rows:List Row) (d:Nat):tr rows d 1=.o:=by cases d<;>rfl
theorem qn2 {r:Row}(h:r.length=4):∃a b c d,r=[a,b,c,d]:=by
 match r,h with
 |[a,b,c,d],_=>exact⟨a,b,c,d,rfl⟩
theorem xd1 {rows:List Row}{d p a b c e:Nat}(hp:rows[p]?=some [a,b,c,e]):tr rows (d+1) (p+2)=.nd (tr rows d a) (tr rows d b) (tr rows d c) (tr rows d e):=by
 have:rows.getD p []=[a,b,c,e]:=by rw[Zx,hp];rfl
 show (if p+2=0 then _ else if p+2=1 then _ else _)=_;rw[Zk (by lia),Zk (by lia),show p+2-2=p by lia,this]
 rfl
theorem qp0 {rows:List Row}(ok:qb2 rows){x:Nat}(hx:x<rows.length+2) (h:¬x<2):∃p a b c d,x=p+2/\rows[p]?=some [a,b,c,d]:=by
 have hp:x-2<rows.length:=by lia
 have hg:rows[x-2]?=some rows[x-2]:=Zc hp;obtain⟨a,b,c,d,e⟩:=qn2 (ok _ _ hg).1;exact⟨x-2,a,b,c,d,by lia,by rw[hg,e]⟩
theorem qs7 {rows:List Row}(ok:qb2 rows):∀(d d' x:Nat),dp rows x<=d->dp rows x<=d'->x<rows.length+2->tr rows d x=tr rows d' x:=by
 intro d
 induction d with
 |zero=>
  intro d' x h1 h2 hx;have x2:=qw2 ok hx h1
  match x,x2 with
  |0,_=>rw[qA8,qA8]
  |1,_=>rw[qP0,qP0]
 |succ d ih=>
  intro d' x h1 h2 hx;by_cases x2:x<2
  ·match x,x2 with
   |0,_=>rw[qA8,qA8]
   |1,_=>rw[qP0,qP0]
  ·obtain⟨p,a,b,c,e,rfl,hp⟩:=qp0 ok hx x2
   match d',h2 with
   |0,h2=>exact absurd (qw2 ok hx h2) x2
   |d'+1,h2=>
    have q:=λy (hy:y∈[a,b,c,e])=>qh2 ok hp h1 hy;have q':=λy (hy:y∈[a,b,c,e])=>qh2 ok hp h2 hy;rw[xd1 hp,xd1 hp,ih d' a (q a (by simp)).2 (q' a (by simp)).2 (q a (by simp)).1,ih d' b (q b (by simp)).2 (q' b (by simp)).2 (q b (by simp)).1,ih d' c (q c (by simp)).2 (q' c (by simp)).2 (q c (by simp)).1,ih d' e (q e (by simp)).2 (q' e (by simp)).2 (q e (by simp)).1]
def T (rows:List Row) (x:Nat):Tr:=tr rows (dp rows x) x
theorem qj3 (rows:List Row):T rows 0=.z:=qA8 _ _
theorem qq1 (rows:List Row):T rows 1=.o:=qP0 _ _
theorem qs8 {rows:List Row}(ok:qb2 rows){p a b c e:Nat}(hp:rows[p]?=some [a,b,c,e]):T rows (p+2)=.nd (T rows a) (T rows b) (T rows c) (T rows e):=by
 have jS:=(gS_ hp).1;obtain⟨d,hd⟩:∃d,dp rows (p+2)=d+1:=⟨_,by rw[qp8 ok hp];exact Nat.add_comm _ _⟩;have q:=λy (hy:y∈[a,b,c,e])=>qh2 ok hp (WE hd) hy;unfold T;rw[hd,xd1 hp,qs7 ok d _ a (q a (by simp)).2 (Zd _) (q a (by simp)).1,qs7 ok d _ b (q b (by simp)).2 (Zd _) (q b (by simp)).1,qs7 ok d _ c (q c (by simp)).2 (Zd _) (q c (by simp)).1,qs7 ok d _ e (q e (by simp)).2 (Zd _) (q e (by simp)).1]
theorem xK2 {rows:List Row}(ok:qb2 rows) (nd:rows.Nodup):∀(d x y:Nat),dp rows x<=d->x<rows.length+2->y<rows.length+2->T rows x=T rows y->x=y:=by
 intro d;have low:∀x y,x<2->y<rows.length+2->T rows x=T rows y->x=y:=λx y x2 hy e=>by
  by_cases y2:y<2
  ·match x,y,x2,y2 with
   |0,0,_,_=>rfl
   |1,1,_,_=>rfl
   |0,1,_,_=>rw[qj3,qq1] at e;cases e
   |1,0,_,_=>rw[qj3,qq1] at e;cases e
  ·obtain⟨p,a,b,c,f,rfl,hp⟩:=qp0 ok hy y2;rw[qs8 ok hp] at e
   match x,x2 with
   |0,_=>rw[qj3] at e;cases e
   |1,_=>rw[qq1] at e;cases e
 induction d with
 |zero=>exact λx y h hx hy e=>low x y (qw2 ok hx h) hy e
 |succ d ih=>
  intro x y h hx hy e;by_cases x2:x<2
  ·exact low x y x2 hy e
  ·by_cases y2:y<2
   ·exact (low y x y2 hx e.symm).symm
   ·obtain⟨p,a,b,c,f,rfl,hp⟩:=qp0 ok hx x2;obtain⟨p',a',b',c',f',rfl,hp'⟩:=qp0 ok hy y2;rw[qs8 ok hp,qs8 ok hp'] at e;have q:=λy (hy:y∈[a,b,c,f])=>qh2 ok hp h hy;have q':∀y∈[a',b',c',f'],y<rows.length+2:=λy hy=>by
     have:=(ok _ _ hp').2 y hy;have:=(gS_ hp').1;lia
    injection e with e1 e2 e3 e4
    have h1:=ih a a' (q a (by simp)).2 (q a (by simp)).1 (q' a' (by simp)) e1;have h2:=ih b b' (q b (by simp)).2 (q b (by simp)).1 (q' b' (by simp)) e2;have h3:=ih c c' (q c (by simp)).2 (q c (by simp)).1 (q' c' (by simp)) e3;have h4:=ih f f' (q f (by simp)).2 (q f (by simp)).1 (q' f' (by simp)) e4;subst h1 h2 h3 h4;have:p=p':=by
     rcases WP p p' with z|z|z
     ·exact absurd (hp.trans hp'.symm) (nd_iff.mp nd p p' z (gS_ hp').1)
     ·exact z
     ·exact absurd (hp'.trans hp.symm) (nd_iff.mp nd p' p z (gS_ hp).1)
    rw[this]
def tau (rows:List Row) (p:Nat):Tr:=T rows (p+2)
theorem xw8 {rows:List Row}(ok:qb2 rows) (nd:rows.Nodup){e:List Nat}(pe:Post rows e){p:Nat}(hp:p<rows.length):tau rows p∈e.map (tau rows)<->p∈e:=by
 constructor
 ·intro h;obtain⟨q,hq,e2⟩:=ZR.mp h;have:=xK2 ok nd _ (q+2) (p+2) (Zd _) (by have:=pe.lt q hq;lia) (by lia) e2;have:q=p:=by lia
  rw[<- this];exact hq
 ·exact λh=>ZR.mpr ⟨p,h,rfl⟩
theorem qY0 {rows:List Row}(ok:qb2 rows) (nd:rows.Nodup):∀(d:Nat) (e:List Nat) (x:Nat),Post rows e->x<rows.length+2->dp rows x<=d->(dfs rows d e x).map (tau rows)=post (T rows x) (e.map (tau rows)):=by
 intro d
 induction d with
 |zero=>
  intro e x pe hx hd;have x2:=qw2 ok hx hd
  match x,x2 with
  |0,_=>rw[qj3];rfl
  |1,_=>rw[qq1];rfl
 |succ d ih=>
  intro e x pe hx hd;by_cases x2:x<2
  ·have:dfs rows (d+1) e x=e:=by
    show (if x<2\/x-2∈e then e else _)=e;rw[Zp (.inl x2)]
   rw[this]
   match x,x2 with
   |0,_=>rw[qj3];rfl
   |1,_=>rw[qq1];rfl
  ·obtain⟨p,a,b,c,f,rfl,hp⟩:=qp0 ok hx x2;have jS:=(gS_ hp).1;have hm:=xw8 ok nd pe jS;have hg:rows.getD p []=[a,b,c,f]:=by rw[Zx,hp];rfl
   have et:tau rows p=.nd (T rows a) (T rows b) (T rows c) (T rows f):=qs8 ok hp;rw[qs8 ok hp];show (if p+2<2\/p+2-2∈e then e else (rows.getD (p+2-2) []).foldl (dfs rows d) e++[p+2-2]).map (tau rows)=(if _∈e.map (tau rows) then _ else _);rw[show p+2-2=p by lia,<- et,hg];by_cases kC:p∈e
   ·rw[Zp (.inr kC),Zp (hm.mpr kC)]
   ·rw[Zk (by rintro (z|z);lia;exact kC z),Zk (λz=>kC (hm.mp z))];have q:=λy (hy:y∈[a,b,c,f])=>qh2 ok hp hd hy;obtain⟨qa,qa'⟩:=q a (by simp);obtain⟨qb,qb'⟩:=q b (by simp);obtain⟨qc,qc'⟩:=q c (by simp);obtain⟨qf,qf'⟩:=q f (by simp);have p1:=(qe7 ok d e a pe qa qa').1;have p2:=(qe7 ok d _ b p1 qb qb').1;have p3:=(qe7 ok d _ c p2 qc qc').1;show (dfs rows d (dfs rows d (dfs rows d (dfs rows d e a) b) c) f++[p]).map (tau rows)=_;rw[ZW,ih _ f p3 qf qf',ih _ c p2 qc qc',ih _ b p1 qb qb',ih _ a pe qa qa',et];show _++[tau rows p]=_;rw[et]
theorem q32 {n top:Nat}{rows:List Row}(c:Canon n top rows):rows=rowsOf (post (T rows top) [])/\top=name (post (T rows top) []) (T rows top):=by
 have h:=qY0 c.rok c.unlike n [] top (qg5 rows) c.inn c.deep;rw[c.ends] at h;have hord:Ord (post (T rows top) [])/\In (post (T rows top) []) (T rows top):=post_ord _ _ ord_nil;have hpost:post (T rows top) []=(List.range rows.length).map (tau rows):=h.symm;obtain⟨ho,hi⟩:=hord;generalize post (T rows top) []=L at ho hi hpost;have lat:∀p,p<rows.length->L[p]?=some (tau rows p):=λp hp=>by
  rw[hpost,Zb,Yc hp];rfl
 have hL:L.length=rows.length:=by rw[hpost];simp
 have nmq:∀q,q<rows.length+2->name L (T rows q)=q:=λq hq=>by
  by_cases q2:q<2
  ·match q,q2 with
   |0,_=>rw[qj3];rfl
   |1,_=>rw[qq1];rfl
  ·have:=name_at ho (lat (q-2) (by lia));unfold tau at this;rw[show q-2+2=q by lia] at this;exact this
 refine⟨?_,(nmq top c.inn).symm⟩;refine Xc λp=>?_;by_cases hp:p<rows.length
 ·have hg:rows[p]?=some rows[p]:=Zc hp;obtain⟨a,b,e,f,er⟩:=qn2 (c.rok p _ hg).1;rw[er] at hg;rw[hg,rowsOf_at (lat p hp)];have et:tau rows p=.nd (T rows a) (T rows b) (T rows e) (T rows f):=qs8 c.rok hg;have lt:∀y∈[a,b,e,f],y<rows.length+2:=λy hy=>by
   have:=(c.rok _ _ hg).2 y hy;lia
  rw[et];show some [a,b,e,f]=some [name L (T rows a),name L (T rows b),name L (T rows e),name L (T rows f)];rw[nmq a (lt a (by simp)),nmq b (lt b (by simp)),nmq e (lt e (by simp)),nmq f (lt f (by simp))]
 ·rw[Yb (by lia),Yb (by rw[rowsOf_len];lia)]
theorem qv2 {L:List Tr}(h:Ord L):∀t:Tr,In L t->dp (rowsOf L) (name L t)=dep t
 |.z,_=>qE1 (by decide:(0:Nat)<2)
 |.o,_=>qE1 (by decide:(1:Nat)<2)
 |.nd a b c d,hi=>by
  rcases name_in h hi with ⟨e,_⟩|⟨e,_⟩|⟨i,e,e2⟩
  ·cases e
  ·cases e
  ·have hk:=λs (hs:s∈kids (.nd a b c d))=>(kid_in h e hs).1;rw[e2,qp8 (rowsOf_ok h) (rowsOf_at e)];show 1+mx [_,_,_,_]=1+mx [dep a,dep b,dep c,dep d];rw[qv2 h a (hk a (by simp[kids])),qv2 h b (hk b (by simp[kids])),qv2 h c (hk c (by simp[kids])),qv2 h d (hk d (by simp[kids]))]
theorem qw3 {L:List Tr}(h:Ord L):∀t:Tr,In L t->T (rowsOf L) (name L t)=t
 |.z,_=>qj3 _
 |.o,_=>qq1 _
 |.nd a b c d,hi=>by
  rcases name_in h hi with ⟨e,_⟩|⟨e,_⟩|⟨i,e,e2⟩
  ·cases e
  ·cases e
  ·have hk:=λs (hs:s∈kids (.nd a b c d))=>(kid_in h e hs).1;rw[e2,qs8 (rowsOf_ok h) (rowsOf_at e),qw3 h a (hk a (by simp[kids])),qw3 h b (hk b (by simp[kids])),qw3 h c (hk c (by simp[kids])),qw3 h d (hk d (by simp[kids]))]
def qw4 (L:List Tr):Prop:=∀t∈L,Red t
theorem qs9:∀(t:Tr) (e:List Tr),Red t->qw4 e->qw4 (post t e)
 |.z,_,_,h=>h
 |.o,_,_,h=>h
 |.nd a b c d,e,hr,h=>by
  unfold post;split
  ·exact h
  ·have h4:=qs9 d _ hr.2.2.2.2.2 (qs9 c _ hr.2.2.2.2.1 (qs9 b _ hr.2.2.2.1 (qs9 a e hr.2.2.1 h)));intro s hs;rcases Z6.mp hs with hs|hs
   ·exact h4 s hs
   ·have:s=.nd a b c d:=by simpa using hs
    rw[this];exact hr
theorem qe5 {L:List Tr}{t:Tr}(h:name L t=0):t=.z:=by
 cases t with
 |z=>rfl
 |o=>cases h
 |nd a b c d=>rw[qA7] at h;lia
theorem qf9 {L:List Tr}{t:Tr}(h:name L t=1):t=.o:=by
 cases t with
 |z=>cases h
 |o=>rfl
 |nd a b c d=>rw[qA7] at h;lia
theorem qp1 {L:List Tr}(h:Ord L) (hr:qw4 L):∀r∈rowsOf L,¬qg8 r:=λr hm=>by
 obtain⟨i,hi,e⟩:=ZK.mp hm;obtain⟨t,ht,rfl⟩:=qv1 (i:=i) (r:=r) (by rw[Zc hi,e]);obtain⟨⟨a,b,c,d,rfl⟩,_⟩:=h.ch i t ht;have rd:=hr _ (Zm ht);rintro (z|z)
 ·have z':[name L a,name L b,name L c,name L d]=[0,0,0,0]:=z;simp only[YW,Vy] at z';exact rd.1 ⟨qe5 z'.1,qe5 z'.2.1,qe5 z'.2.2.1,qe5 z'.2.2.2⟩
 ·have z':[name L a,name L b,name L c,name L d]=[1,1,1,1]:=z;simp only[YW,Vy] at z';exact rd.2.1 ⟨qf9 z'.1,qf9 z'.2.1,qf9 z'.2.2.1,qf9 z'.2.2.2⟩
theorem qF0 {n:Nat}(hn:n<=12){t:Tr}(hr:Red t) (hd:dep t<=n):Canon n (name (post t []) t) (rowsOf (post t [])):=by
 obtain⟨ho,hi⟩:=post_ord t [] ord_nil;have hred:=qs9 t [] hr (λs hs=>nomatch hs);have hT:=qw3 ho t hi;have hdp:=qv2 ho t hi;have hpost:post t []=post t []:=rfl;generalize hL:post t []=L at ho hi hred hT hdp;have ok:=rowsOf_ok ho;have ndr:=rowsOf_nodup ho;have jJ:name L t<(rowsOf L).length+2:=by
  rw[rowsOf_len];rcases name_in ho hi with ⟨_,e⟩|⟨_,e⟩|⟨i,e,e2⟩
  ·lia
  ·lia
  ·have:=(gS_ e).1;lia
 refine⟨hn,ok,jJ,by rw[hdp];exact hd,qp1 ho hred,ndr,?_⟩;have hdt:=qY0 ok ndr n [] (name L t) (qg5 _) jJ (by rw[hdp];exact hd);rw[hT] at hdt;have e2:(dfs (rowsOf L) n [] (name L t)).map (tau (rowsOf L))=L:=by rw[hdt];exact hL
 have pe:=(qe7 ok n [] (name L t) (qg5 _) jJ (by rw[hdp];exact hd)).1;generalize dfs (rowsOf L) n [] (name L t)=E at e2 pe;have hE:E.length=L.length:=by rw[<- e2];simp
 refine Xc λi=>?_;by_cases vE:i<E.length
 ·have hg:E[i]?=some E[i]:=Zc vE;have jB:=pe.lt E[i] (YR vE);rw[rowsOf_len] at jB;have e3:L[i]?=some (tau (rowsOf L) E[i]):=by
   conv=>lhs;rw[<- e2]
   rw[Zb,hg];rfl
  have e4:tau (rowsOf L) E[i]=L[E[i]]:=by
   have ea:L[E[i]]?=some L[E[i]]:=Zc jB;have:=qw3 ho L[E[i]] (.inr (.inr (YR jB)));rw[name_at ho ea] at this;exact this
  rw[e4] at e3;have:E[i]=i:=by
   rcases WP E[i] i with z|z|z
   ·exact absurd (by rw[e3];exact Zc jB) (nd_iff.mp ho.nd E[i] i z (by lia))
   ·exact z
   ·exact absurd (by rw[e3];exact (Zc jB).symm) (nd_iff.mp ho.nd i E[i] z jB)
  rw[hg,this,Yc (by rw[rowsOf_len];lia)]
 ·rw[Yb (by lia),Yb (by rw[Xe,rowsOf_len];lia)]
end Qf
namespace L2
open PySem
theorem xl6 {H:Hp}{n:Nat}{te:TE}{σ:St}{Fin:Hp->Prop}{D:Addr}(Iv:Nat->List V->Hp->Prop) (hsz:n<sizeLine) (i0:Iv 0 [] (upd H D (.lst []))) (hD:∀i xs H2,Iv i xs H2->H2 D=some (.lst xs)/\xs.length<=i)
  (step:∀i xs H2,i<n->Iv i xs H2->∀Q2:VK,(∀v H3,H3 D=some (.lst xs)->Iv (i+1) (xs++[v]) (upd H3 D (.lst (xs++[v])))->Q2 v H3)->te (some (.int (0+(i:Int)))::σ) H2 Q2)
  (fin:∀xs H2,Iv n xs H2->Fin H2) :
  ∃W:Nat->Nat->List V->Hp->Prop,(∃m,W 0 m [] (upd H D (.lst []))) /\
   ∀i m xs H2,W i m xs H2->H2 D=some (.lst xs)/\xs.length<sizeLine/\(((Itr 0 n).stop i H2/\Fin H2)\/((Itr 0 n).go i H2/\∀y H3,(Itr 0 n).yld i H2 y H3 ->
    te (some y::σ) H3 λv H4=>H4 D=some (.lst xs)/\∃m',m'<m/\W (i+1) m' (xs++[v]) (upd H4 D (.lst (xs++[v]))))):=by
 refine⟨λi m xs H2=>i<=n/\m=n-i/\Iv i xs H2,⟨n,ZE _,rfl,i0⟩,?_⟩;rintro i m xs H2 ⟨hi,rfl,iv⟩;obtain⟨h1,h2⟩:=hD i xs H2 iv;refine⟨h1,by lia,?_⟩;by_cases he:i=n
 ·subst he;exact .inl ⟨Zd i,fin xs H2 iv⟩
 ·refine .inr ⟨show i<n by lia,λy H3 hy=>?_⟩;obtain⟨e1,e2⟩:=hy;rw[e1,e2];exact step i xs H2 (by lia) iv _ λv H6 h1 h2=>⟨h1,n-(i+1),by lia,by lia,rfl,h2⟩
end L2
namespace Pr
open PySem L2 Qf
structure Blt2 (mg:Str->Option Value):Prop where
 abs:mg "abs" = none
 repr:mg "repr" = none
 str:mg "str" = none
section
variable {P:Program}{w:World}{K:PySem.W.Frag}{mg:Str->Option Value}{base:Heap}
theorem scDigit:FnScope ["_law_pot_here", "_law_many", "_law_digit_here"] ["_law_pot_here", "_law_many"] (qa4 qA5):=qd9
def qA9:Sp:=λvs H Q _=>∃(p:Addr) (n:Nat),vs=[.ref p,.int (n:Nat)]/\PurseAt H p/\0<n/\n<1000000/\∀(d:Nat) (H':Hp),d<n->But p H H'->PurseAt H' p->Q (.int (d:Nat)) H'
theorem qx3 {f:Addr}{fd:FuncData}(F:Fun K "_law_digit" "_law_digit" qA5 f fd):FnOk P w K mg base CX0 1 f fd ["_law_pot_here", "_law_many"] qA9:=by
 refine F.ok scDigit (λvs H Q E h=>?_) (λcdv A outer s H vs Q E hr h=>?_)
 ·obtain⟨p,n,rfl,_⟩:=h
  rfl
 ·obtain⟨p,n,rfl,⟨a,b,hp,ha,hb,kE⟩,hn,hn2,q⟩:=h;refine⟨_,qb9 (qf1 (qc0 xh7 (pxN qd7 (pv 0) qa6) qa6 (qb7 _))
    (qb9 (psN 2 scDigit.nd (qb3 qq8 (pxN qd7 (pv 0) qa6) (pv 1)))
    (qb9 (qo9 (qb3 qk8 (pxN qd7 (pv 0) qa6) (pv 1)) (xp0 (pv 0) qa6 qU6))
    (qa8 (qb0 (pv 2))))) qb6)
   (qb9 (qo9 (qb3 qq8 (qb3 qd3 (qb3 qD1 (pxN qd7 (pv 0) qa6) qa6) qa6) qa6) (xp0 (pv 0) qa6 qU6))
   (qa8 (qb0 (qb3 qq8 (qb3 qk8 (pxN qd7 (pv 0) qa6) qa6) (pv 1))))),?_⟩
  have sq:∀{H':Hp}{xs:List V},H' p=some (.lst xs)->SqL K H' p xs:=λh=>SqL.of h;have fin:∀(d x y:Int),0<=d->d<(n:Int)->0<=x->0<=y->y<2^40->Q (.int d) (upd H p (.lst [.int x,.int y])):=λd x y d0 d1 x0 y0 y1=>by
   have:=q d.toNat (upd H p (.lst [.int x,.int y])) (by lia) But.upd ⟨x,y,qa1,x0,y0,y1⟩
   rwa [show ((d.toNat:Nat):Int)=d by lia] at this
  have hn0:(0:Int)<n:=by lia
  refine⟨_,rfl,p,_,0,_,rfl,rfl,sq hp,rfl,_,_,rfl,rfl,_,rfl,?_⟩;refine ite2 (λhc=>?_) (λhc=>?_)
  ·refine⟨_,rfl,p,_,0,_,rfl,rfl,sq hp,rfl,_,rfl,_,_,rfl,rfl,hn0,?_⟩;refine⟨_,rfl,p,_,0,_,rfl,rfl,sq hp,rfl,_,rfl,_,_,rfl,rfl,⟨hn0,by lia⟩,_,rfl,p,_,0,0,rfl,rfl,hp,rfl,?_⟩;refine⟨_,rfl,?_⟩;exact fin _ _ _ (Ws _ (by lia)) (XR _ hn0) (Int.ediv_nonneg ha (by lia)) hb kE
  ·refine⟨_,rfl,p,_,1,_,rfl,rfl,sq hp,rfl,_,_,rfl,rfl,.inl ⟨by lia,by lia⟩,_,_,rfl,rfl,_,_,rfl,rfl,(by show (0:Int)<2147483629;decide),_,rfl,p,_,1,1,rfl,rfl,hp,rfl,?_⟩;have m1:0<=(b*48271+8191)%2147483629/\(b*48271+8191)%2147483629<2147483629:=⟨Ws _ (by decide),XR _ (by decide)⟩;refine⟨_,rfl,p,_,1,_,rfl,rfl,sq qa1,rfl,_,_,rfl,rfl,⟨by decide,by decide⟩,_,rfl,_,_,rfl,rfl,hn0,?_⟩;exact fin _ _ _ (Ws _ (by lia)) (XR _ hn0) ha m1.1 (by lia)
theorem scPot:FnScope ["_law_script", "_law_k", "_law_cell"] ["_law_script", "_law_k"] (qa4 lPot):=qd9
def xD9 (K:PySem.W.Frag):Sp:=λvs H Q _=>∃(a:Addr) (k:Int) (ns:List Int),vs=[.ref a,.int k]/\SqL K H a (ns.map V.int)/\ns.length<=63/\0<=k/\k<=1000/\∀(H':Hp) (p:Addr),Same H H'->H p=none->PurseAt H' p->Q (.ref p) H'
theorem xE0 {f:Addr}{fd:FuncData}(F:Fun K "_law_pot" "_law_pot" lPot f fd) (B:Blt mg) (C:Blt2 mg):FnOk P w K mg base CX0 1 f fd ["_law_script", "_law_k"] (xD9 K):=by
 refine F.ok scPot (λvs H Q E h=>?_) (λcdv A outer s H vs Q E hr h=>?_)
 ·obtain⟨a,k,ns,rfl,_⟩:=h
  rfl
 ·obtain⟨a,k,ns,rfl,hS,hl,h0,h1,q⟩:=h;refine seqE ⟨_,⟨psN 2 scPot.nd qa6⟩,?_⟩;refine seqE ⟨_,⟨qf1 (qc0 qu1 (pv 1) (qa7 qa9 (by rfl) B.len ZM (qa0 (pv 0) qa2)) (qb7 _)) (qa8 (psN 2 scPot.nd (pxN qd7 (pv 0) (pv 1)))) qb6⟩,?_⟩;refine qh3 ⟨_,⟨qb0 (qf6 (Ars2.go (.cons ⟨qa7 (qL2 rfl) (by rfl) B.max XZ (qa0 qa6 (qa0 (qb3 ql6 (qa7 qU3 (by rfl) C.abs PyProof.Rows.boot_abs (qa0 (pv 2) qa2)) (qb3 xA6 qa6 qa6)) qa2))⟩
    (.cons ⟨qb3 qd3 (qb3 qd3 (qb3 qq8 (qa7 qU3 (by rfl) C.abs PyProof.Rows.boot_abs (qa0 (pv 2) qa2)) qa6) (qb3 qD1 qa6 (pv 1))) qa6⟩ .nil rfl) rfl)))⟩,?_⟩
  have fin:∀(z:Int) (p:Addr),H p=none->Q (.ref p) (upd H p (.lst [.int (if (if z<0 then -z else z)-10^18>0 then (if z<0 then -z else z)-10^18 else 0),.int ((if z<0 then -z else z)%2147483629+97*k+1)])):=λz p hp=>by
   have m1:0<=(if z<0 then -z else z)%2147483629/\(if z<0 then -z else z)%2147483629<2147483629:=⟨Ws _ (by decide),XR _ (by decide)⟩;refine q _ p (qb1 hp) hp ⟨_,_,qa1,?_,?_,?_⟩
   ·split<;>lia
   ·lia
   ·lia
  refine⟨_,rfl,_,rfl,a,_,rfl,.inl hS,_,_,rfl,rfl,_,rfl,?_⟩;refine ite2 (λhc=>?_) (λhc=>?_)
  ·have hk:k<(ns.length:Int):=by
    have:=ZI hc;simpa using this
   have hkn:k.toNat<ns.length:=by lia
   refine⟨_,rfl,_,rfl,a,_,k,.int (ns[k.toNat]),rfl,rfl,hS,?_,?_⟩
   ·have:=qe0 (xs:=ns.map V.int) (j:=k.toNat) (v:=.int (ns[k.toNat])) (by simp[hkn]);rw[show ((k.toNat:Nat):Int)=k by lia] at this;exact this
   ·refine⟨_,rfl,_,rfl,_,_,rfl,rfl,⟨by decide,by decide,by decide⟩,_,_,rfl,rfl,_,_,rfl,?_⟩;exact⟨_,rfl,_,rfl,_,_,rfl,rfl,(by show (0:Int)<2147483629;decide),_,rfl,_,_,rfl,rfl,.inl ⟨by decide,by decide⟩,_,_,rfl,rfl,_,_,rfl,rfl,(by show 2<=sizeLine;decide),λp hp=>fin _ p hp⟩
  ·refine⟨_,rfl,_,rfl,_,_,rfl,rfl,⟨by decide,by decide,by decide⟩,_,_,rfl,rfl,_,_,rfl,?_⟩;exact⟨_,rfl,_,rfl,_,_,rfl,rfl,(by show (0:Int)<2147483629;decide),_,rfl,_,_,rfl,rfl,.inl ⟨by decide,by decide⟩,_,_,rfl,rfl,_,_,rfl,rfl,(by show 2<=sizeLine;decide),λp hp=>fin _ p hp⟩
end
end Pr
namespace L2
open PySem
def iSeq (K:PySem.W.Frag) (tl:TE):TI:=λσ H R=>tl σ H λx H1=>∃a,x=.ref a/\(((∃xs,SqL K H1 a xs)/\R (Itl K a) H1)\/((∃xs,SqT K H1 a xs)/\R (Itt K a) H1))
theorem xE1 {X:Cx}{tg l:Expr}{tl:TE}(hl:PE X l tl):PI X tg l (iSeq X.K tl):=by
 intro j8 s σ H R I h;refine thn (hl j8 s σ H _ I h) λv s1 ⟨x,H1,I1,r1,a,ex,alt⟩=>?_;subst ex;cases r1;have fresh:∀b∈[s1.heap.objs.size],FpOk X j8 H1 b:=λb hb=>by
  have e:b=s1.heap.objs.size:=by simpa using hb
  subst e;exact I1.fpOk (Zd _) (I1.hok.fresh (Zd _))
 rcases alt with ⟨⟨xs,hq⟩,q⟩|⟨⟨xs,hq⟩,q⟩
 ·obtain⟨its,rv,p,hz⟩:=I1.list hq;exact X1 p.isList ⟨s1.heap.objs.size,[s1.heap.objs.size],_,_,H1,rfl,I1.kept (t':=s1.toks) λb o e=>Zf _ e,qL1 a _,⟨_,Zo _ rfl,rfl,rfl⟩,fresh,q⟩
 ·obtain⟨its,rv,p,hz⟩:=I1.tuple hq;exact XQ (show s1.heap.IsTuple a its.toArray from p) ⟨s1.heap.objs.size,[s1.heap.objs.size],_,_,H1,rfl,I1.kept (t':=s1.toks) λb o e=>Zf _ e,qC9 a _,⟨_,Zo _ rfl,rfl,rfl⟩,fresh,q⟩
theorem xl7 {K:PySem.W.Frag}{a:Addr}{xs:List V}{g:TG}{tb:TS}{D:Ends}{σ:St}{H:Hp}(Pv:Nat->St->Hp->Prop) (hk:(∀i σ H2,Pv i σ H2->SqL K H2 a xs)\/(∀i σ H2,Pv i σ H2->SqT K H2 a xs)) (h0:Pv 0 σ H)
  (hs:∀i x σ H,xs[i]?=some x->Pv i σ H->g x σ H λσ2 H2=>tb { D with nx:=Pv (i+1),ct:=Pv (i+1),bk:=D.nx } σ2 H2) (hd:∀σ H,Pv xs.length σ H->D.nx σ H) :
  ((∃xs,SqL K H a xs)/\∃W:Nat->Nat->St->Hp->Prop,(∃m,W 0 m σ H)/\∀i m σ H,W i m σ H ->
   ((Itl K a).stop i H/\D.nx σ H)\/((Itl K a).go i H/\∃N:St->Hp->Prop,(∀σ' H',N σ' H'->∃m',m'<m/\W (i+1) m' σ' H')/\∀x H',(Itl K a).yld i H x H'->g x σ H' λσ2 H2=>tb { D with nx:=N,ct:=N,bk:=D.nx } σ2 H2)) \/
  ((∃xs,SqT K H a xs)/\∃W:Nat->Nat->St->Hp->Prop,(∃m,W 0 m σ H)/\∀i m σ H,W i m σ H ->
   ((Itt K a).stop i H/\D.nx σ H)\/((Itt K a).go i H/\∃N:St->Hp->Prop,(∀σ' H',N σ' H'->∃m',m'<m/\W (i+1) m' σ' H')/\∀x H',(Itt K a).yld i H x H'->g x σ H' λσ2 H2=>tb { D with nx:=N,ct:=N,bk:=D.nx } σ2 H2)):=by
 rcases hk with h|h
 ·exact .inl ⟨⟨xs,h 0 σ H h0⟩,qq7 Pv h0 (λi σ H2 hi hp=>h i σ H2 hp) hs hd⟩
 ·exact .inr ⟨⟨xs,h 0 σ H h0⟩,qp5 Pv h0 (λi σ H2 hi hp=>h i σ H2 hp) hs hd⟩
end L2
namespace Qf
open PySem
inductive Stp where
 |gone (k:Nat)|plain (k:Nat)|same (k j:Nat) deriving DecidableEq
def sPat:Nat->Bool:=λi=>decide (i=0)
def cod (x:Str):List Int:=x.cps.toList.map Int.ofNat
def Stp.key:Stp->List (List Int)
 |.gone k=>[cod "gone",[(k:Int)]]
 |.plain k=>[cod "plain",[(k:Int)]]
 |.same k j=>[cod "same",[(k:Int)],[(j:Int)]]
theorem xd2 {s t:Stp}(h:s.key=t.key):s=t:=by
 have e1:cod "gone" ≠ cod "plain":=by decide
 have e2:cod "gone" ≠ cod "same":=by decide
 have e3:cod "plain" ≠ cod "same":=by decide
 cases s<;>cases t<;>simp only[Stp.key,YW,Vy] at h
 ·rw[Xi h.2]
 ·exact absurd h.1 e1
 ·exact absurd h.1 e2
 ·exact absurd h.1.symm e1
 ·rw[Xi h.2]
 ·exact absurd h.1 e3
 ·exact absurd h.1.symm e2
 ·exact absurd h.1.symm e3
 ·rw[Xi h.2.1,Xi h.2.2]
def sLe (a b:Stp):Bool:=!decide (b.key<a.key)
theorem xd3 (a b c:Stp) (h1:sLe a b=true) (h2:sLe b c=true):sLe a c=true:=by
 unfold sLe at *;simp only[Xu,XN] at *;exact Wd.mpr (List.le_trans (Wd.mp h1) (Wd.mp h2))
theorem xd4 (a b:Stp):(sLe a b||sLe b a)=true:=by
 unfold sLe;by_cases h:b.key<a.key
 ·have:¬a.key<b.key:=λz=>VW _ (List.lt_trans h z);simp[this]
 ·simp[h]
theorem xl8 {a b:Stp}(h1:sLe a b=true) (h2:sLe b a=true):a=b:=by
 unfold sLe at *;simp only[Xu,XN] at *;exact xd2 (List.le_antisymm (Wd.mp h1) (Wd.mp h2))
def srt (l:List Stp):List Stp:=l.mergeSort sLe
theorem qo4 (l:List Stp):(srt l).Perm l:=List.mergeSort_perm l sLe
theorem q33 (l:List Stp):(srt l).Pairwise λa b=>sLe a b=true:=List.pairwise_mergeSort xd3 xd4 l
theorem qB0:∀{l m:List Stp},l.Perm m->(l.Pairwise λa b=>sLe a b=true)->(m.Pairwise λa b=>sLe a b=true)->l=m
 |[],m,p,_,_=>(List.nil_perm.mp p).symm
 |a::l,[],p,_,_=>by have:=p.length_eq;simp at this
 |a::l,b::m,p,h1,h2=>by
  obtain⟨a1,a2⟩:=Xl.mp h1;obtain⟨b1,b2⟩:=Xl.mp h2;have e:a=b:=by
   rcases ZB.mp (p.mem_iff.mp (Zu (a:=a) (l:=l))) with e|ha
   ·exact e
   ·rcases ZB.mp (p.mem_iff.mpr (Zu (a:=b) (l:=m))) with e|hb
    ·exact e.symm
    ·exact xl8 (a1 b hb) (b1 a ha)
  subst e;rw[qB0 (List.perm_cons a |>.mp p) a2 b2]
end Qf
namespace Pr
open PySem L2 Qf
def qg2:Stp->List V
 |.gone k=>[.str "gone",.int (k:Nat)]
 |.plain k=>[.str "plain",.int (k:Nat)]
 |.same k j=>[.str "same",.int (k:Nat),.int (j:Nat)]
theorem qn3 (s:Stp):AtsV sPat 0 (qg2 s) s.key:=by
 cases s with
 |gone k=>exact .cons (.str _) (.cons (.int _) .nil)
 |plain k=>exact .cons (.str _) (.cons (.int _) .nil)
 |same k j=>exact .cons (.str _) (.cons (.int _) (.cons (.int _) .nil))
theorem xl9 {k:Bool}{v:V}{l m:List Int}(h:AtV k v l) (g:AtV k v m):l=m:=by cases h<;>cases g<;>rfl
theorem qP1 {pat:Nat->Bool}:∀{i:Nat}{vs:List V}{l m:List (List Int)},AtsV pat i vs l->AtsV pat i vs m->l=m
 |_,_,_,_,.nil,.nil=>rfl
 |_,_,_,_,.cons h r,.cons h' r'=>by rw[xl9 h h',qP1 r r']
theorem qP2 {s t:Stp}(h:qg2 s=qg2 t):s=t:=xd2 (qP1 (qn3 s) (h▸qn3 t))
def StepsL (H:Hp) (p:Addr) (ss:List Stp):Prop:=∃bs:List Addr,H p=some (.lst (bs.map V.ref))/\bs.length=ss.length/\∀(i:Nat) b s,bs[i]?=some b->ss[i]?=some s->H b=some (.tup (qg2 s))
theorem StepsL.same {H H':Hp}{p:Addr}{ss:List Stp}(h:StepsL H p ss) (s:Same H H'):StepsL H' p ss:=by
 obtain⟨bs,a,b,c⟩:=h;exact⟨bs,s _ _ a,b,λi b t h1 h2=>s _ _ (c i b t h1 h2)⟩
open Classical in
noncomputable def stAt (H:Hp) (b:Addr):Stp:=if h:∃s,H b=some (.tup (qg2 s)) then h.choose else .gone 0
theorem qJ3 {H:Hp}{b:Addr}{s:Stp}(h:H b=some (.tup (qg2 s))):stAt H b=s:=by
 have e:∃s,H b=some (.tup (qg2 s)):=⟨s,h⟩;unfold stAt;rw[dif_pos e];have:=h.symm.trans e.choose_spec;exact (qP2 (HO.tup.inj (Zv this))).symm
theorem xd5 {bs:List Addr}{us:List V}(h:us.Perm (bs.map V.ref)):∃cs:List Addr,us=cs.map V.ref/\cs.Perm bs:=by
 refine⟨us.map λv=>match v with|.ref a=>a|_=>0,?_,?_⟩
 ·rw[Ym];refine (VY us).symm.trans (Yj λv hv=>?_);obtain⟨b,_,rfl⟩:=ZR.mp (h.mem_iff.mp hv)
  rfl
 ·have:=h.map (λv:V=>match v with|.ref a=>a|_=>(0:Addr));rw[Ym] at this;exact this.trans (List.Perm.of_eq (VY bs))
section
variable {X:Cx}
theorem qP3:qh1 X (.builtin "sorted") (λxs H Q=>∃(p:Addr) (ss:List Stp),xs=[.ref p]/\StepsL H p ss/\∀q H',Same H H'->H q=none->StepsL H' q (srt ss)->Q (.ref q) H'):=by
 intro j8 s σ H xs us Q I r h;obtain⟨p,ss,rfl,hS,q⟩:=h;obtain⟨bs,hp,hl,hb⟩:=id hS;have at':∀b∈bs,∃t,H b=some (.tup (qg2 t)):=λb hb'=>by
  obtain⟨i,hi,e⟩:=YC hb';exact⟨ss[i]'(by lia),hb i b _ (by rw[<- e];simp[hi]) (by simp)⟩
 have sse:ss=bs.map (stAt H):=by
  refine Xc λi=>?_;rw[Zb];by_cases hi:i<bs.length
  ·rw[Zc (by lia),Zc hi];show some _=some _;rw[qJ3 (hb i bs[i] (ss[i]'(by lia)) (by simp[hi]) (by simp))]
  ·rw[Yb (by lia),Yb (by lia)];rfl
 refine qN2 j8 s σ H [.ref p] us Q I r ⟨p,_,sPat,rfl,hp,λv hv=>?_,λa vs ha pm as=>?_⟩
 ·obtain⟨b,hb',rfl⟩:=ZR.mp hv;obtain⟨t,ht⟩:=at' b hb';exact⟨t.key,⟨b,_,rfl,ht,qn3 t⟩,by cases t<;>simp[Stp.key]⟩
 ·obtain⟨cs,rfl,pc⟩:=xd5 pm;refine q a _ (qb1 ha) ha ?_;have e:cs.map (stAt H)=srt ss:=by
   refine qB0 ?_ ?_ (q33 ss)
   ·refine (pc.map (stAt H)).trans ?_;rw[<- sse];exact (qo4 ss).symm
   ·rw[List.pairwise_map];have as':=List.pairwise_map.mp as;refine List.Pairwise.imp_of_mem (λ{x y} hx hy z=>?_) as';obtain⟨t,ht⟩:=at' x (pc.mem_iff.mp hx);obtain⟨u,hu⟩:=at' y (pc.mem_iff.mp hy);rw[qJ3 ht,qJ3 hu];have:=z t.key u.key ⟨x,_,rfl,ht,qn3 t⟩ ⟨y,_,rfl,hu,qn3 u⟩;unfold sLe;simp[this]
  rw[<- e];refine⟨cs,qa1,by simp,λi b t h1 h2=>?_⟩;have hm:=Zm h1;obtain⟨u,hu⟩:=at' b (pc.mem_iff.mp hm);rw[Zb,h1] at h2;have:stAt H b=t:=Zv h2;rw[qJ3 hu] at this;subst this;exact qc2 hu ha
end
end Pr
namespace Qf
def ixs (l:List Row) (r:Row):List Nat:=(List.range l.length).filter λj=>decide (l[j]?=some r)
theorem xm0 (l:List Row) (x r:Row):ixs (l++[x]) r=ixs l r++if x=r then [l.length] else []:=by
 unfold ixs;rw[Zr,YY,YM,XT];congr 1
 ·refine List.filter_congr λj hj=>?_;have:=ZH.mp hj;rw[Zh this]
 ·by_cases h:x=r
  ·rw[Zp h,Y3,Zp (by simp[h])];rfl
  ·rw[Zk h,Y3,Zk (by simp[h])];rfl
theorem xm1 {l:List Row}{r:Row}(h:r∉l):ixs l r=[]:=by
 unfold ixs;refine List.filter_eq_nil_iff.mpr λj _ e=>h ?_;exact Zm (ZI e)
theorem qq2 (l:List Row) (r:Row):(ixs l r).length<=l.length:=by
 unfold ixs;exact ZL (Yr _ _) (by simp)
def qj6 (rows:List Row) (k:Nat):List Stp:=(ixs (rows.take k) (rows.getD k [])).map (Stp.same k)
def qh7 (rows:List Row):List Stp:=(List.range rows.length).flatMap (qj6 rows)
theorem qv3 (rows:List Row) (k:Nat):(qj6 rows k).length<=rows.length:=by
 unfold qj6;rw[Ze];exact ZL (qq2 _ _) (by simp;lia)
theorem qB1 {α:Type}(f:Nat->List α) (i:Nat):(List.range (i+1)).flatMap f=(List.range i).flatMap f++f i:=by
 rw[YM,List.flatMap_append];simp
theorem qx4 {α:Type}{f:Nat->List α}{c:Nat}(h:∀k,(f k).length<=c):∀i,((List.range i).flatMap f).length<=i*c
 |0=>by simp
 |i+1=>by
  rw[qB1,Zr,Nat.succ_mul];have:=qx4 h i;have:=h i;lia
end Qf
namespace Pr
open PySem L2 Qf
structure Plc (H0 H:Hp) (Pd S:Addr) (seen l:List Row) (kvs:List (List Key×V)) (f:Row->Addr):Prop where
 d:H Pd=some (.dT kvs)
 no:∀r,r∉seen->valV kvs (keyN r)=none
 yes:∀r∈seen,valV kvs (keyN r)=some (.ref (f r))
 lst:∀r∈seen,H (f r)=some (.lst (vN (ixs l r)))
 frs:∀r∈seen,H0 (f r)=none/\f r≠Pd/\f r≠S
 inj:∀r r',r∈seen->r'∈seen->f r=f r'->r=r'
theorem Plc.same {H0 H H':Hp}{Pd S:Addr}{seen l:List Row}{kvs:List (List Key×V)}{f:Row->Addr}(p:Plc H0 H Pd S seen l kvs f) (s:Same H H'):Plc H0 H' Pd S seen l kvs f:=
 ⟨s _ _ p.d,p.no,p.yes,λr hr=>s _ _ (p.lst r hr),p.frs,p.inj⟩
theorem StepsL.ne {H:Hp}{p a:Addr}{ss:List Stp}{xs:List V}(h:StepsL H p ss) (ha:H a=some (.lst xs)) (hn:p≠a){ys:List V}:StepsL (upd H a (.lst ys)) p ss:=by
 obtain⟨bs,h1,h2,h3⟩:=h;refine⟨bs,by rw[qa5 hn];exact h1,h2,λi b s e1 e2=>?_⟩;have:=h3 i b s e1 e2;rw[qa5 (qp3 this ha (λz=>nomatch z))];exact this
theorem StepsL.app {H:Hp}{p:Addr}{ss ts:List Stp}{xs ys:List V}(h:StepsL H p ss) (hp:H p=some (.lst xs)) (hl:ys.length=ts.length) (hy:∀(i:Nat) y t,ys[i]?=some y->ts[i]?=some t->∃b,y=.ref b/\H b=some (.tup (qg2 t))):StepsL (upd H p (.lst (xs++ys))) p (ss++ts):=by
 obtain⟨bs,h1,h2,h3⟩:=h;rw[hp] at h1;have e:=HO.lst.inj (Zv h1);have ey:∃cs:List Addr,ys=cs.map V.ref:=by
  refine⟨ys.map λv=>match v with|.ref a=>a|_=>0,?_⟩;rw[Ym];refine (VY ys).symm.trans (Yj λv hv=>?_);obtain⟨i,hi,e⟩:=YC hv;obtain⟨b,rfl,_⟩:=hy i v (ts[i]'(by lia)) (by rw[<- e];simp[hi]) (by simp)
  rfl
 obtain⟨cs,rfl⟩:=ey;have hl':cs.length=ts.length:=by simpa using hl
 refine⟨bs++cs,by rw[qa1,e,ZW],by simp[h2,hl'],λi b t e1 e2=>?_⟩;have tup:H b=some (.tup (qg2 t)):=by
  by_cases hi:i<bs.length
  ·rw[Zh hi] at e1;rw[Zh (by lia)] at e2;exact h3 i b t e1 e2
  ·rw[Zi (by lia)] at e1;rw[Zi (by lia),<- h2] at e2;obtain⟨b',e3,e4⟩:=hy (i-bs.length) (.ref b) t (by rw[Zb,e1];rfl) e2;cases e3;exact e4
 rw[qa5 (qp3 tup hp (λz=>nomatch z))];exact tup
theorem Plc.iff {H0 H:Hp}{Pd S:Addr}{seen seen' l:List Row}{kvs:List (List Key×V)}{f:Row->Addr}(p:Plc H0 H Pd S seen l kvs f) (e:∀r,r∈seen'<->r∈seen):Plc H0 H Pd S seen' l kvs f:=
 ⟨p.d,λr hr=>p.no r λz=>hr ((e r).mpr z),λr hr=>p.yes r ((e r).mp hr),λr hr=>p.lst r ((e r).mp hr),λr hr=>p.frs r ((e r).mp hr),λr r' h h'=>p.inj r r' ((e r).mp h) ((e r').mp h')⟩
theorem Plc.new {H0 H:Hp}{Pd S D:Addr}{l:List Row}{kvs:List (List Key×V)}{f:Row->Addr}{r:Row}(p:Plc H0 H Pd S l l kvs f) (hr:r∉l) (hD:H D=some (.lst [])) (h0:H0 D=none) (n1:D≠S) (nf:∀x∈l,f x≠D) :
  Plc H0 (upd H Pd (.dT (putK kvs (keyN r) (.ref D)))) Pd S (r::l) l (putK kvs (keyN r) (.ref D)) (λx=>if x=r then D else f x) where
 d:=qa1
 no:=λx hx=>by
  rw[qG2,Zk λz=>hx (by rw[qo3 z];simp)];exact p.no x λz=>hx (by simp[z])
 yes:=λx hx=>by
  rw[qG2];by_cases e:x=r
  ·rw[Zp (by rw[e]),Zp e]
  ·rw[Zk λz=>e (qo3 z),Zk e];exact p.yes x (by simpa [e] using hx)
 lst:=λx hx=>by
  by_cases e:x=r
  ·rw[Zp e,qa5 (qp3 hD p.d (λz=>nomatch z)),e,xm1 hr];exact hD
  ·have hx':x∈l:=by simpa [e] using hx
   rw[Zk e,qa5 (p.frs x hx').2.1];exact p.lst x hx'
 frs:=λx hx=>by
  by_cases e:x=r
  ·rw[Zp e];exact⟨h0,qp3 hD p.d (λz=>nomatch z),n1⟩
  ·rw[Zk e];exact p.frs x (by simpa [e] using hx)
 inj:=λx y hx hy e=>by
  by_cases e1:x=r
  ·by_cases e2:y=r
   ·rw[e1,e2]
   ·rw[Zp e1,Zk e2] at e;exact absurd e.symm (nf y (by simpa [e2] using hy))
  ·by_cases e2:y=r
   ·rw[Zk e1,Zp e2] at e;exact absurd e (nf x (by simpa [e1] using hx))
   ·rw[Zk e1,Zk e2] at e;exact p.inj x y (by simpa [e1] using hx) (by simpa [e2] using hy) e
theorem Plc.put {H0 H:Hp}{Pd S:Addr}{l:List Row}{kvs:List (List Key×V)}{f:Row->Addr}{r:Row}{i:Nat}(p:Plc H0 H Pd S (r::l) l kvs f) (hi:l.length=i) :
  Plc H0 (upd H (f r) (.lst (vN (ixs l r)++[.int (i:Nat)]))) Pd S (l++[r]) (l++[r]) kvs f where
 d:=by rw[qa5 (p.frs r (by simp)).2.1.symm];exact p.d
 no:=λx hx=>p.no x λz=>hx (by simpa [V1] using z)
 yes:=λx hx=>p.yes x (by simpa [V1] using hx)
 lst:=λx hx=>by
  have hx':x∈r::l:=by simpa [V1] using hx
  rw[xm0];by_cases e:x=r
  ·subst e;rw[qa1,Zp rfl,hi];unfold vN;rw[ZW];rfl
  ·rw[qa5 λz=>e (p.inj x r hx' (by simp) z),Zk λz=>e z.symm,XV];exact p.lst x hx'
 frs:=λx hx=>p.frs x (by simpa [V1] using hx)
 inj:=λx y hx hy=>p.inj x y (by simpa [V1] using hx) (by simpa [V1] using hy)
section
variable {P:Program}{w:World}{K:PySem.W.Frag}{mg:Str->Option Value}{base:Heap}
theorem xm2:FnScope ["telling"] ["telling"] (qa4 qu8):=qd9
def qg1 (n tp:Nat) (rows:List Row):Prop:=n<=12/\qb2 rows/\rows.length<=900/\tp<rows.length+2/\dp rows tp<=n
def qx5:Sp:=λvs H Q _=>∃(t:Addr) (n tp:Nat) (rows:List Row),vs=[.ref t]/\TellAt H t n tp rows/\qg1 n tp rows/\∀H',Same H H'->Q .non H'
theorem xd6 {f fS:Addr}{fd fdS:FuncData}(F:Fun K "want_telling" "want_telling" qu8 f fd)
  (hS:mg "is_telling" = some (.ref fS)) (FS:Fun K "is_telling" "is_telling" qo0 fS fdS) (bS:Binds K fdS ["thing"] []) (GS:FnOk P w K mg base CX0 5 fS fdS ["thing"] qO7):FnOk P w K mg base CX0 6 f fd ["telling"] qx5:=by
 refine F.ok xm2 (λvs H Q E h=>?_) (λcdv A outer s H vs Q E hr h=>?_)
 ·obtain⟨t,n,tp,rows,rfl,_⟩:=h
  rfl
 ·obtain⟨t,n,tp,rows,rfl,hT,⟨c1,c2,c3,c4,c5⟩,q⟩:=h;refine⟨_,qa8 (qf1 (qg9 (qe6 (pcN GS hr hS FS.kp bS (qa0 (pv 0) qa2)))) qf7 qb6),?_⟩;exact⟨_,rfl,t,n,tp,rows,rfl,hT,c1,c2,c3,c4,c5,λH1 s1=>⟨_,rfl,iteF (q H1 s1)⟩⟩
abbrev xE2:List Str:=["rows", "places", "steps", "k", "row", "alike"]
theorem scSame:FnScope xE2 ["rows"] (qa4 xb5):=qd9
def xq6:Sp:=λvs H Q _=>∃(p:Addr) (rows:List Row),vs=[.ref p]/\RowsAt H p rows/\rows.length<=900/\∀H' q,Same H H'->H q=none->StepsL H' q (qh7 rows)->Q (.ref q) H'
theorem xw9 {f:Addr}{fd:FuncData}(F:Fun K "same_steps" "same_steps" xb5 f fd) (B:Blt mg):FnOk P w K mg base CX0 1 f fd ["rows"] xq6:=by
 refine F.ok scSame (λvs H Q E h=>?_) (λcdv A outer s H vs Q E hr h=>?_)
 ·obtain⟨p,rows,rfl,_⟩:=h
  rfl
 ·obtain⟨p,rows,rfl,hR,hn,q⟩:=h;have hu:A.units+3+1<cLine:=by
   have h2:A.units+3+16*0+200<cLine:=hr.un;lia
  refine seqE ⟨_,⟨psN 1 scSame.nd qG5⟩,?_⟩;refine seqE ⟨_,⟨psN 2 scSame.nd (qf6 qa2)⟩,?_⟩;refine seqE ⟨_,⟨qj0 Z2 rfl (qH6 (by rfl) B.enum (qa0 (pv 0) qa2)) (qo8 rfl (qc3 (pgN 3 scSame.nd) (qc3 (pgN 4 scSame.nd) qj7)))
   (StB.go (.cons ⟨psN 5 scSame.nd (PEb.go (qE8 PySem.F.plainAttrs_dict Vc PySem.F.type_dict_setdefault (qI0 hu) ⟨pv 1⟩ (.cons ⟨pv 4⟩ (.cons ⟨qf6 qa2⟩ .nil rfl) rfl)))⟩
    (.cons ⟨qf0 (PEb.go (qE8 Z0 PySem.F.slot_list_extend PySem.F.type_list_extend q71 ⟨pv 2⟩ (.cons ⟨qe9 xE2 (qa4 xb5) rfl rfl rfl scSame.nd (qp4 (pv 5)) (λcl C fp s₀ H₀=>ql7 (qa0 qT9 (qa0 (pv 4) (qa0 (pv 0) qa2))))⟩ .nil rfl)))⟩
    (.one ⟨qf0 (q14 Z0 Z4 Z5 qf2 (pv 5) (qa0 (pv 3) qa2))⟩))))⟩,?_⟩
  refine qh3 ⟨_,⟨qb0 (pv 2)⟩,?_⟩;obtain⟨bs,hp,j9,jA⟩:=id hR;have jI:(bs.map V.ref).length=rows.length:=by rw[Ze];exact j9
  refine λPd hPd=>⟨(by show 0<=sizeLine;decide),λS hS=>?_⟩;have hSn:H S=none:=by
   cases e:H S with
   |none=>rfl
   |some o=>rw[qb1 hPd _ _ e] at hS;cases hS
  have nPS:Pd≠S:=qa3 qa1 hS;refine⟨_,rfl,p,rfl,⟨_,SqT.of (qc2 (qc2 hp hPd) hS)⟩,xb3 (K:=K) (xs:=bs.map V.ref) (λi σ H2=>∃kvs f,Plc H H2 Pd S (rows.take i) (rows.take i) kvs f/\kvs.length<=i/\Same H H2/\StepsL H2 S ((List.range i).flatMap (qj6 rows))/\∃v3 v4 v5,σ=[some (.ref p),some (.ref Pd),some (.ref S),v3,v4,v5])
   (λi σ H2 ⟨_,_,_,_,s2,_⟩=>s2 _ _ hp) ⟨[],λ_=>0,⟨by rw[qa5 nPS];exact qa1,λ_ _=>rfl,λr hr=>by simp at hr,λr hr=>by simp at hr,λr hr=>by simp at hr,λr r' hr=>by simp at hr⟩,Zd _,(qb1 hPd).trans (qb1 hS),⟨[],qa1,rfl,λi b s e=>by simp at e⟩,none,none,none,rfl⟩ ?_ ?_⟩
  ·rintro i y σ H2 a hy ⟨kvs,f,pl,hkl,s2,kF,v3,v4,v5,rfl⟩ ha;have hi:i<rows.length:=by rw[<- jI];exact (gS_ hy).1
   rw[Zb] at hy;obtain⟨b,hb,rfl⟩:=Zj.mp hy;have jF:rows[i]?=some rows[i]:=by simp[hi]
   have jQ:=s2 _ _ (jA i b rows[i] hb jF);have tl:(rows.take i).length=i:=by rw[ZX];lia
   have etk:rows.take (i+1)=rows.take i++[rows[i]]:=Xw hi;generalize rows[i]=r at jF jQ etk;refine⟨a,_,rfl,SqT.of qa1,rfl,_,[.ref b],rfl,.ref b,[],rfl,rfl,?_⟩;have s3:Same H2 (upd H2 a (.tup [.int (i:Nat),.ref b])):=qb1 ha;have pl3:=pl.same s3;have st3:=kF.same s3;have wH:=s3 _ _ jQ;have S3:=s2.trans s3;generalize upd H2 a (.tup [.int (i:Nat),.ref b])=H3 at pl3 st3 wH S3;refine⟨_,rfl,.inr (.inr (.inl ⟨rfl,.inr ⟨_,pl3.d⟩⟩)),_,rfl,(by show 0<=sizeLine;decide),λD0 kR=>?_⟩;have s4:Same H3 (upd H3 D0 (.lst [])):=qb1 kR;have pl4:=pl3.same s4;have st4:=st3.same s4;have wA:=s4 _ _ wH;have S4:=S3.trans s4;have kN:upd H3 D0 (.lst []) D0=some (.lst []):=qa1;have hDn:H D0=none:=by
    cases e:H D0 with
    |none=>rfl
    |some o=>rw[S3 _ _ e] at kR;cases kR
   have nDS:D0≠S:=by
    obtain⟨bs0,h1,_⟩:=st3;exact (qa3 h1 kR).symm
   have nfD:∀x∈rows.take i,f x≠D0:=λx hx=>qa3 (pl3.lst x hx) kR;generalize upd H3 D0 (.lst [])=H4 at pl4 st4 wA S4 kN;refine⟨Pd,b,kvs,keyN r,.ref D0,rfl,rfl,pl4.d,by rw[qs4];exact wA,qd5 (by lia),?_,?_⟩
   ·intro v hv;have hm:r∈rows.take i:=by
     by_cases z:r∈rows.take i
     ·exact z
     ·rw[pl4.no r z] at hv;cases hv
    rw[pl4.yes r hm] at hv;cases hv;have pl5:Plc H H4 Pd S (r::rows.take i) (rows.take i) kvs f:=pl4.iff λx=>⟨λz=>(ZB.mp z).elim (λe=>e▸hm) id,λz=>Zn _ z⟩;have st5:=st4;have s5:=S4;have hk5:kvs.length<=i+1:=by lia
    obtain⟨kvs5,ek⟩:∃k,k=kvs:=⟨_,rfl⟩;obtain⟨f5,ef⟩:∃g,g=f:=⟨_,rfl⟩;simp only[<- ek,<- ef] at pl5 hk5 ⊢;obtain⟨bs5,hS5,hl5,hb5⟩:=id st5;have hA:=pl5.lst r (by simp);have nAS:=(pl5.frs r (by simp)).2.2;refine⟨_,rfl,.inl ⟨rfl,_,SqL.of hS5⟩,_,rfl,f5 r,rfl,⟨_,SqL.of hA⟩,λD2 jY=>qe1 jY (λj z H=>∃m b,(ixs (rows.take i) r)[j]?=some m/\z=.ref b/\H b=some (.tup (qg2 (.same i m)))) (qw9 (K:=K) hA) (by rw[qb5];exact qd5 (by have:=qq2 (rows.take i) r;lia)) (λj z H1 H2 _ t ⟨m,b,h1,h2,h3⟩=>⟨m,b,h1,h2,t _ _ h3⟩) ?_ ?_⟩
    ·intro j x H6 hj hx s6 Q' hq;obtain⟨m,hm,rfl⟩:=qi0 hx;exact⟨_,rfl,_,rfl,(by show 3<=sizeLine;decide),λb hb=>hq _ _ (qb1 hb) ⟨m,b,hm,rfl,qa1⟩⟩
    ·intro ys H6 s6 kO jK jM;have st6:=st5.same s6;have pl6:=pl5.same s6;have wV:=s6 _ _ hS5;rw[qb5] at jK;have e6:qj6 rows i=(ixs (rows.take i) r).map (Stp.same i):=by
      unfold qj6;rw[Zx,jF];rfl
     refine⟨S,D2,_,ys,rfl,rfl,wV,kO,?_,?_⟩
     ·rw[Ze,hl5,jK];have a1:=qx4 (qv3 rows) i;have a2:=qq2 (rows.take i) r;have a3:i*rows.length<=900*900:=We (by lia) hn;exact Y6 (qd5 (by lia))
     ·have st7:=st6.app (ts:=qj6 rows i) (ys:=ys) wV (by rw[e6,Ze,jK]) (λj y t h1 h2=>by
       obtain⟨m,b,g1,g2,g3⟩:=jM j y h1;rw[e6,Zb,g1] at h2;cases h2;exact⟨b,g2,g3⟩)
      have pl7:Plc H (upd H6 S (.lst (bs5.map V.ref++ys))) Pd S (r::rows.take i) (rows.take i) kvs5 f5:=
       ⟨by rw[qa5 (qp3 pl6.d wV (λz=>nomatch z))];exact pl6.d,pl6.no,pl6.yes,λx hx=>by rw[qa5 (pl6.frs x hx).2.2];exact pl6.lst x hx,pl6.frs,pl6.inj⟩
      have s7:Same H (upd H6 S (.lst (bs5.map V.ref++ys))):=λb o e=>by rw[qa5 (qa3 e hSn)];exact s6 _ _ (s5 _ _ e)
      have wW:=pl7.lst r (by simp);refine⟨_,rfl,.inl ⟨rfl,_,SqL.of wW⟩,_,rfl,f5 r,_,_,rfl,rfl,wW,by rw[qb5];exact qd5 (by have:=qq2 (rows.take i) r;lia),?_⟩;have pl8:=pl7.put (i:=i) tl;have st8:=st7.ne wW (Yx nAS) (ys:=vN (ixs (rows.take i) r)++[.int (i:Nat)]);rw[<- qB1] at st8;rw[<- etk] at pl8;exact⟨kvs5,f5,pl8,hk5,λb o e=>by rw[qa5 (qa3 e (pl7.frs r (by simp)).1)];exact s7 _ _ e,st8,_,_,_,rfl⟩
   ·intro hv;have hm:r∉rows.take i:=λz=>by
     rw[pl4.yes r z] at hv;cases hv
    have pl5:=pl4.new hm kN hDn nDS nfD;have nPs:Pd≠S:=nPS;have st5:StepsL (upd H4 Pd (.dT (putK kvs (keyN r) (.ref D0)))) S ((List.range i).flatMap (qj6 rows)):=by
     obtain⟨bs0,h1,h2,h3⟩:=st4;exact⟨bs0,by rw[qa5 nPs.symm];exact h1,h2,λj c t e1 e2=>by
      have:=h3 j c t e1 e2;rw[qa5 (qp3 this pl4.d (λz=>nomatch z))];exact this⟩
    have s5:Same H (upd H4 Pd (.dT (putK kvs (keyN r) (.ref D0)))):=λc o e=>by rw[qa5 (qa3 e hPd)];exact S4 _ _ e
    have hk5:(putK kvs (keyN r) (.ref D0)).length<=i+1:=by rw[xi7 _ hv];simp;lia
    have eD:(λx=>if x=r then D0 else f x) r=D0:=by simp
    obtain⟨f5,ef⟩:∃g:Row->Addr,g=λx=>if x=r then D0 else f x:=⟨_,rfl⟩
    rw[<- ef] at pl5 eD;generalize upd H4 Pd (.dT (putK kvs (keyN r) (.ref D0)))=H5 at pl5 st5 s5 ⊢;obtain⟨kvs5,ek⟩:∃k,k=putK kvs (keyN r) (.ref D0):=⟨_,rfl⟩;rw[<- ek] at pl5 hk5;rw[<- eD];obtain⟨bs5,hS5,hl5,hb5⟩:=id st5;have hA:=pl5.lst r (by simp);have nAS:=(pl5.frs r (by simp)).2.2;refine⟨_,rfl,.inl ⟨rfl,_,SqL.of hS5⟩,_,rfl,f5 r,rfl,⟨_,SqL.of hA⟩,λD2 jY=>qe1 jY (λj z H=>∃m b,(ixs (rows.take i) r)[j]?=some m/\z=.ref b/\H b=some (.tup (qg2 (.same i m)))) (qw9 (K:=K) hA) (by rw[qb5];exact qd5 (by have:=qq2 (rows.take i) r;lia)) (λj z H1 H2 _ t ⟨m,b,h1,h2,h3⟩=>⟨m,b,h1,h2,t _ _ h3⟩) ?_ ?_⟩
    ·intro j x H6 hj hx s6 Q' hq;obtain⟨m,hm,rfl⟩:=qi0 hx;exact⟨_,rfl,_,rfl,(by show 3<=sizeLine;decide),λb hb=>hq _ _ (qb1 hb) ⟨m,b,hm,rfl,qa1⟩⟩
    ·intro ys H6 s6 kO jK jM;have st6:=st5.same s6;have pl6:=pl5.same s6;have wV:=s6 _ _ hS5;rw[qb5] at jK;have e6:qj6 rows i=(ixs (rows.take i) r).map (Stp.same i):=by
      unfold qj6;rw[Zx,jF];rfl
     refine⟨S,D2,_,ys,rfl,rfl,wV,kO,?_,?_⟩
     ·rw[Ze,hl5,jK];have a1:=qx4 (qv3 rows) i;have a2:=qq2 (rows.take i) r;have a3:i*rows.length<=900*900:=We (by lia) hn;exact Y6 (qd5 (by lia))
     ·have st7:=st6.app (ts:=qj6 rows i) (ys:=ys) wV (by rw[e6,Ze,jK]) (λj y t h1 h2=>by
       obtain⟨m,b,g1,g2,g3⟩:=jM j y h1;rw[e6,Zb,g1] at h2;cases h2;exact⟨b,g2,g3⟩)
      have pl7:Plc H (upd H6 S (.lst (bs5.map V.ref++ys))) Pd S (r::rows.take i) (rows.take i) kvs5 f5:=
       ⟨by rw[qa5 (qp3 pl6.d wV (λz=>nomatch z))];exact pl6.d,pl6.no,pl6.yes,λx hx=>by rw[qa5 (pl6.frs x hx).2.2];exact pl6.lst x hx,pl6.frs,pl6.inj⟩
      have s7:Same H (upd H6 S (.lst (bs5.map V.ref++ys))):=λb o e=>by rw[qa5 (qa3 e hSn)];exact s6 _ _ (s5 _ _ e)
      have wW:=pl7.lst r (by simp);refine⟨_,rfl,.inl ⟨rfl,_,SqL.of wW⟩,_,rfl,f5 r,_,_,rfl,rfl,wW,by rw[qb5];exact qd5 (by have:=qq2 (rows.take i) r;lia),?_⟩;have pl8:=pl7.put (i:=i) tl;have st8:=st7.ne wW (Yx nAS) (ys:=vN (ixs (rows.take i) r)++[.int (i:Nat)]);rw[<- qB1] at st8;rw[<- etk] at pl8;exact⟨kvs5,f5,pl8,hk5,λb o e=>by rw[qa5 (qa3 e (pl7.frs r (by simp)).1)];exact s7 _ _ e,st8,_,_,_,rfl⟩
  ·rintro σ H2 ⟨kvs,f,pl,hkl,s2,kF,v3,v4,v5,rfl⟩;rw[jI] at kF;exact⟨_,rfl,q H2 S s2 hSn kF⟩
end
end Pr
namespace L2
open PySem PySem.Spec PyProof.Rows PySem.W
section
variable {X:Cx}
end
end L2
namespace L2
open PySem
theorem qq3 {J:It}{H:Hp}{n k:Nat}{item:Nat->V->Hp->Prop}{g:TG}{tt:TT}{te:TE}{σ:St}{Fin:Hp->Prop}{D:Addr}(hD:H D=none) (yes:Nat->Bool) (Rel:Nat->V->Hp->Prop) (G:Goes J H n item) (hsz:n<sizeLine)
  (mono:∀i y H1 H2,Tups H1 H2->Rel i y H1->Rel i y H2)
  (step:∀i x H2,i<n->item i x H2->Same H H2->∀os:St,os.length=k->∀(Q1:Hp->Prop) (Q2:VK),(yes i=false->∀H3,Same H2 H3->Q1 H3)->(yes i=true->∀v H3,Same H2 H3->Rel i v H3->Q2 v H3) ->
   g x (os++σ) H2 λσ4 H4=>tt σ4 H4 λb H5=>if b=true then te σ4 H5 Q2 else Q1 H5)
  (fin:∀ys H2,Same H H2->H2 D=some (.lst ys)->ys.length=((List.range n).filter yes).length->(∀(m:Nat) y j,ys[m]?=some y->((List.range n).filter yes)[m]?=some j->Rel j y H2)->Fin H2) :
  ∃W:Nat->Nat->List V->Hp->Prop,(∃m,W 0 m [] (upd H D (.lst []))) /\
   ∀i m xs H2,W i m xs H2->H2 D=some (.lst xs)/\xs.length<sizeLine/\((J.stop i H2/\Fin H2)\/(J.go i H2/\∀y H3,J.yld i H2 y H3->∀os:St,os.length=k ->
    g y (os++σ) H3 λσ4 H4=>tt σ4 H4 λb H5=>if b=true then te σ4 H5 λv H6=>H6 D=some (.lst xs)/\∃m',m'<m/\W (i+1) m' (xs++[v]) (upd H6 D (.lst (xs++[v]))) else ∃m',m'<m/\W (i+1) m' xs H5)):=by
 refine⟨λi m ys H2=>i<=n/\m=n-i/\ys.length=((List.range i).filter yes).length/\H2 D=some (.lst ys)/\Same H H2/\∀(m:Nat) y j,ys[m]?=some y->((List.range i).filter yes)[m]?=some j->Rel j y H2,⟨n,ZE _,rfl,rfl,qa1,qb1 hD,λm y j h=>by simp at h⟩,?_⟩;rintro i m ys H2 ⟨hi,rfl,hl,hd,s2,rel⟩;have j9:ys.length<=i:=by
  rw[hl];exact ZL (Yr _ _) (by simp)
 refine⟨hd,by lia,?_⟩;by_cases he:i=n
 ·subst he;exact .inl ⟨G.st H2 s2,fin ys H2 s2 hd hl rel⟩
 ·refine .inr ⟨G.go i H2 (by lia) s2,λy H3 hy os ho=>?_⟩;obtain⟨s3,it⟩:=G.yl i H2 y H3 (by lia) s2 hy;refine step i y H3 (by lia) it (s2.trans s3) os ho _ _ (λwO H4 s4=>?_) (λhyes v H4 s4 r4=>?_)
  ·have ef:(List.range (i+1)).filter yes=(List.range i).filter yes:=by
    rw[YM,XT];simp[wO]
   refine⟨n-(i+1),by lia,by lia,rfl,by rw[ef];exact hl,s4 _ _ (s3 _ _ hd),(s2.trans s3).trans s4,λm y j h1 h2=>?_⟩;rw[ef] at h2;exact mono j y H2 H4 (s3.trans s4).tups (rel m y j h1 h2)
  ·have kA:=s4 _ _ (s3 _ _ hd);have ef:(List.range (i+1)).filter yes=(List.range i).filter yes++[i]:=by
    rw[YM,XT];simp[hyes]
   have tk:Tups H4 (upd H4 D (.lst (ys++[v]))):=λb u e=>by
    have:b≠D:=λz=>by subst z;rw[kA] at e;cases e
    rw[qa5 this];exact e
   refine⟨kA,n-(i+1),by lia,by lia,rfl,by rw[ef,Zr,Zr,hl];rfl,qa1,λb o e=>?_,λm z j h1 h2=>?_⟩
   ·rw[qa5 (qa3 e hD)];exact s4 _ _ (s3 _ _ (s2 _ _ e))
   ·rw[ef] at h2;by_cases hm:m<ys.length
    ·rw[Zh hm] at h1;rw[Zh (by lia)] at h2;exact mono j z H4 _ tk (mono j z H2 H4 (s3.trans s4).tups (rel m z j h1 h2))
    ·have vP:m=ys.length:=by
      have:=(gS_ h1).1;simp at this;lia
     rw[Zi (by lia),vP] at h1;rw[Zi (by lia),vP,hl] at h2;have e1:z=v:=by simpa using h1.symm
     have e2:j=i:=by simpa using h2.symm
     rw[e1,e2];exact mono i v H4 _ tk r4
end L2
namespace Qf
def qe2 (rows:List Row):List Stp:=((List.range rows.length).filter λk=>decide (qg8 (rows.getD k []))).map Stp.plain
def used (tp:Nat) (rows:List Row):List Nat:=tp::rows.flatten
def qf3 (tp:Nat) (rows:List Row):List Stp:=((List.range rows.length).filter λk=>decide (k+2∉used tp rows)).map Stp.gone
def qc1 (tp:Nat) (rows:List Row):List Stp:=qh7 rows++qe2 rows++qf3 tp rows
theorem qY1 (rows:List Row):(qh7 rows).length<=rows.length*rows.length:=qx4 (qv3 rows) rows.length
theorem qP4 (rows:List Row):(qe2 rows).length<=rows.length:=by
 unfold qe2;rw[Ze];exact ZL (Yr _ _) (by simp)
theorem qY2 (tp:Nat) (rows:List Row):(qf3 tp rows).length<=rows.length:=by
 unfold qf3;rw[Ze];exact ZL (Yr _ _) (by simp)
end Qf
namespace Pr
open PySem L2 Qf
theorem xx0 {ys:List V}(h:∀(i:Nat) y,ys[i]?=some y->∃b,y=.ref b):∃cs:List Addr,ys=cs.map V.ref:=by
 refine⟨ys.map λv=>match v with|.ref a=>a|_=>0,?_⟩;rw[Ym];refine (VY ys).symm.trans (Yj λv hv=>?_);obtain⟨i,hi,e⟩:=YC hv;obtain⟨b,rfl⟩:=h i v (by rw[<- e];simp[hi])
 rfl
theorem StepsL.of {H:Hp}{D:Addr}{ys:List V}{ts:List Stp}(hD:H D=some (.lst ys)) (hl:ys.length=ts.length) (h:∀(i:Nat) y t,ys[i]?=some y->ts[i]?=some t->∃b,y=.ref b/\H b=some (.tup (qg2 t))):StepsL H D ts:=by
 obtain⟨cs,rfl⟩:=xx0 (ys:=ys) λi y hy=>by
  have hi:=(gS_ hy).1;obtain⟨b,e,_⟩:=h i y (ts[i]'(by lia)) hy (by simp);exact⟨b,e⟩
 refine⟨cs,hD,by simpa using hl,λi b t e1 e2=>?_⟩;obtain⟨b',e3,e4⟩:=h i (.ref b) t (by rw[Zb,e1];rfl) e2;cases e3;exact e4
theorem StepsL.cat {H:Hp}{a b q:Addr}{ss ts:List Stp}{xs ys:List V}(h1:StepsL H a ss) (h2:StepsL H b ts) (ha:H a=some (.lst xs)) (hb:H b=some (.lst ys)) (hq:H q=none):StepsL (upd H q (.lst (xs++ys))) q (ss++ts):=by
 obtain⟨bs,e1,l1,t1⟩:=h1;obtain⟨cs,e2,l2,t2⟩:=h2;rw[ha] at e1;rw[hb] at e2;have e1':=HO.lst.inj (Zv e1);have e2':=HO.lst.inj (Zv e2);refine⟨bs++cs,by rw[qa1,e1',e2',ZW],by simp[l1,l2],λi c t g1 g2=>?_⟩;refine qc2 ?_ hq;by_cases hi:i<bs.length
 ·rw[Zh hi] at g1;rw[Zh (by lia)] at g2;exact t1 i c t g1 g2
 ·rw[Zi (by lia)] at g1;rw[Zi (by lia),<- l1] at g2;exact t2 _ c t g1 g2
def Has (kvs:List (Key×V)) (l:List Nat):Prop:=∀x:Nat,(valV kvs (Sum.inl (x:Int))).isSome=decide (x∈l)
theorem Has.put {kvs:List (Key×V)}{l:List Nat}(h:Has kvs l) (m:Nat) (v:V):Has (putK kvs (Sum.inl (m:Int)) v) (l++[m]):=λx=>by
 rw[qG2];by_cases e:x=m
 ·subst e;rw[Zp rfl];simp
 ·have n:¬(Sum.inl (x:Int):Key)=Sum.inl (m:Int):=λz=>e (Xi (X7 z));rw[Zk n,h x];simp[e]
theorem xm3 {κ:Type}[DecidableEq κ] (kvs:List (κ×V)) (k:κ) (v:V):(putK kvs k v).length<=kvs.length+1:=by
 unfold putK;split
 ·rw[Ze];lia
 ·simp
section
variable {P:Program}{w:World}{K:PySem.W.Frag}{mg:Str->Option Value}{base:Heap}
theorem scPlainS:FnScope ["rows"] ["rows"] (qa4 qA3):=qd9
def qY3:Sp:=λvs H Q _=>∃(p:Addr) (rows:List Row),vs=[.ref p]/\RowsAt H p rows/\qb2 rows/\rows.length<=900/\∀H' q,Same H H'->H q=none->StepsL H' q (qe2 rows)->Q (.ref q) H'
theorem xd7 {f fP:Addr}{fd fdP:FuncData}(F:Fun K "plain_steps" "plain_steps" qA3 f fd) (B:Blt mg) (T:Cst mg) (hP:mg "is_plain" = some (.ref fP)) (FP:Fun K "is_plain" "is_plain" qA1 fP fdP) (bP:Binds K fdP ["row"] []):FnOk P w K mg base CX0 3 f fd ["rows"] qY3:=by
 have GP:FnOk P w K mg base CX0 2 fP fdP ["row"] qI7:=qI9 FP T;refine F.ok scPlainS (λvs H Q E h=>?_) (λcdv A outer s H vs Q E hr h=>?_)
 ·obtain⟨p,rows,rfl,_⟩:=h
  rfl
 ·obtain⟨p,rows,rfl,hR,ok,hn,q⟩:=h;obtain⟨bs,hp,j9,jA⟩:=id hR;have jI:(bs.map V.ref).length=rows.length:=by rw[Ze];exact j9
  refine⟨_,qa8 (qb0 (q20 ["rows"] (qa4 qA3) rfl rfl rfl scPlainS.nd (qH6 (by rfl) B.enum (qa0 (pv 0) qa2)) (λcl C fp s₀ H₀=>qe6 (pcN GP hr hP FP.kp bP (qa0 (pv 1) qa2))) (λcl C fp s₀ H₀=>ql7 (qa0 qT9 (qa0 (pv 0) qa2))))),?_⟩;refine⟨_,rfl,p,rfl,⟨_,SqT.of hp⟩,λD hD=>qq3 hD (λk=>decide (qg8 (rows.getD k []))) (λj z H3=>∃b,z=.ref b/\H3 b=some (.tup (qg2 (.plain j)))) (qN9 (K:=K) hp) (by rw[jI];exact qd5 (by lia)) (λi y H1 H2 t ⟨b,h1,h2⟩=>⟨b,h1,t _ _ h2⟩) ?_ ?_⟩
  ·rintro i x H2 hi ⟨t,y,rfl,hy,ht⟩ s2 os ho Q1 Q2 q1 q2
   match os,ho with
   |[o1,o2],_=>
    have vE:i<rows.length:=by rw[<- jI];exact hi
    rw[Zb] at hy;obtain⟨b,hb,rfl⟩:=Zj.mp hy;have jF:rows[i]?=some rows[i]:=by simp[vE]
    have eg:rows.getD i []=rows[i]:=by rw[Zx,jF];rfl
    rw[eg] at q1 q2;refine⟨t,_,rfl,SqT.of ht,rfl,_,_,rfl,_,_,rfl,rfl,?_⟩;refine⟨_,rfl,b,rows[i],rfl,s2 _ _ (jA i b _ hb jF),(ok i _ jF).1,λH3 s3=>⟨_,rfl,?_⟩⟩;by_cases hc:qg8 rows[i]
    ·rw[Zl hc] at q2 ⊢;refine iteT ?_;exact⟨_,rfl,(by show 2<=sizeLine;decide),λc hc'=>q2 rfl _ _ (s3.trans (qb1 hc')) ⟨c,rfl,qa1⟩⟩
    ·rw[Zq hc] at q1 ⊢;exact iteF (q1 rfl H3 s3)
  ·intro ys H2 s2 jR jK jM;rw[jI] at jK jM;refine q H2 D s2 hD (StepsL.of jR (by unfold qe2;rw[Ze];exact jK) λi y t h1 h2=>?_);unfold qe2 at h2;rw[Zb] at h2;obtain⟨j,hj,rfl⟩:=Zj.mp h2;exact jM i y j h1 hj
theorem scGone:FnScope ["top", "rows", "used", "row", "number"] ["top", "rows"] (qa4 xb6):=qd9
def xq7:Sp:=λvs H Q _=>∃(p:Addr) (tp:Nat) (rows:List Row),vs=[.int (tp:Nat),.ref p]/\RowsAt H p rows/\qb2 rows/\rows.length<=900/\∀H' q,Same H H'->H q=none->StepsL H' q (qf3 tp rows)->Q (.ref q) H'
theorem xx1 {f:Addr}{fd:FuncData}(F:Fun K "gone_steps" "gone_steps" xb6 f fd) (B:Blt mg) (T:Cst mg):FnOk P w K mg base CX0 1 f fd ["top", "rows"] xq7:=by
 obtain⟨tf,hf⟩:=T.first;refine F.ok scGone (λvs H Q E h=>?_) (λcdv A outer s H vs Q E hr h=>?_)
 ·obtain⟨p,tp,rows,rfl,_⟩:=h
  rfl
 ·obtain⟨p,tp,rows,rfl,hR,ok,hn,q⟩:=h;obtain⟨bs,hp,j9,jA⟩:=id hR;have jI:(bs.map V.ref).length=rows.length:=by rw[Ze];exact j9
  have hu:A.units+3+1<cLine:=by
   have h2:A.units+3+16*0+200<cLine:=hr.un;lia
  refine seqE ⟨_,xc6 (i:=2) scGone.nd rfl (by first|left;rfl|right;rfl) (qX7 (.cons ⟨pv 0⟩ ⟨qo7⟩ .nil) rfl rfl (λz=>nomatch z) (by decide)) rfl rfl,?_⟩;refine seqE ⟨_,⟨qj0 Z2 rfl (qi9 (pv 1)) (pgN 3 scGone.nd) (qa8 (qj0 Z2 rfl (qi9 (pv 3)) (pgN 4 scGone.nd) (qa8 (qu2 hu (pv 2) (pv 4) qo7 (by rfl)))))⟩,?_⟩;refine qh3 ⟨_,⟨qb0 (qz8 ["top", "rows", "used", "row", "number"] (qa4 xb6) rfl rfl rfl scGone.nd (qh6 (by rfl) B.range (qa0 (qa7 qa9 (by rfl) B.len ZM (qa0 (pv 1) qa2)) qa2)) (λcl C fp s₀ H₀=>qx9 (qm3 hu (qb3 qd3 (pv 0) (qd6 (v:=.int 2) (by rfl) hf ⟨_,rfl⟩)) (pv 3))) (λcl C fp s₀ H₀=>ql7 (qa0 qT9 (qa0 (pv 0) qa2))))⟩,?_⟩;refine λU hU=>⟨_,rfl,qa1,[(Sum.inl (tp:Int),.bl true)],rfl,(by show 1<=15;decide),?_⟩;have eg:qz0 [] [((Sum.inl (tp:Int):Key),V.bl true)]=[(Sum.inl (tp:Int),.bl true)]:=rfl;rw[eg,xs3];have h0:Has [((Sum.inl (tp:Int):Key),V.bl true)] [tp]:=λx=>by
   by_cases e:x=tp
   ·subst e;rw[qf5 rfl];simp
   ·rw[qe3 (λz=>e (Xi (X7 z)).symm),xi6];simp[e]
  have stop:∀{H2:Hp}{kvs:List (Key×V)},H2 U=some (.dK kvs)->Tups H2 H2:=λ_ _ _ h=>h;have keep:∀{H2:Hp}{o:HO},Same H H2->Same H (upd H2 U o):=λs b o e=>by rw[qa5 (qa3 e hU)];exact s _ _ e
  refine⟨_,rfl,p,rfl,⟨_,SqT.of (qc2 hp hU)⟩,qp5 (K:=K) (xs:=bs.map V.ref) (λi σ H2=>∃kvs,Same H H2/\H2 U=some (.dK kvs)/\Has kvs (tp::(rows.take i).flatten)/\kvs.length<=1+4*i/\∃v3 v4,σ=[some (.int (tp:Nat)),some (.ref p),some (.ref U),v3,v4])
   ⟨_,qb1 hU,qa1,by simpa using h0,by simp,none,none,rfl⟩ (λi σ H2 _ ⟨_,s2,_⟩=>SqT.of (s2 _ _ hp)) ?_ ?_⟩
  ·rintro i y σ H2 hy ⟨kvs,s2,kU,has,hkl,v3,v4,rfl⟩;have hi:i<rows.length:=by rw[<- jI];exact (gS_ hy).1
   rw[Zb] at hy;obtain⟨b,hb,rfl⟩:=Zj.mp hy;have jF:rows[i]?=some rows[i]:=by simp[hi]
   have jQ:=jA i b rows[i] hb jF;have r4:=(ok i _ jF).1;have etk:(rows.take (i+1)).flatten=(rows.take i).flatten++rows[i]:=by rw[Xw hi,List.flatten_append];simp
   generalize rows[i]=r at jF jQ etk r4;refine⟨_,rfl,b,rfl,⟨_,SqT.of (s2 _ _ jQ)⟩,qp5 (K:=K) (xs:=vN r) (λj σ H3=>∃kvs,Same H H3/\H3 U=some (.dK kvs)/\Has kvs (tp::(rows.take i).flatten++r.take j)/\kvs.length<=1+4*i+j/\∃v4,σ=[some (.int (tp:Nat)),some (.ref p),some (.ref U),some (.ref b),v4])
    ⟨kvs,s2,kU,by simpa using has,by lia,_,rfl⟩ (λj σ H3 _ ⟨_,s3,_⟩=>SqT.of (s3 _ _ jQ)) ?_ ?_⟩
   ·rintro j x σ H3 hx ⟨kvs3,s3,vV,has3,hk3,v5,rfl⟩;obtain⟨m,hm,rfl⟩:=qi0 hx;have hjl:=(gS_ hm).1;have hjm:=(gS_ hm).2;refine⟨_,rfl,_,rfl,U,_,rfl,DPut.k (k:=Sum.inl (m:Int)) vV (qd5 (by lia)),?_⟩;refine⟨_,keep s3,qa1,?_,by have:=xm3 kvs3 (Sum.inl (m:Int):Key) (.bl true);lia,_,rfl⟩;have:=has3.put m (.bl true);rw[Ye,<- hjm,YI hjl] at this;rw[hjm] at this;exact this
   ·rintro σ H3 ⟨kvs3,s3,vV,has3,hk3,v5,rfl⟩;rw[qb5,YS] at has3;rw[qb5,r4] at hk3;exact⟨kvs3,s3,vV,by rw[etk];exact has3,by lia,_,_,rfl⟩
  ·rintro σ H2 ⟨kvs,s2,kU,has,hkl,v3,v4,rfl⟩;rw[jI,YS] at has;have k9:=s2 _ _ hp;refine⟨_,rfl,p,_,rfl,.inr (SqT.of k9),_,rfl,?_⟩;rw[jI];refine⟨by lia,by lia,λD hD=>qq3 hD (λk=>decide (k+2∉used tp rows)) (λj z H3=>∃b,z=.ref b/\H3 b=some (.tup (qg2 (.gone j)))) qX1 (qd5 (by lia)) (λi y H1 H2 t ⟨b,h1,h2⟩=>⟨b,h1,t _ _ h2⟩) ?_ ?_⟩
   ·rintro i x H3 hi rfl s3 os ho Q1 Q2 q1 q2
    match os,ho with
    |[o1],_=>
     have dg:DGet H3 U (.int ((i:Int)+2)) (valV kvs (Sum.inl ((i+2:Nat):Int))):=DGet.k (k:=Sum.inl ((i+2:Nat):Int)) (s3 _ _ kU);refine⟨_,rfl,_,_,rfl,rfl,_,rfl,U,_,rfl,dg,_,rfl,?_⟩;rw[has (i+2)];by_cases hc:i+2∈used tp rows
     ·have hc':i+2∈tp::rows.flatten:=hc;rw[Zl hc'];rw[Zq (not_not_intro hc)] at q1;exact iteF (q1 rfl H3 (Same.refl _))
     ·have hc':¬i+2∈tp::rows.flatten:=hc;rw[Zq hc'];rw[Zl hc] at q2;refine iteT ?_;exact⟨_,rfl,(by show 2<=sizeLine;decide),λc hc'=>q2 rfl _ _ (qb1 hc') ⟨c,rfl,qa1⟩⟩
   ·intro ys H3 s3 k6 jK jM;have hDn:H D=none:=by
     cases e:H D with
     |none=>rfl
     |some o=>rw[s2 _ _ e] at hD;cases hD
    refine q H3 D (s2.trans s3) hDn (StepsL.of k6 (by unfold qf3;rw[Ze];exact jK) λi y t h1 h2=>?_);unfold qf3 at h2;rw[Zb] at h2;obtain⟨j,hj,rfl⟩:=Zj.mp h2;exact jM i y j h1 hj
theorem scStepsOf:FnScope ["telling", "top", "rows"] ["telling"] (qa4 qo1):=qd9
def qt0:Sp:=λvs H Q _=>∃(t:Addr) (n tp:Nat) (rows:List Row),vs=[.ref t]/\TellAt H t n tp rows/\qg1 n tp rows/\∀H' q,Same H H'->H q=none->StepsL H' q (srt (qc1 tp rows))->Q (.ref q) H'
theorem q34 {f fW fS fP fG:Addr}{fd fdW fdS fdP fdG:FuncData}(F:Fun K "steps_of" "steps_of" qo1 f fd) (hso:mg "sorted" = none)
  (hW:mg "want_telling" = some (.ref fW)) (FW:Fun K "want_telling" "want_telling" qu8 fW fdW) (bW:Binds K fdW ["telling"] []) (GW:FnOk P w K mg base CX0 6 fW fdW ["telling"] qx5)
  (hS:mg "same_steps" = some (.ref fS)) (FS:Fun K "same_steps" "same_steps" xb5 fS fdS) (bS:Binds K fdS ["rows"] []) (GS:FnOk P w K mg base CX0 1 fS fdS ["rows"] xq6)
  (hP:mg "plain_steps" = some (.ref fP)) (FP:Fun K "plain_steps" "plain_steps" qA3 fP fdP) (bP:Binds K fdP ["rows"] []) (GP:FnOk P w K mg base CX0 3 fP fdP ["rows"] qY3)
  (hG:mg "gone_steps" = some (.ref fG)) (FG:Fun K "gone_steps" "gone_steps" xb6 fG fdG) (bG:Binds K fdG ["top", "rows"] []) (GG:FnOk P w K mg base CX0 1 fG fdG ["top", "rows"] xq7):FnOk P w K mg base CX0 7 f fd ["telling"] qt0:=by
 refine F.ok scStepsOf (λvs H Q E h=>?_) (λcdv A outer s H vs Q E hr h=>?_)
 ·obtain⟨t,n,tp,rows,rfl,_⟩:=h
  rfl
 ·obtain⟨t,n,tp,rows,rfl,hT,tok,q⟩:=h;obtain⟨p,ht,hR⟩:=id hT;have jF:Room 1 _:=hr.mono (by decide);have hr3:Room 3 _:=hr.mono (by decide);refine seqE ⟨_,⟨qf0 (pcN GW hr hW FW.kp bW (qa0 (pv 0) qa2))⟩,?_⟩;refine seqE ⟨_,⟨qo9 (qq9 qU5 (pv 0) (qy6 qa6) qy5) (qo8 rfl (qc3 (pgN 1 scStepsOf.nd) (qc3 (pgN 2 scStepsOf.nd) qj7)))⟩,?_⟩;refine qh3 ⟨_,⟨qb0 (qa7 qP3 (by rfl) hso PyProof.Rows.boot_sorted (qa0 (qb3 qU7 (qb3 qU7 (pcN GS jF hS FS.kp bS (qa0 (pv 2) qa2)) (pcN GP hr3 hP FP.kp bP (qa0 (pv 2) qa2))) (pcN GG jF hG FG.kp bG (qa0 (pv 1) (qa0 (pv 2) qa2)))) qa2))⟩,?_⟩;refine⟨_,rfl,t,n,tp,rows,rfl,hT,tok,λH1 s1=>?_⟩;have ht1:=s1 _ _ ht;refine⟨_,rfl,_,rfl,t,_,rfl,SqT.of ht1,(λz=>absurd (show HT.sIx 3 0 (some 1)=0 from z.1) (by decide)),λu hu=>?_⟩;refine⟨u,_,rfl,SqT.of qa1,rfl,_,_,rfl,_,_,rfl,rfl,?_⟩;have sA:Same H (upd H1 u (.tup [.int (tp:Nat),.ref p])):=s1.trans (qb1 hu);obtain⟨_,ok,hl,_⟩:=tok;refine (λ(go:∀H2,Same H H2->_)=>go _ sA) ?_;intro H2 sA;have few:=qY1 rows;have fp:=qP4 rows;have fg:=qY2 tp rows;have sq:rows.length*rows.length<=900*900:=We hl hl;refine⟨_,rfl,p,rows,rfl,hR.same sA,hl,λH3 a s3 ha st3=>?_⟩;refine⟨_,rfl,p,rows,rfl,hR.same (sA.trans s3),ok,hl,λH4 b s4 hb st4=>?_⟩;have st3':=st3.same s4;obtain⟨bs3,h3,l3,_⟩:=id st3';obtain⟨bs4,h4,l4,_⟩:=id st4;refine⟨a,b,_,_,rfl,rfl,h3,h4,by rw[Ze,Ze,l3,l4];exact Y6 (qd5 (by lia)),λc hc=>?_⟩;have st5:=StepsL.cat st3' st4 h3 h4 hc;have s5:=((sA.trans s3).trans s4).trans (qb1 (o:=.lst (bs3.map V.ref++bs4.map V.ref)) hc);generalize upd H4 c (.lst (bs3.map V.ref++bs4.map V.ref))=H5 at st5 s5;refine⟨_,rfl,_,rfl,p,tp,rows,rfl,hR.same s5,ok,hl,λH6 d s6 hd st6=>?_⟩;have st5':=st5.same s6;obtain⟨bs5,h5,l5,_⟩:=id st5';obtain⟨bs6,h6,l6,_⟩:=id st6;refine⟨c,d,_,_,rfl,rfl,h5,h6,by rw[Ze,Ze,l5,l6,Zr];exact Y6 (qd5 (by lia)),λe he=>?_⟩;have st7:=StepsL.cat st5' st6 h5 h6 he;have s7:=(s5.trans s6).trans (qb1 (o:=.lst (bs5.map V.ref++bs6.map V.ref)) he);refine⟨e,_,rfl,st7,λg H8 s8 hg st8=>q H8 g (s7.trans s8) ?_ st8⟩;cases z:H g with
  |none=>rfl
  |some o=>rw[s7 _ _ z] at hg;cases hg
end
end Pr
namespace Qf
def ren (k nb x:Nat):Nat:=if x<k+2 then x else if x=k+2 then nb else x-1
def qm0 (k:Nat) (rows:List Row):List Row:=rows.take k++rows.drop (k+1)
def qc5 (k nb:Nat) (rows:List Row):List Row:=(qm0 k rows).map (·.map (ren k nb))
theorem qY4 {k:Nat}{rows:List Row}(h:k<rows.length):(qm0 k rows).length=rows.length-1:=by
 unfold qm0;simp;lia
theorem qJ4 {k i:Nat}{rows:List Row}(hk:k<rows.length) (h:i<k):(qm0 k rows)[i]?=rows[i]?:=by
 unfold qm0;rw[Zh (by simp;lia),YH h]
theorem qJ5 {k i:Nat}{rows:List Row}(hk:k<rows.length) (h:k<=i):(qm0 k rows)[i]?=rows[i+1]?:=by
 unfold qm0;rw[Zi (by simp;lia),Vs];congr 1;simp;lia
theorem qo5 {k nb i:Nat}{rows:List Row}:(qc5 k nb rows)[i]?=((qm0 k rows)[i]?).map (·.map (ren k nb)):=Zb ..
theorem qJ6 {k nb:Nat}{rows:List Row}(h:k<rows.length):(qc5 k nb rows).length=rows.length-1:=by
 unfold qc5;rw[Ze,qY4 h]
theorem qB2 {k nb x:Nat}(h:x<k+2):ren k nb x=x:=Zp h
theorem xd8 {k nb:Nat}:ren k nb (k+2)=nb:=by unfold ren;rw[Zk (by lia),Zp rfl]
theorem xd9 {k nb x:Nat}(h:k+2<x):ren k nb x=x-1:=by unfold ren;rw[Zk (by lia),Zk (by lia)]
theorem xm4 {k nb i:Nat}{rows:List Row}{r':Row}(hk:k<rows.length) (h:(qc5 k nb rows)[i]?=some r'):∃r,rows[if i<k then i else i+1]?=some r/\r'=r.map (ren k nb):=by
 rw[qo5] at h;obtain⟨r,hr,rfl⟩:=Zj.mp h;refine⟨r,?_,rfl⟩;by_cases c:i<k
 ·rw[Zp c,<- qJ4 hk c];exact hr
 ·rw[Zk c,<- qJ5 hk (by lia)];exact hr
theorem qJ7 {k nb:Nat}{rows:List Row}(ok:qb2 rows) (hk:k<rows.length) (hb:nb<k+2):qb2 (qc5 k nb rows):=λi r' h=>by
 obtain⟨r,hr,rfl⟩:=xm4 hk h;have rk:=ok _ _ hr;refine⟨by rw[Ze];exact rk.1,λy hy=>?_⟩;obtain⟨x,hx,rfl⟩:=ZR.mp hy;have jB:=rk.2 x hx;unfold ren;by_cases c:i<k
 ·rw[Zp c] at jB;rw[Zp (by lia)];exact jB
 ·rw[Zk c] at jB;split
  ·lia
  ·split
   ·lia
   ·lia
theorem xx2 {k nb:Nat}{rows:List Row}(ok:qb2 rows) (hk:k<rows.length) (hb:nb<k+2) (hd:dp rows nb<=dp rows (k+2)):∀x,x<rows.length+2->dp (qc5 k nb rows) (ren k nb x)<=dp rows x:=by
 intro x
 induction x using Nat.strongRecOn with
 |ind x ih=>
  intro hx;by_cases c0:x<2
  ·rw[qB2 (by lia),qE1 c0];exact ZE _
  ·have hp:rows[x-2]?=some (rows.getD (x-2) []):=qd0 (by lia);have ed:=qp8 ok hp;have rk:=ok _ _ hp;rw[show x-2+2=x by lia] at ed;have rk2:∀y∈rows.getD (x-2) [],y<x:=λy hy=>by have:=rk.2 y hy;lia
   have so:=qJ7 (nb:=nb) ok hk hb;have body:∀i,(qc5 k nb rows)[i]?=some ((rows.getD (x-2) []).map (ren k nb))->dp (qc5 k nb rows) (i+2)<=dp rows x:=λi hi=>by
    rw[qp8 so hi,ed,Ym];refine Nat.add_le_add_left (xk1 λz hz=>?_) 1;obtain⟨y,hy,rfl⟩:=ZR.mp hz;refine ZL (ih y (rk2 y hy) (by have:=rk2 y hy;lia)) (qH8 (ZR.mpr ⟨y,hy,rfl⟩))
   by_cases c1:x<k+2
   ·rw[qB2 c1];have:=body (x-2) (by rw[qo5,qJ4 hk (by lia),hp];rfl)
    rwa [show x-2+2=x by lia] at this
   ·by_cases c2:x=k+2
    ·subst c2;rw[xd8];have:=ih nb (by lia) (by lia);rw[qB2 hb] at this;exact ZL this hd
    ·rw[xd9 (by lia)];have:=body (x-3) (by rw[qo5,qJ5 hk (by lia),show x-3+1=x-2 by lia,hp];rfl)
     rwa [show x-3+2=x-1 by lia] at this
theorem xm5 {k nb tp:Nat}{rows:List Row}(hk:k<rows.length) (hb:nb<k+2) (h:tp<rows.length+2):ren k nb tp<(qc5 k nb rows).length+2:=by
 rw[qJ6 hk];unfold ren;split
 ·lia
 ·split<;>lia
def Stp.at:Stp->Nat
 |.gone k=>k
 |.plain k=>k
 |.same k _=>k
def nbP (rows:List Row):Stp->Nat
 |.gone k=>(rows.getD k []).getD 0 0
 |.plain k=>(rows.getD k []).getD 0 0
 |.same _ j=>j+2
theorem xx3 {l:List Row}{r:Row}{j:Nat}(h:j∈ixs l r):j<l.length/\l[j]?=some r:=by
 unfold ixs at h;obtain⟨h1,h2⟩:=ZP.mp h;exact⟨ZH.mp h1,ZI h2⟩
theorem xm6 {rows:List Row}{k j:Nat}(h:Stp.same k j∈qh7 rows):k<rows.length/\j<k/\rows[j]?=rows[k]?:=by
 unfold qh7 at h;obtain⟨i,hi,h2⟩:=List.mem_flatMap.mp h;unfold qj6 at h2;obtain⟨m,hm,e⟩:=ZR.mp h2;cases e;have hi':=ZH.mp hi;obtain⟨m1,m2⟩:=xx3 hm;have hmi:j<k:=by simp at m1;lia
 refine⟨hi',hmi,?_⟩;rw[YH hmi] at m2;rw[m2,qd0 hi']
theorem xe0 {rows:List Row}{k:Nat}(h:Stp.plain k∈qe2 rows):k<rows.length/\qg8 (rows.getD k []):=by
 unfold qe2 at h;obtain⟨m,hm,e⟩:=ZR.mp h;cases e;obtain⟨h1,h2⟩:=ZP.mp hm;exact⟨ZH.mp h1,ZI h2⟩
theorem xm7 {tp:Nat}{rows:List Row}{k:Nat}(h:Stp.gone k∈qf3 tp rows):k<rows.length/\k+2∉used tp rows:=by
 unfold qf3 at h;obtain⟨m,hm,e⟩:=ZR.mp h;cases e;obtain⟨h1,h2⟩:=ZP.mp hm;exact⟨ZH.mp h1,ZI h2⟩
theorem qJ8 {tp:Nat}{rows:List Row}{s:Stp}(h:s∈qc1 tp rows):match s with
  |.gone k=>k<rows.length/\k+2∉used tp rows
  |.plain k=>k<rows.length/\qg8 (rows.getD k [])
  |.same k j=>k<rows.length/\j<k/\rows[j]?=rows[k]?:=by
 unfold qc1 at h;have n1:∀{s},s∈qh7 rows->∃k j,s=Stp.same k j:=λ{s} h=>by
  unfold qh7 at h;obtain⟨i,_,h2⟩:=List.mem_flatMap.mp h;unfold qj6 at h2;obtain⟨m,_,e⟩:=ZR.mp h2;exact⟨i,m,e.symm⟩
 have n2:∀{s},s∈qe2 rows->∃k,s=Stp.plain k:=λ{s} h=>by
  unfold qe2 at h;obtain⟨m,_,e⟩:=ZR.mp h;exact⟨m,e.symm⟩
 have n3:∀{s},s∈qf3 tp rows->∃k,s=Stp.gone k:=λ{s} h=>by
  unfold qf3 at h;obtain⟨m,_,e⟩:=ZR.mp h;exact⟨m,e.symm⟩
 rcases Z6.mp h with h|h
 ·rcases Z6.mp h with h|h
  ·obtain⟨k,j,rfl⟩:=n1 h;exact xm6 h
  ·obtain⟨k,rfl⟩:=n2 h;exact xe0 h
 ·obtain⟨k,rfl⟩:=n3 h;exact xm7 h
theorem xm8 {tp:Nat}{rows:List Row}{s:Stp}(h:s∈qc1 tp rows):s.at<rows.length:=by
 have:=qJ8 h;cases s<;>exact this.1
theorem row0 {rows:List Row}(ok:qb2 rows){k:Nat}(h:k<rows.length):(rows.getD k []).getD 0 0∈rows.getD k []:=by
 have rk:=ok k _ (qd0 h)
 match e:rows.getD k [],rk.1 with
 |x::_,_=>simp
theorem xq8 {tp:Nat}{rows:List Row}(ok:qb2 rows){s:Stp}(h:s∈qc1 tp rows):nbP rows s<s.at+2/\dp rows (nbP rows s)<=dp rows (s.at+2):=by
 have m:=qJ8 h;have g:∀k,k<rows.length->(rows.getD k []).getD 0 0<k+2/\dp rows ((rows.getD k []).getD 0 0)<=dp rows (k+2):=λk hk=>by
  have r0:=row0 ok hk;have ek:=qd0 hk;refine⟨(ok k _ ek).2 _ r0,?_⟩;rw[qp8 ok ek];have:=qH8 (ZR.mpr ⟨_,r0,rfl⟩:dp rows ((rows.getD k []).getD 0 0)∈(rows.getD k []).map (dp rows));lia
 cases s with
 |gone k=>exact g k m.1
 |plain k=>exact g k m.1
 |same k j=>
  obtain⟨m1,m2,m3⟩:=m;refine⟨by show j+2<k+2;lia,?_⟩;have ek:=qd0 m1;rw[ek] at m3;show dp rows (j+2)<=dp rows (k+2);rw[qp8 ok ek,qp8 ok m3];exact Zd _
theorem xx4 {k nb m:Nat}(hk:k<m):List.range (k+2)++[nb]++(List.range (m+1-(k+2))).map (k+2+·)=(List.range (m+2)).map (ren k nb):=by
 refine Xc λi=>?_;rw[Zb];by_cases c1:i<k+2
 ·rw[Ye,Zh (by simpa using c1),Yc c1,Yc (by lia)];show some i=some (ren k nb i);rw[qB2 c1]
 ·by_cases c2:i=k+2
  ·subst c2;rw[Ye,Zi (by simp),Zh (by simp),Yc (by lia)];simp[xd8]
  ·rw[Zi (by simp;lia),Zb];by_cases c3:i<m+2
   ·rw[Yc (by simp;lia),Yc c3];show some _=some (ren k nb i);rw[xd9 (by lia)];simp;lia
   ·rw[Yb (by simp;lia),Yb (by simp;lia)];rfl
end Qf
namespace Qf
open Tr
theorem xE3 {rows:List Row}(ok:qb2 rows){E:List Nat}(pe:Post rows E):∀q,InE E q->T (told rows E) (nm E q)=T rows q:=by
 intro q
 induction q using Nat.strongRecOn with
 |ind q ih=>
  intro hq;by_cases z:q<2
  ·rw[qj2 z]
   match q,z with
   |0,_=>rw[qj3,qj3]
   |1,_=>rw[qq1,qq1]
  ·have hm:=hq.resolve_left z;have hp:=pe.lt _ hm;have ea:=qE2 hm;obtain⟨a,b,c,d,e⟩:=qn2 (ok _ _ (qd0 hp)).1;have hg:=qd0 hp;have hta:=qm8 (rows:=rows) ea;have rin:=λx (hx:x∈rows.getD (q-2) [])=>(qN7 pe ea hx).1;have jB:=(ok _ _ hg).2;rw[e] at hg hta rin jB;rw[qg6 z,qs8 (qS4 ok pe) hta];have e2:T rows q=.nd (T rows a) (T rows b) (T rows c) (T rows d):=by
    have:=qs8 ok hg
    rwa [show q-2+2=q by lia] at this
   rw[e2,ih a (by have:=jB a (by simp);lia) (rin a (by simp)),ih b (by have:=jB b (by simp);lia) (rin b (by simp)),ih c (by have:=jB c (by simp);lia) (rin c (by simp)),ih d (by have:=jB d (by simp);lia) (rin d (by simp))]
theorem qF1 {n x:Nat}{rows:List Row}(hn:n<=12) (ok:qb2 rows) (hx:x<rows.length+2) (hd:dp rows x<=n) (np:∀r∈rows,¬qg8 r) (nd:rows.Nodup) :
  Canon n (nm (dfs rows n [] x) x) (told rows (dfs rows n [] x))/\T (told rows (dfs rows n [] x)) (nm (dfs rows n [] x) x)=T rows x:=by
 obtain⟨pe,hi⟩:=qe7 ok n [] x (qg5 rows) hx hd;exact⟨q24 hn ok hx hd np nd,xE3 ok pe x hi⟩
theorem qB3 {L:List Tr}{t:Tr}(h:In L t):post t L=L:=by
 cases t with
 |z=>rfl
 |o=>rfl
 |nd a b c d=>
  have hm:Tr.nd a b c d∈L:=by rcases h with h|h|h;cases h;cases h;exact h
  unfold post;rw[Zp hm]
theorem qF2 {L:List Tr}(h:Ord L){t:Tr}(hk:∀s∈kids t,In L s):rowsOf (L++[t])=rowsOf L++[(kids t).map (name L)]:=by
 unfold rowsOf;rw[ZW];congr 1
 ·refine Yj λu hu=>?_;obtain⟨i,hi,e⟩:=ZK.mp hu;exact Yj λs hs=>name_app (kid_in h (i:=i) (t:=u) (by rw[Zc hi,e]) hs).1 h
 ·show[(kids t).map (name (L++[t]))]=_;congr 1;exact Yj λs hs=>name_app (hk s hs) h
theorem xe1 {L:List Tr}(h:Ord L){a b c d:Tr}(hk:∀s∈kids (.nd a b c d),In L s):(kids (.nd a b c d)).map (name L)∈rowsOf L<->Tr.nd a b c d∈L:=by
 constructor
 ·intro hm;obtain⟨i,hi,e⟩:=ZK.mp hm;obtain⟨t,ht,er⟩:=qv1 (i:=i) (r:=(kids (.nd a b c d)).map (name L)) (by rw[Zc hi,e]);have:=qX9 ⟨a,b,c,d,rfl⟩ (h.ch i t ht).1 (qn1 h hk (λs hs=>(kid_in h ht hs).1) er);rw[this];exact Zm ht
 ·intro hm;obtain⟨i,hi,e⟩:=ZK.mp hm;exact Zm (rowsOf_at (i:=i) (t:=.nd a b c d) (by rw[Zc hi,e]))
theorem xx5 {L:List Tr}(h:Ord L){i:Nat}{t:Tr}(e:L[i]?=some t):(rowsOf L).idxOf ((kids t).map (name L))=i:=by
 have hl:=(gS_ e).1;have e2:=rowsOf_at e;have jW:i<(rowsOf L).length:=by rw[rowsOf_len];exact hl
 have e3:=(gS_ e2).2;rw[<- e3];exact (rowsOf_nodup h).idxOf_getElem i jW
end Qf
namespace Pr
open PySem L2 Qf
theorem qY5 {H:Hp}{e u:Addr}{L:List Tr}(hO:Tr.Ord L){a b c d:Tr}(hm:Tr.nd a b c d∈L) (he:H e=some (.dT (tK (Tr.rowsOf L)))) (hu:H u=some (.tup (vN [Tr.name L a,Tr.name L b,Tr.name L c,Tr.name L d]))) :
  DGet H e (.ref u) (some (.int (Tr.name L (.nd a b c d):Nat))):=by
 obtain⟨i,hi,ei⟩:=ZK.mp hm;have ei':L[i]?=some (.nd a b c d):=by rw[Zc hi,ei]
 have hix:=xx5 hO ei';have hmr:(Tr.kids (.nd a b c d)).map (Tr.name L)∈Tr.rowsOf L:=Zm (Tr.rowsOf_at ei');have:=DGet.t (k:=keyN ((Tr.kids (.nd a b c d)).map (Tr.name L))) he (by rw[qs4];exact hu);rw[xc9,Zp hmr,hix] at this;rw[Tr.name_at hO ei'];exact this
theorem xE4 {ds:List Nat}{p:Nat}(h:p∉ds):putK (ql4++fK ds) (fKey p) (.int (2+ds.length:Nat))=ql4++fK (ds++[p]):=by
 unfold putK fK;rw[qi1,qA6,qX8,ql3 qs5,Zk h,Zk (by decide),qO9,Ye]
theorem xE5 {E:List Nat}{i q:Nat}(h:InE (E.take i) q):nm (E.take i) q=nm E q:=by
 by_cases z:q<2
 ·rw[qj2 z,qj2 z]
 ·rw[qg6 z,qg6 z];have hm:=h.resolve_left z
  conv=>rhs;rw[<- YF i E]
  rw[VE,Zp hm]
section
variable {P:Program}{w:World}{K:PySem.W.Frag}{mg:Str->Option Value}{base:Heap}
theorem scRenum:FnScope ["row", "numbers"] ["row", "numbers"] (qa4 ql8):=qd9
def xe2:Sp:=λvs H Q _=>∃(b g:Addr) (r:Row) (kvs:List (Key×V)) (f:Nat->Nat),vs=[.ref b,.ref g]/\H b=some (.tup (vN r))/\r.length=4/\H g=some (.dK kvs)/\(∀q∈r,valV kvs (Sum.inl (q:Int))=some (.int (f q:Nat))) /\
 ∀(H':Hp) (t:Addr),Same H H'->H' t=some (.tup (vN (r.map f)))->Q (.ref t) H'
theorem xm9 {f:Addr}{fd:FuncData}(F:Fun K "renumbered" "renumbered" ql8 f fd) (B:Blt mg):FnOk P w K mg base CX0 1 f fd ["row", "numbers"] xe2:=by
 refine F.ok scRenum (λvs H Q E h=>?_) (λcdv A outer s H vs Q E hr h=>?_)
 ·obtain⟨b,g,r,kvs,f,rfl,_⟩:=h
  rfl
 ·obtain⟨b,g,r,kvs,ff,rfl,hb,h4,hg,hv,q⟩:=h;have hu:A.units+3+1<cLine:=by
   have h2:A.units+3+16*0+200<cLine:=hr.un;lia
  refine qh3 ⟨_,⟨qb0 (qb4 (tupO K rfl) (by rfl) B.tuple ZG (qa0 (qe9 ["row", "numbers"] (qa4 ql8) rfl rfl rfl scRenum.nd (qi9 (pv 0)) (λcl C fp s₀ H₀=>qG4 hu (pv 2) (pv 0) (λ_ _=>rfl))) qa2))⟩,?_⟩;refine⟨_,rfl,b,rfl,⟨_,SqT.of hb⟩,λD hD=>qe1 hD (λi z _=>∃m:Nat,r[i]?=some m/\z=.int (ff m:Nat)) (qh4 (K:=K) hb) (by rw[qb5,h4];decide) (λ_ _ _ _ _ _ h=>h) ?_ ?_⟩
  ·intro i x H2 hi hx s2 Q' hq;obtain⟨m,hm,rfl⟩:=qi0 hx;have dg:DGet H2 g (.int (m:Int)) (some (.int (ff m:Nat))):=by
    have:=DGet.k (k:=Sum.inl (m:Int)) (s2 _ _ hg);rw[hv m (Zm hm)] at this;exact this
   exact⟨_,rfl,_,rfl,g,_,rfl,dg,hq _ _ (Same.refl _) ⟨m,hm,rfl⟩⟩
  ·intro ys H2 s2 jR jK jM;have ey:ys=vN (r.map ff):=by
    refine qh5 (by rw[jK,qb5,qb5,Ze]) λi x hx=>?_;obtain⟨m,hm,rfl⟩:=jM i x hx;exact qT0 (by rw[Zb,hm];rfl)
   subst ey;exact⟨D,_,rfl,.inl ⟨SqL.of jR,λl hl=>q _ l (s2.trans (qb1 hl)) qa1⟩⟩
abbrev nSO:List Str:=["n", "top", "rows", "numbers", "told", "place"]
theorem scSO:FnScope nSO ["n", "top", "rows"] (qa4 qx0):=qd9
def spSO:Sp:=λvs H Q _=>∃(rp:Addr) (n tp:Nat) (rows:List Row),vs=[.int (n:Nat),.int (tp:Nat),.ref rp]/\RowsS H rp rows/\qb2 rows/\rows.length<=1190900/\tp<rows.length+2/\n<=12/\dp rows tp<=n /\
 ∀(H':Hp) (t:Addr),Same H H'->TellAt H' t n (nm (dfs rows n [] tp) tp) (told rows (dfs rows n [] tp))->Q (.ref t) H'
theorem xK3 {f fP fE fR:Addr}{fd fdP fdE fdR:FuncData}(F:Fun K "shape_of" "shape_of" qx0 f fd) (B:Blt mg) (T:Cst mg) (hem0:∃t,mg "EMPTY" = some (.int 0 t))
  (hP:mg "places_as_ended" = some (.ref fP)) (FP:Fun K "places_as_ended" "places_as_ended" qA2 fP fdP) (bP:Binds K fdP ["rows", "top"] [])
  (hE:mg "end_rows" = some (.ref fE)) (FE:Fun K "end_rows" "end_rows" sEnd fE fdE) (bE:Binds K fdE ["rows", "number", "ended"] [])
  (hR:mg "renumbered" = some (.ref fR)) (FR:Fun K "renumbered" "renumbered" ql8 fR fdR) (bR:Binds K fdR ["row", "numbers"] []):FnOk P w K mg base CX0 15 f fd ["n", "top", "rows"] spSO:=by
 have GP:∀d,FnOk P w K mg base CX0 (d+2) fP fdP ["rows", "top"] (qx2 d):=λd=>qO6 FP B T hE FE bE d;have GR:FnOk P w K mg base CX0 1 fR fdR ["row", "numbers"] xe2:=xm9 FR B;obtain⟨te,hem⟩:=hem0;obtain⟨tu,hfu⟩:=T.full;obtain⟨tf,hfi⟩:=T.first;refine F.ok scSO (λvs H Q E h=>?_) (λcdv A outer s H vs Q E hr h=>?_)
 ·obtain⟨rp,n,tp,rows,rfl,_⟩:=h
  rfl
 ·obtain⟨rp,n,tp,rows,rfl,hRw,ok,hl,jO,hn,hd,q⟩:=h;have hu:A.units+3+1<cLine:=by
   have h2:A.units+3+16*14+200<cLine:=hr.un;lia
  have hrP:Room (n+2) _:=hr.mono (by lia);have jF:Room 1 _:=hr.mono (by decide);refine seqE ⟨_,xc6 (i:=3) scSO.nd rfl (by first|left;rfl|right;rfl) (qX7 (.cons ⟨qd6 (v:=.int 0) (by rfl) hem ⟨_,rfl⟩⟩ ⟨qd6 (v:=.int 0) (by rfl) hem ⟨_,rfl⟩⟩ (.cons ⟨qd6 (v:=.int 1) (by rfl) hfu ⟨_,rfl⟩⟩ ⟨qd6 (v:=.int 1) (by rfl) hfu ⟨_,rfl⟩⟩ .nil)) rfl rfl (λz=>nomatch z) (by decide)) rfl rfl,?_⟩;refine seqE ⟨_,⟨psN 4 scSO.nd (qf6 qa2)⟩,?_⟩;refine seqE ⟨_,⟨qj0 Z2 rfl (qp4 (pcN (GP n) hrP hP FP.kp bP (qa0 (pv 2) (qa0 (pv 1) qa2)))) (pgN 5 scSO.nd)
   (StB.go (.cons ⟨qf0 (PEb.go (qE8 Z0 Z4 Z5 qf2 ⟨pv 4⟩ (.cons ⟨pcN GR jF hR FR.kp bR (qa0 (pxN (ixS K rfl) (pv 2) (pv 5)) (qa0 (pv 3) qa2))⟩ .nil rfl)))⟩
    (.one ⟨qu2 hu (pv 3) (qb3 qd3 (pv 5) (qd6 (v:=.int 2) (by rfl) hfi ⟨_,rfl⟩)) (qb3 qd3 (qb3 ql6 (qa7 qa9 (by rfl) B.len ZM (qa0 (pv 4) qa2)) qa6) (qd6 (v:=.int 2) (by rfl) hfi ⟨_,rfl⟩)) (by rfl)⟩)))⟩,?_⟩
  refine qh3 ⟨_,⟨qb0 (ql7 (Ars2.go (.cons ⟨pv 0⟩ (.cons ⟨qG4 hu (pv 3) (pv 1) (λ_ _=>rfl)⟩ (.cons ⟨qb4 (tupO K rfl) (by rfl) B.tuple ZG (qa0 (pv 4) qa2)⟩ .nil rfl) rfl) rfl)))⟩,?_⟩;refine λg hg=>⟨qa1,ql4,rfl,(by show 2<=15;decide),?_⟩;have eg:qz0 [] ql4=ql4:=by rfl
  rw[eg];have S1:Same H (upd (upd H g (.dK [])) g (.dK ql4)):=λb u z=>by rw[qa5 (qa3 z hg)];exact qc2 z hg
  have hg1:upd (upd H g (.dK [])) g (.dK ql4) g=some (.dK ql4):=qa1;generalize upd (upd H g (.dK [])) g (.dK ql4)=H1 at S1 hg1 ⊢;refine⟨(by show 0<=sizeLine;decide),λD hD=>?_⟩;have hDH:H D=none:=by
   cases z:H D with
   |none=>rfl
   |some o=>rw[S1 _ _ z] at hD;cases hD
  have ngD:g≠D:=qa3 hg1 hD;have S2:Same H (upd H1 D (.lst [])):=S1.trans (qb1 hD);refine⟨_,rfl,_,rfl,rp,tp,rows,rfl,hRw.same S2,ok,hl,jO,hd,λH3 LE s3 vD=>?_⟩;have hg3:=s3 _ _ (qc2 (u:=.lst []) hg1 hD);have kX:=s3 _ _ (qa1 (H:=H1) (a:=D) (o:=.lst []));have S3:=S2.trans s3;have nLg:LE≠g:=λz=>by rw[z,hg3] at vD;cases vD
  obtain⟨pe,hxE⟩:=qe7 ok n [] tp (qg5 rows) jO hd;generalize dfs rows n [] tp=es at vD pe hxE q;have kG:=qo2 pe;obtain⟨bs,kS,kQ,jA⟩:=id hRw;refine⟨LE,rfl,⟨_,SqL.of vD⟩,qq7 (K:=K) (a:=LE) (xs:=vN es) (λi σ H2=>Same H H2/\H2 LE=some (.lst (vN es))/\H2 g=some (.dK (ql4++fK (es.take i)))/\RowsL H2 D ((told rows es).take i) /\
    ∃v5,σ=[some (.int (n:Nat)),some (.int (tp:Nat)),some (.ref rp),some (.ref g),some (.ref D),v5])
   ⟨S3,vD,hg3,⟨[],kX,rfl,λi b r e=>by simp at e⟩,none,rfl⟩ (λi σ H2 _ h=>SqL.of h.2.1) ?_ ?_⟩
  ·rintro i y σ H2 hy ⟨s2,hL2,kD,⟨cs,jY,kP,w6⟩,v5,rfl⟩;obtain⟨m,hm,rfl⟩:=qi0 hy;have hie:=(gS_ hm).1;have nLD:LE≠D:=λz=>by
    rw[z,kX] at vD;have:vN es=[]:=by
     injection vD with h1
     injection h1 with h2
     exact h2.symm
    have h3:(vN es).length=0:=by rw[this];rfl
    rw[qb5] at h3;lia
   have v0:=pe.lt m (Zm hm);have vY:=qd0 v0;have hti:=qm8 (rows:=rows) hm;have h4:=(ok m _ vY).1;have jJ:∀x∈rows.getD m [],InE (es.take i) x:=λx hx=>by
    rcases pe.ch i m hm x hx with z|⟨j,hj,ej⟩
    ·exact .inl z
    ·exact .inr (Zm (i:=j) (by rw[List.getElem?_take,Zp hj];exact ej))
   have hni:m∉es.take i:=λz=>by
    obtain⟨j,hj,ej⟩:=ZK.mp z;rw[ZX] at hj;have e1:es[j]?=some m:=by
     rw[List.getElem_take] at ej;rw[Zc (by lia),ej]
    exact nd_iff.mp pe.nd j i (by lia) hie (by rw[e1,hm])
   have htl:(es.take i).length=i:=by rw[ZX];lia
   generalize rows.getD m []=r at vY hti h4 jJ;have wU:bs[m]?=some (bs[m]'(by lia)):=Zc (by lia);have jQ:=s2 _ _ (jA m _ r wU vY);have ixx:∀Q':VK,Q' (.ref (bs[m]'(by lia))) H2->rIxS K (.ref rp) (.int (m:Int)) H2 Q':=λQ' hQ=>by
    rcases kS with h|h
    ·exact .inr ⟨rp,_,(m:Int),.ref (bs[m]'(by lia)),rfl,rfl,SqT.of (s2 _ _ h),qe0 (by rw[Zb,wU];rfl),hQ⟩
    ·exact .inl ⟨rp,_,(m:Int),.ref (bs[m]'(by lia)),rfl,rfl,SqL.of (s2 _ _ h),qe0 (by rw[Zb,wU];rfl),hQ⟩
   refine⟨_,rfl,.inl ⟨rfl,_,SqL.of jY⟩,_,rfl,_,rfl,ixx _ ⟨_,rfl,bs[m]'(by lia),g,r,_,nm es,rfl,jQ,h4,kD,λx hx=>by rw[xq5 (jJ x hx),xE5 (jJ x hx)],λH4 t s4 ht=>?_⟩⟩;have kN:=s4 _ _ jY;have ntD:t≠D:=λz=>by rw[z,kN] at ht;cases ht
   have hci:cs.length=i:=by rw[kP,ZX,qe8];lia
   refine⟨D,_,.ref t,rfl,rfl,kN,by rw[Ze,hci];exact qd5 (by lia),?_⟩;have j9:((cs.map V.ref++[V.ref t]).length:Int)=(i:Int)+1:=by rw[Zr,Ze,hci];rfl
   have hg5:upd H4 D (.lst (cs.map V.ref++[.ref t])) g=some (.dK (ql4++fK (es.take i))):=by rw[qa5 ngD];exact s4 _ _ kD
   have dq:=DPut.k (k:=Sum.inl ((m:Int)+2)) (v:=.int (((cs.map V.ref++[V.ref t]).length:Int)-1+2)) hg5 (by
    have:(ql4++fK (es.take i)).length=2+i:=by rw[Zr];unfold fK;rw[ql2,htl];rfl
    rw[this];exact qd5 (by lia))
   refine⟨_,rfl,D,_,rfl,.inl (SqL.of qa1),_,_,rfl,rfl,_,_,rfl,rfl,_,rfl,_,rfl,_,_,rfl,rfl,g,_,rfl,dq,?_⟩
   ·have eput:putK (ql4++fK (es.take i)) (Sum.inl ((m:Int)+2)) (.int (((cs.map V.ref++[V.ref t]).length:Int)-1+2))=ql4++fK (es.take (i+1)):=by
     have h1:=xE4 hni;have h2:es.take (i+1)=es.take i++[m]:=by
      rw[VZ,hm];rfl
     rw[h2,<- h1,htl];congr 1;rw[j9];congr 1;lia
    have eput':∀v:V,v=.int (((cs.map V.ref++[V.ref t]).length:Int)-1+2)->putK (ql4++fK (es.take i)) (Sum.inl ((m:Int)+2)) v=ql4++fK (es.take (i+1)):=λv hv=>by rw[hv];exact eput
    refine⟨?_,?_,?_,⟨cs++[t],?_,?_,?_⟩,_,rfl⟩
    ·intro b o z;rw[qa5 (qa3 z hg),qa5 (qa3 z hDH)];exact s4 _ _ (s2 _ _ z)
    ·rw[qa5 nLg,qa5 nLD];exact s4 _ _ hL2
    ·rw[qa1,eput' _ rfl]
    ·rw[qa5 (Yx ngD),qa1,qJ2]
    ·rw[Zr,hci,ZX,qe8];show i+1=_;lia
    ·intro j b r0 e1 e2;have ntg:∀{c:Addr}{u:List V},H4 c=some (.tup u)->c≠g/\c≠D:=λ{c u} e=>⟨(λz=>by rw[z,s4 _ _ kD] at e;cases e),(λz=>by rw[z,kN] at e;cases e)⟩;have htk:(told rows es).take (i+1)=(told rows es).take i++[r.map (nm es)]:=by rw[VZ,hti];rfl
     rw[htk] at e2;by_cases hj:j<i
     ·rw[Zh (by lia)] at e1;rw[Zh (by rw[ZX,qe8];lia)] at e2;have hb:=s4 _ _ (w6 j b r0 e1 e2);rw[qa5 (ntg hb).1,qa5 (ntg hb).2];exact hb
     ·rw[Zi (by lia)] at e1;rw[Zi (by rw[ZX,qe8];lia)] at e2;have vR:j-cs.length=0:=by
       have:=(gS_ e1).1;simp at this;lia
      have hj1:j-((told rows es).take i).length=0:=by
       rw[ZX,qe8];lia
      rw[vR] at e1;rw[hj1] at e2;have eb:b=t:=by simpa using e1.symm
      have er:r0=r.map (nm es):=by simpa using e2.symm
      rw[eb,er,qa5 (ntg ht).1,qa5 ntD];exact ht
  ·rintro σ H2 ⟨s2,hL2,kD,wJ,v5,rfl⟩;rw[qb5,YS] at kD;have htk:(told rows es).take (vN es).length=told rows es:=by rw[qb5];exact YA (by rw[qe8];exact Zd _)
   rw[htk] at wJ;obtain⟨cs,jY,kP,w6⟩:=wJ;have dg:DGet H2 g (.int (tp:Int)) (some (.int (nm es tp:Nat))):=by
    have:=DGet.k (k:=Sum.inl (tp:Int)) kD;rw[xq5 hxE] at this;exact this
   refine⟨_,rfl,_,rfl,_,rfl,g,_,rfl,dg,_,rfl,D,_,rfl,.inl ⟨SqL.of jY,λl hl=>⟨(by show 3<=sizeLine;decide),λt ht=>?_⟩⟩⟩;exact q _ t ((s2.trans (qb1 hl)).trans (qb1 ht)) ⟨l,qa1,cs,qc2 qa1 ht,kP,λi b r e1 e2=>qc2 (qc2 (w6 i b r e1 e2) hl) ht⟩
end
end Pr
namespace Qf
open Tr
def mkT (a b c d:Tr):Tr:=if a=z/\b=z/\c=z/\d=z then z else if a=o/\b=o/\c=o/\d=o then o else .nd a b c d
def ins (t:Tr) (L:List Tr):List Tr:=if t=z\/t=o\/t∈L then L else L++[t]
theorem xe3 (t:Tr) (L:List Tr):∃s,ins t L=L++s/\s.length<=1:=by
 unfold ins;split
 ·exact⟨[],by simp,by decide⟩
 ·exact⟨[t],rfl,Zd 1⟩
theorem xE6 (t:Tr) (L:List Tr):In (ins t L) t:=by
 unfold ins;split
 ·assumption
 ·exact .inr (.inr (by simp))
theorem xe4 {L:List Tr}(h:Ord L){a b c d:Tr}(ha:In L a) (hb:In L b) (hc:In L c) (hd:In L d):Ord (ins (mkT a b c d) L):=by
 unfold ins;split
 ·exact h
 ·rename_i hn;have e:mkT a b c d=.nd a b c d:=by
   unfold mkT at hn ⊢;split
   ·rename_i h1;rw[Zp h1] at hn;exact absurd (.inl rfl) hn
   ·rename_i h1;rw[Zk h1] at hn;split
    ·rename_i h2;rw[Zp h2] at hn;exact absurd (.inr (.inl rfl)) hn
    ·rfl
  rw[e] at hn ⊢;have nm:Tr.nd a b c d∉L:=λz=>hn (.inr (.inr z));refine⟨?_,?_⟩
  ·rw[Xz];exact⟨h.nd,by simp,λx hx y hy e=>nm (by
    have:y=.nd a b c d:=by simpa using hy
    rw[<- this,<- e];exact hx)⟩
  ·intro i t ht;by_cases hi:i<L.length
   ·rw[Zh hi] at ht;obtain⟨h1,h2⟩:=h.ch i t ht;refine⟨h1,λs hs=>(h2 s hs).imp id λh=>h.imp id λ⟨j,hj,e⟩=>⟨j,hj,?_⟩⟩;rw[Zh (by lia)];exact e
   ·have j9:=(gS_ ht).1;rw[Zr] at j9;have vE:i=L.length:=by simp at j9;lia
    subst vE;have et:t=.nd a b c d:=by simpa using ht.symm
    subst et;refine⟨⟨a,b,c,d,rfl⟩,λs hs=>?_⟩;have jJ:In L s:=by
     have:s=a\/s=b\/s=c\/s=d:=by simpa [kids] using hs
     rcases this with rfl|rfl|rfl|rfl<;>assumption
    refine jJ.imp id λh=>h.imp id λhm=>?_;obtain⟨j,hj,e⟩:=ZK.mp hm;exact⟨j,hj,by rw[Zh hj,Zc hj,e]⟩
theorem xq9 {a b c d:Tr}(h1:¬(a=z/\b=z/\c=z/\d=z)) (h2:¬(a=o/\b=o/\c=o/\d=o)):mkT a b c d=.nd a b c d:=by
 unfold mkT;rw[Zk h1,Zk h2]
theorem plain_names {L:List Tr}{a b c d:Tr}:qg8 [name L a,name L b,name L c,name L d]<->(a=z/\b=z/\c=z/\d=z)\/(a=o/\b=o/\c=o/\d=o):=by
 constructor
 ·rintro (e|e)
  ·simp only[YW,Vy] at e;exact .inl ⟨qe5 e.1,qe5 e.2.1,qe5 e.2.2.1,qe5 e.2.2.2⟩
  ·simp only[YW,Vy] at e;exact .inr ⟨qf9 e.1,qf9 e.2.1,qf9 e.2.2.1,qf9 e.2.2.2⟩
 ·rintro (⟨rfl,rfl,rfl,rfl⟩|⟨rfl,rfl,rfl,rfl⟩)
  ·exact .inl rfl
  ·exact .inr rfl
end Qf
namespace Pr
open PySem L2 Qf
theorem kn:¬(("kept" : Str) = "numbers"):=by decide +kernel
def qJ9 (k d:Addr):List (Str×V):=putF "numbers" (.ref d) (putF "kept" (.ref k) [])
theorem qv4 (k d:Addr):(qJ9 k d).lookup ("kept" : Str)=some (.ref k):=by
 unfold qJ9;rw[qg0,Zk kn,qg0,Zp rfl]
theorem qt1 (k d:Addr):(qJ9 k d).lookup ("numbers" : Str)=some (.ref d):=by
 unfold qJ9;rw[qg0,Zp rfl]
theorem qY6 (k d:Addr){m:Str}(h1:¬m = "numbers") (h2:¬m = "kept"):(qJ9 k d).lookup m=none:=by
 unfold qJ9;rw[qg0,Zk h1,qg0,Zk h2]
 all_goals rfl
structure BookAt (C:Addr) (H:Hp) (p k d:Addr) (L:List Tr):Prop where
 ob:∃dx,H p=some (.ins C dx (qJ9 k d))
 kp:RowsL H k (Tr.rowsOf L)
 dc:H d=some (.dT (tK (Tr.rowsOf L)))
 od:Tr.Ord L
structure BookIn (K:PySem.W.Frag) (mg:Str->Option Value) (C:Addr):Prop where
 cl:Cls K C
 nK:NoAttr K C "kept"
 nN:NoAttr K C "numbers"
 mgC:mg "Book" = some (.ref C)
def But2 (k d:Addr) (H H':Hp):Prop:=∀b o,H b=some o->b≠k->b≠d->H' b=some o
theorem But2.trans {k d:Addr}{H H1 H2:Hp}(a:But2 k d H H1) (b:But2 k d H1 H2):But2 k d H H2:=λc o h n1 n2=>b c o (a c o h n1 n2) n1 n2
theorem But2.of {k d:Addr}{H H':Hp}(s:Same H H'):But2 k d H H':=λb o h _ _=>s b o h
section
variable {P:Program}{w:World}{K:PySem.W.Frag}{mg:Str->Option Value}{base:Heap}
theorem xK4:FnScope ["self"] ["self"] (qa4 qI1):=qd9
def xE7 (C:Addr):Sp:=λvs H Q _=>∃(p dx:Addr),vs=[.ref p]/\H p=some (.ins C dx [])/\∀(k d:Addr) (H':Hp),H k=none->H d=none->BookAt C H' p k d []->But p H H'->Q .non H'
theorem xE8 {f C:Addr}{fd:FuncData}(F:Fun K "__init__" "Book.__init__" qI1 f fd) (T:BookIn K mg C):FnOk P w K mg base CX0 1 f fd ["self"] (xE7 C):=by
 refine F.ok xK4 (λvs H Q E h=>?_) (λcdv A outer s H vs Q E hr h=>?_)
 ·obtain⟨p,dx,rfl,_⟩:=h
  rfl
 ·obtain⟨p,dx,rfl,hp,q⟩:=h;refine seqE ⟨_,⟨xp3 (pv 0) (qf6 qa2) rfl⟩,?_⟩;refine qh3 ⟨_,⟨xp3 (pv 0) qG5 rfl⟩,?_⟩;refine⟨(by show 0<=sizeLine;decide),λk hk=>?_⟩;have npk:p≠k:=qa3 hp hk;refine⟨_,rfl,p,C,dx,[],rfl,(by rw[qa5 npk];exact hp),T.cl,T.nK,(by show 0<1000;decide),λd hd=>?_⟩;have hkd:upd (upd H k (.lst [])) p (.ins C dx (putF "kept" (.ref k) [])) k=some (.lst []):=by rw[qa5 (Yx npk),qa1]
  have nkd:k≠d:=qa3 hkd hd;have npd:p≠d:=qa3 qa1 hd;have hdH:H d=none:=by
   rw[qa5 (Yx npd),qa5 (Yx nkd)] at hd;exact hd
  refine⟨_,rfl,p,C,dx,_,rfl,(by rw[qa5 npd];exact qa1),T.cl,T.nN,(by show 1<1000;decide),?_⟩;refine q k d _ hk hdH ⟨⟨dx,qa1⟩,⟨[],?_,rfl,λi b r e=>by simp at e⟩,?_,Tr.ord_nil⟩ λb o e nb=>?_
  ·rw[qa5 (Yx npk),qa5 nkd];exact hkd
  ·rw[qa5 (Yx npd),qa1];rfl
  ·rw[qa5 nb,qa5 (qa3 e hdH),qa5 nb,qa5 (qa3 e hk)];exact e
theorem xK5:FnScope ["self", "row"] ["self", "row"] (qa4 qX2):=qd9
def xE9 (C:Addr):Sp:=λvs H Q _=>∃(p k d b:Addr) (L:List Tr) (t0 t1 t2 t3:Tr),vs=[.ref p,.ref b]/\BookAt C H p k d L/\H b=some (.tup (vN [Tr.name L t0,Tr.name L t1,Tr.name L t2,Tr.name L t3]))/\Tr.In L t0/\Tr.In L t1/\Tr.In L t2/\Tr.In L t3/\L.length<=1190990 /\
 ∀H',But2 k d H H'->BookAt C H' p k d (ins (mkT t0 t1 t2 t3) L)->Q (.int (Tr.name (ins (mkT t0 t1 t2 t3) L) (mkT t0 t1 t2 t3):Nat)) H'
theorem xF0 {f fP C:Addr}{fd fdP:FuncData}(F:Fun K "number_for" "Book.number_for" qX2 f fd) (B:Blt mg) (Tc:Cst mg) (T:BookIn K mg C)
  (hP:mg "is_plain" = some (.ref fP)) (FP:Fun K "is_plain" "is_plain" qA1 fP fdP) (bP:Binds K fdP ["row"] []):FnOk P w K mg base CX0 3 f fd ["self", "row"] (xE9 C):=by
 have GP:FnOk P w K mg base CX0 2 fP fdP ["row"] qI7:=qI9 FP Tc;obtain⟨tf,hfi⟩:=Tc.first;refine F.ok xK5 (λvs H Q E h=>?_) (λcdv A outer s H vs Q E hr h=>?_)
 ·obtain⟨p,k,d,b,L,t0,t1,t2,t3,rfl,_⟩:=h
  rfl
 ·obtain⟨p,k,d,b,L,t0,t1,t2,t3,rfl,hB,hb,i0,i1,i2,i3,hL,q⟩:=h;have hu:A.units+3+1<cLine:=by
   have h2:A.units+3+16*2+200<cLine:=hr.un;lia
  refine seqE ⟨_,⟨qf1 (qe6 (pcN GP hr hP FP.kp bP (qa0 (pv 1) qa2))) (qa8 (qb0 (pxN qd1 (pv 1) qa6))) qb6⟩,?_⟩;refine seqE ⟨_,⟨qf1 (qx9 (qm3 hu (pv 1) (qD2 (pv 0) rfl)))
   (StB.go (.cons ⟨qu2 hu (qD2 (pv 0) rfl) (pv 1) (qb3 qd3 (qa7 qa9 (by rfl) B.len ZM (qa0 (qD2 (pv 0) rfl) qa2)) (qd6 (v:=.int 2) (by rfl) hfi ⟨_,rfl⟩)) (by rfl)⟩
    (.one ⟨qf0 (q14 Z0 Z4 Z5 qf2 (qD2 (pv 0) rfl) (qa0 (pv 1) qa2))⟩))) qb6⟩,?_⟩
  refine qh3 ⟨_,⟨qb0 (qG4 hu (qD2 (pv 0) rfl) (pv 1) (λ_ _=>rfl))⟩,?_⟩;refine⟨_,rfl,b,_,rfl,hb,rfl,λH1 s1=>⟨_,rfl,?_⟩⟩;obtain⟨⟨dx,hp⟩,⟨bs,hk,kQ,jA⟩,hd,hO⟩:=id hB;have B1:BookAt C H1 p k d L:=⟨⟨dx,s1 _ _ hp⟩,⟨bs,s1 _ _ hk,kQ,λi c r e1 e2=>s1 _ _ (jA i c r e1 e2)⟩,s1 _ _ hd,hO⟩;have kM:=s1 _ _ hb;refine ite2 (λhc=>?_) (λhc=>?_)
  ·rcases plain_names.mp (ZI hc) with ⟨rfl,rfl,rfl,rfl⟩|⟨rfl,rfl,rfl,rfl⟩
   ·exact⟨_,rfl,b,_,0,.int (0:Nat),rfl,rfl,SqT.of kM,rfl,q H1 (But2.of s1) B1⟩
   ·exact⟨_,rfl,b,_,0,.int (1:Nat),rfl,rfl,SqT.of kM,rfl,q H1 (But2.of s1) B1⟩
  ·have hn:=λz=>hc (Zl (plain_names (L:=L).mpr z));have em:mkT t0 t1 t2 t3=.nd t0 t1 t2 t3:=xq9 (λz=>hn (.inl z)) (λz=>hn (.inr z));rw[em] at q;have hkin:∀s∈Tr.kids (.nd t0 t1 t2 t3),Tr.In L s:=λs hs=>by
    have:s=t0\/s=t1\/s=t2\/s=t3:=by simpa [Tr.kids] using hs
    rcases this with rfl|rfl|rfl|rfl<;>assumption
   have jU:=xe1 hO hkin;have k8:(Tr.kids (.nd t0 t1 t2 t3)).map (Tr.name L)=[Tr.name L t0,Tr.name L t1,Tr.name L t2,Tr.name L t3]:=rfl;rw[k8] at jU;have hbk:H1 b=some (.tup ((keyN [Tr.name L t0,Tr.name L t1,Tr.name L t2,Tr.name L t3]).map kV)):=by rw[qs4];exact kM
   obtain⟨⟨dx1,jV⟩,⟨bs1,vQ,hbl1,hrow1⟩,wF,_⟩:=id B1;refine⟨_,rfl,_,rfl,p,C,dx1,_,_,rfl,jV,T.cl,T.nN,qt1 _ _,d,_,rfl,DGet.t wF hbk,_,rfl,?_⟩;rw[xc9];by_cases hm:[Tr.name L t0,Tr.name L t1,Tr.name L t2,Tr.name L t3]∈Tr.rowsOf L
   ·rw[Zp hm];refine iteF ?_;have hT:=jU.mp hm;have ei:ins (.nd t0 t1 t2 t3) L=L:=by unfold ins;rw[Zp (.inr (.inr hT))]
    rw[ei] at q;exact⟨_,rfl,p,C,dx1,_,_,rfl,jV,T.cl,T.nN,qt1 _ _,_,rfl,d,_,rfl,qY5 hO hT wF kM,q H1 (But2.of s1) B1⟩
   ·rw[Zk hm];refine iteT ?_;have hT:Tr.nd t0 t1 t2 t3∉L:=λz=>hm (jU.mpr z);have ei:ins (.nd t0 t1 t2 t3) L=L++[.nd t0 t1 t2 t3]:=by
     unfold ins;rw[Zk];rintro (z|z|z)
     ·cases z
     ·cases z
     ·exact hT z
    have O5:=xe4 hO i0 i1 i2 i3;rw[em,ei] at O5;rw[ei] at q;have er:=qF2 hO hkin;rw[k8] at er;have jB:(tK (Tr.rowsOf L)).length=L.length:=by unfold tK;rw[ql2,Tr.rowsOf_len]
    have hbsl:(bs1.map V.ref).length=L.length:=by rw[Ze,hbl1,Tr.rowsOf_len]
    have npd:p≠d:=λz=>by rw[z,wF] at jV;cases jV
    have nkd:k≠d:=λz=>by rw[z,wF] at vQ;cases vQ
    have npk:p≠k:=λz=>by rw[z,vQ] at jV;cases jV
    have nbd:b≠d:=λz=>by rw[z,wF] at kM;cases kM
    have nbk:b≠k:=λz=>by rw[z,vQ] at kM;cases kM
    have dq:=DPut.t (v:=.int (((bs1.map V.ref).length:Int)+2)) wF hbk (by rw[jB];exact qd5 (by lia));refine⟨_,rfl,p,C,dx1,_,_,rfl,jV,T.cl,T.nK,qv4 _ _,k,_,rfl,.inl (SqL.of vQ),_,_,rfl,rfl,_,rfl,p,C,dx1,_,_,rfl,jV,T.cl,T.nN,qt1 _ _,_,rfl,d,_,rfl,dq,?_⟩;have eput:putK (tK (Tr.rowsOf L)) (keyN [Tr.name L t0,Tr.name L t1,Tr.name L t2,Tr.name L t3]) (.int (((bs1.map V.ref).length:Int)+2))=tK (Tr.rowsOf (L++[.nd t0 t1 t2 t3])):=by
     have h1:=qJ0 (key:=keyN) (k:=2) (λa b=>qo3) hm;rw[er,hbsl];unfold tK;rw[<- h1,Tr.rowsOf_len];congr 2;lia
    rw[eput];have k9:upd H1 d (.dT (tK (Tr.rowsOf (L++[.nd t0 t1 t2 t3])))) p=some (.ins C dx1 (qJ9 k d)):=by rw[qa5 npd];exact jV
    have hk2:upd H1 d (.dT (tK (Tr.rowsOf (L++[.nd t0 t1 t2 t3])))) k=some (.lst (bs1.map V.ref)):=by rw[qa5 nkd];exact vQ
    refine⟨_,rfl,p,C,dx1,_,_,rfl,k9,T.cl,T.nK,qv4 _ _,.inl ⟨rfl,_,SqL.of hk2⟩,_,rfl,k,_,.ref b,rfl,rfl,hk2,by rw[hbsl];exact qd5 (by lia),?_⟩;have tup3:∀{c:Addr}{u:List V},H1 c=some (.tup u)->upd (upd H1 d (.dT (tK (Tr.rowsOf (L++[.nd t0 t1 t2 t3]))))) k (.lst (bs1.map V.ref++[.ref b])) c=some (.tup u):=λ{c u} e=>by
     have n1:c≠k:=λz=>by rw[z,vQ] at e;cases e
     have n2:c≠d:=λz=>by rw[z,wF] at e;cases e
     rw[qa5 n1,qa5 n2];exact e
    have B3:BookAt C (upd (upd H1 d (.dT (tK (Tr.rowsOf (L++[.nd t0 t1 t2 t3]))))) k (.lst (bs1.map V.ref++[.ref b]))) p k d (L++[.nd t0 t1 t2 t3]):=by
     refine⟨⟨dx1,by rw[qa5 npk];exact k9⟩,⟨bs1++[b],by rw[qa1,qJ2],?_,?_⟩,by rw[qa5 (Yx nkd),qa1],O5⟩
     ·rw[Zr,hbl1,Tr.rowsOf_len,Tr.rowsOf_len,Zr];rfl
     ·intro j c r e1 e2;rw[er] at e2;have hbl2:bs1.length=L.length:=by rw[hbl1,Tr.rowsOf_len]
      by_cases hj:j<L.length
      ·rw[Zh (by lia)] at e1;rw[Zh (by rw[Tr.rowsOf_len];exact hj)] at e2;exact tup3 (hrow1 j c r e1 e2)
      ·rw[Zi (by lia)] at e1;rw[Zi (by rw[Tr.rowsOf_len];lia)] at e2;have vR:j-bs1.length=0:=by
        have:=(gS_ e1).1;simp at this;lia
       have hj1:j-(Tr.rowsOf L).length=0:=by rw[Tr.rowsOf_len];lia
       rw[vR] at e1;rw[hj1] at e2;have ec:c=b:=by simpa using e1.symm
       have erow:r=[Tr.name L t0,Tr.name L t1,Tr.name L t2,Tr.name L t3]:=by simpa using e2.symm
       rw[ec,erow];exact tup3 kM
    have hbt3:=tup3 kM;have X3:But2 k d H1 (upd (upd H1 d (.dT (tK (Tr.rowsOf (L++[.nd t0 t1 t2 t3]))))) k (.lst (bs1.map V.ref++[.ref b]))):=λc o e n1 n2=>by rw[qa5 n1,qa5 n2];exact e
    generalize upd (upd H1 d (.dT (tK (Tr.rowsOf (L++[.nd t0 t1 t2 t3]))))) k (.lst (bs1.map V.ref++[.ref b]))=H3 at B3 hbt3 X3 ⊢;obtain⟨⟨dx3,wN⟩,_,k6,_⟩:=id B3;have enm:∀s,Tr.In L s->Tr.name (L++[.nd t0 t1 t2 t3]) s=Tr.name L s:=λs hs=>Tr.name_app hs hO;exact⟨_,rfl,p,C,dx3,_,_,rfl,wN,T.cl,T.nN,qt1 _ _,_,rfl,d,_,rfl,qY5 (a:=t0) (b:=t1) (c:=t2) (d:=t3) O5 (by simp) k6 (by rw[hbt3,enm t0 i0,enm t1 i1,enm t2 i2,enm t3 i3]),q H3 ((But2.of s1).trans X3) B3⟩
end
end Pr
namespace Qf
open Tr
theorem qn4 {rows:List Row}(ok:qb2 rows){q:Nat}(hq:q<rows.length+2):(T rows q=z<->q=0)/\(T rows q=o<->q=1):=by
 by_cases q2:q<2
 ·match q,q2 with
  |0,_=>rw[qj3];exact⟨⟨λ_=>rfl,λ_=>rfl⟩,⟨λh=>(nomatch h),λh=>(nomatch h)⟩⟩
  |1,_=>rw[qq1];exact⟨⟨λh=>(nomatch h),λh=>(nomatch h)⟩,⟨λ_=>rfl,λ_=>rfl⟩⟩
 ·obtain⟨p',a',b',c',d',rfl,hp'⟩:=qp0 ok hq q2;rw[qs8 ok hp'];exact⟨⟨λh=>(nomatch h),λh=>by lia⟩,⟨λh=>(nomatch h),λh=>by lia⟩⟩
theorem xF1 {rows:List Row}(ok:qb2 rows){p a b c d:Nat}(hp:rows[p]?=some [a,b,c,d]):a<rows.length+2/\b<rows.length+2/\c<rows.length+2/\d<rows.length+2:=by
 have hl:=(gS_ hp).1;have h:=(ok p _ hp).2;have h1:=h a (by simp);have h2:=h b (by simp);have h3:=h c (by simp);have h4:=h d (by simp);lia
theorem xF2 {rows:List Row}(ok:qb2 rows) (np:∀r∈rows,¬qg8 r):∀x,x<rows.length+2->Red (T rows x):=by
 intro x
 induction x using Nat.strongRecOn with
 |ind x ih=>
  intro hx;by_cases z:x<2
  ·match x,z with
   |0,_=>rw[qj3];trivial
   |1,_=>rw[qq1];trivial
  ·obtain⟨p,a,b,c,d,rfl,hp⟩:=qp0 ok hx z;have jB:=(ok p _ hp).2;have jS:=(gS_ hp).1;have la:=jB a (by simp);have lb:=jB b (by simp);have lc:=jB c (by simp);have ld:=jB d (by simp);rw[qs8 ok hp];have hnp:=np _ (Zm hp);refine⟨λh=>hnp (.inl ?_),λh=>hnp (.inr ?_),ih a (by lia) (by lia),ih b (by lia) (by lia),ih c (by lia) (by lia),ih d (by lia) (by lia)⟩
   ·rw[(qn4 ok (by lia)).1.mp h.1,(qn4 ok (by lia)).1.mp h.2.1,(qn4 ok (by lia)).1.mp h.2.2.1,(qn4 ok (by lia)).1.mp h.2.2.2]
   ·rw[(qn4 ok (by lia)).2.mp h.1,(qn4 ok (by lia)).2.mp h.2.1,(qn4 ok (by lia)).2.mp h.2.2.1,(qn4 ok (by lia)).2.mp h.2.2.2]
theorem xe5 {n top:Nat}{rows:List Row}(c:Canon n top rows):Red (T rows top):=xF2 c.rok c.unplain top c.inn
theorem xe6 {rows:List Row}(ok:qb2 rows){p a b c d s:Nat}(hp:rows[p]?=some [a,b,c,d]) (h:dp rows (p+2)<=s+1):dp rows a<=s/\dp rows b<=s/\dp rows c<=s/\dp rows d<=s:=by
 rw[qp8 ok hp] at h;have hm:∀x∈[a,b,c,d],dp rows x<=mx ([a,b,c,d].map (dp rows)):=λx hx=>qH8 (List.mem_map_of_mem hx);have h1:=hm a (by simp);have h2:=hm b (by simp);have h3:=hm c (by simp);have h4:=hm d (by simp);lia
theorem xx6 {a b c d:Tr}{s:Nat}(h:dep (.nd a b c d)<=s+1):dep a<=s/\dep b<=s/\dep c<=s/\dep d<=s:=by
 have h':1+mx [dep a,dep b,dep c,dep d]<=s+1:=h;have hm:∀x∈[dep a,dep b,dep c,dep d],x<=mx [dep a,dep b,dep c,dep d]:=λx hx=>qH8 hx;have h1:=hm (dep a) (by simp);have h2:=hm (dep b) (by simp);have h3:=hm (dep c) (by simp);have h4:=hm (dep d) (by simp);lia
theorem xr0 {a b c d:Tr}{s:Nat}(h1:dep a<=s) (h2:dep b<=s) (h3:dep c<=s) (h4:dep d<=s):dep (.nd a b c d)<=s+1:=by
 show 1+mx [dep a,dep b,dep c,dep d]<=s+1;have:mx [dep a,dep b,dep c,dep d]<=s:=xk1 λx hx=>by
  have:x=dep a\/x=dep b\/x=dep c\/x=dep d:=by simpa using hx
  rcases this with rfl|rfl|rfl|rfl<;>assumption
 lia
def qr (i:Nat):Tr->Tr
 |.nd a b c d=>[a,b,c,d].getD i .z
 |t=>t
theorem xr1 {i k:Nat}(hi:i<4):∀(t:Tr),dep t<=k+1->dep (qr i t)<=k
 |.z,_=>ZE _
 |.o,_=>ZE _
 |.nd a b c d,h=>by
  have h':mx [dep a,dep b,dep c,dep d]<=k:=by
   have:1+mx [dep a,dep b,dep c,dep d]<=k+1:=h;lia
  have m:∀x∈[dep a,dep b,dep c,dep d],x<=k:=λx hx=>ZL (qH8 hx) h'
  match i,hi with
  |0,_=>exact m (dep a) (by simp)
  |1,_=>exact m (dep b) (by simp)
  |2,_=>exact m (dep c) (by simp)
  |3,_=>exact m (dep d) (by simp)
theorem dep0:∀{t:Tr},dep t<=0->t=.z\/t=.o
 |.z,_=>.inl rfl
 |.o,_=>.inr rfl
 |.nd a b c d,h=>by
  have:1+mx [dep a,dep b,dep c,dep d]<=0:=h;lia
theorem qB4 (a b c d:Tr):(a=z/\b=z/\c=z/\d=z)/\mkT a b c d=z\/(a=o/\b=o/\c=o/\d=o)/\mkT a b c d=o\/(¬(a=z/\b=z/\c=z/\d=z)/\¬(a=o/\b=o/\c=o/\d=o))/\mkT a b c d=.nd a b c d:=by
 unfold mkT;split
 ·exact .inl ⟨by assumption,rfl⟩
 ·split
  ·exact .inr (.inl ⟨by assumption,rfl⟩)
  ·exact .inr (.inr ⟨⟨by assumption,by assumption⟩,rfl⟩)
theorem xx7 {a b c d:Tr}(ha:Red a) (hb:Red b) (hc:Red c) (hd:Red d):Red (mkT a b c d):=by
 rcases qB4 a b c d with ⟨_,e⟩|⟨_,e⟩|⟨⟨h1,h2⟩,e⟩
 ·rw[e];trivial
 ·rw[e];trivial
 ·rw[e];exact⟨h1,h2,ha,hb,hc,hd⟩
theorem xx8 {a b c d:Tr}{s:Nat}(ha:dep a<=s) (hb:dep b<=s) (hc:dep c<=s) (hd:dep d<=s):dep (mkT a b c d)<=s+1:=by
 rcases qB4 a b c d with ⟨_,e⟩|⟨_,e⟩|⟨_,e⟩
 ·rw[e];exact ZE _
 ·rw[e];exact ZE _
 ·rw[e];exact xr0 ha hb hc hd
theorem xx9 {L:List Tr}{t:Tr}(h:qw4 L) (ht:Red t):qw4 (ins t L):=by
 unfold ins;split
 ·exact h
 ·intro u hu;rcases Z6.mp hu with z|z
  ·exact h u z
  ·have:u=t:=by simpa using z
   rw[this];exact ht
theorem xr2 {i:Nat}(hi:i<4) (a b c d:Tr):qr i (mkT a b c d)=[a,b,c,d].getD i .z:=by
 rcases qB4 a b c d with ⟨⟨rfl,rfl,rfl,rfl⟩,e⟩|⟨⟨rfl,rfl,rfl,rfl⟩,e⟩|⟨_,e⟩
 ·rw[e]
  match i,hi with
  |0,_=>rfl
  |1,_=>rfl
  |2,_=>rfl
  |3,_=>rfl
 ·rw[e]
  match i,hi with
  |0,_=>rfl
  |1,_=>rfl
  |2,_=>rfl
  |3,_=>rfl
 ·rw[e];rfl
def qi4:Nat->Tr->Nat->Nat->Bool
 |0,t,_,_=>decide (t=.o)
 |k+1,t,r,c=>qi4 k (qr (2*(r/2^k%2)+c/2^k%2) t) r c
theorem xe7:∀k r c,qi4 k .o r c=true
 |0,_,_=>rfl
 |k+1,r,c=>xe7 k r c
theorem xe8:∀k r c,qi4 k .z r c=false
 |0,_,_=>rfl
 |k+1,r,c=>xe8 k r c
theorem xF3:∀{s t:Tr},Red s->Red t->(∀i,i<4->qr i s=qr i t)->s=t
 |.z,.z,_,_,_=>rfl
 |.o,.o,_,_,_=>rfl
 |.z,.o,_,_,h=>h 0 (by decide)
 |.o,.z,_,_,h=>h 0 (by decide)
 |.nd a b c d,.nd a' b' c' d',_,_,h=>by
  have h0:a=a':=h 0 (by decide);have h1:b=b':=h 1 (by decide);have h2:c=c':=h 2 (by decide);have h3:d=d':=h 3 (by decide);rw[h0,h1,h2,h3]
 |.z,.nd a b c d,_,rt,h=>absurd ⟨(h 0 (by decide)).symm,(h 1 (by decide)).symm,(h 2 (by decide)).symm,(h 3 (by decide)).symm⟩ rt.1
 |.o,.nd a b c d,_,rt,h=>absurd ⟨(h 0 (by decide)).symm,(h 1 (by decide)).symm,(h 2 (by decide)).symm,(h 3 (by decide)).symm⟩ rt.2.1
 |.nd a b c d,.z,rs,_,h=>absurd ⟨h 0 (by decide),h 1 (by decide),h 2 (by decide),h 3 (by decide)⟩ rs.1
 |.nd a b c d,.o,rs,_,h=>absurd ⟨h 0 (by decide),h 1 (by decide),h 2 (by decide),h 3 (by decide)⟩ rs.2.1
theorem xF4 {i:Nat}(hi:i<4):∀{t:Tr},Red t->Red (qr i t)
 |.z,_=>trivial
 |.o,_=>trivial
 |.nd a b c d,h=>by
  match i,hi with
  |0,_=>exact h.2.2.1
  |1,_=>exact h.2.2.2.1
  |2,_=>exact h.2.2.2.2.1
  |3,_=>exact h.2.2.2.2.2
theorem xe9 {k r c R C at_:Nat}{t:Tr}(ha:at_<4) (hr:r/2^k=2*R+at_/2) (hc:c/2^k=2*C+at_%2):qi4 (k+1) t r c=qi4 k (qr at_ t) r c:=by
 show qi4 k (qr (2*(r/2^k%2)+c/2^k%2) t) r c=_;rw[hr,hc,show 2*((2*R+at_/2)%2)+(2*C+at_%2)%2=at_ by lia]
end Qf
namespace SetT
open PySem
def Rise (xs:Array Nat):Prop:=∀i j (hi:i<xs.size) (hj:j<xs.size),i<j->xs[i]<xs[j]
theorem qK0 {xs:Array Nat}(hr:Rise xs) (j:Nat):∀(f lo hi:Nat),hi-lo<=f->lo<=hi->hi<=xs.size->(∀k (h:k<xs.size),k<lo->xs[k]<j)->(∀k (h:k<xs.size),hi<=k->j<=xs[k]) ->
  SetTable.below.go xs j f lo hi<=xs.size/\(∀k (h:k<xs.size),k<SetTable.below.go xs j f lo hi->xs[k]<j)/\(∀k (h:k<xs.size),SetTable.below.go xs j f lo hi<=k->j<=xs[k])
 |0,lo,hi,hf,hl,hs,h1,h2=>by
  have e:lo=hi:=by lia
  subst e;exact⟨hs,h1,h2⟩
 |f+1,lo,hi,hf,hl,hs,h1,h2=>by
  unfold SetTable.below.go;by_cases hc:lo<hi
  ·rw[Zp hc];have hm:(lo+hi)/2<xs.size:=by lia
   have em:xs.getD ((lo+hi)/2) j=xs[(lo+hi)/2]:=by simp[Array.getD,hm]
   simp only;rw[em];by_cases hx:xs[(lo+hi)/2]<j
   ·rw[Zp hx];refine qK0 hr j f _ hi (by lia) (by lia) hs (λk h hk=>?_) h2;by_cases ek:k=(lo+hi)/2
    ·subst ek;exact hx
    ·exact Vj (hr k _ h hm (by lia)) hx
   ·rw[Zk hx];refine qK0 hr j f lo _ (by lia) (by lia) (by lia) h1 (λk h hk=>?_);by_cases ek:k=(lo+hi)/2
    ·subst ek;lia
    ·have:=hr _ k hm h (by lia);lia
  ·rw[Zk hc];have e:lo=hi:=by lia
   subst e;exact⟨hs,h1,h2⟩
theorem qx6 {xs:Array Nat}(hr:Rise xs) (j:Nat):SetTable.below xs j<=xs.size/\(∀k (h:k<xs.size),k<SetTable.below xs j->xs[k]<j)/\(∀k (h:k<xs.size),SetTable.below xs j<=k->j<=xs[k]):=
 qK0 hr j xs.size 0 xs.size (by lia) (ZE _) (Zd _) (λk h hk=>absurd hk (Yk _)) (λk h hk=>absurd h (by lia))
theorem xn0 {xs:Array Nat}(hr:Rise xs){i j:Nat}(h:xs[i]?=some j):SetTable.below xs j=i:=by
 obtain⟨hi,e⟩:=ZO.mp h;obtain⟨h0,h1,h2⟩:=qx6 hr j;rcases WP (SetTable.below xs j) i with z|z|z
 ·have a:=h2 (SetTable.below xs j) (by lia) (Zd _);have b:=hr _ i (by lia) hi z;lia
 ·exact z
 ·have:=h1 i hi z;lia
theorem qv5 {t:SetTable}(hr:Rise t.place){i j:Nat}(h:t.place[i]?=some j):t.slot j=.live i:=by
 unfold SetTable.slot;simp only;rw[xn0 hr h,Zp (by rw[h];simp)]
theorem qd2 {α:Type}(xs:Array α) (p:Nat) (hp:p<=xs.size) (x:α) (k:Nat):(SetTable.insertAt xs p x)[k]?=if k<p then xs[k]? else if k=p then some x else xs[k-1]?:=by
 unfold SetTable.insertAt;have e1:(xs.extract 0 p).size=p:=by simp;lia
 have e2:((xs.extract 0 p).push x).size=p+1:=by rw[Array.size_push,e1]
 rw[Array.getElem?_append,e2];by_cases h1:k<p
 ·rw[Zp (by lia),Zp h1,Ve,e1,Zk (by lia),Array.getElem?_extract];simp only[WM];rw[Zp (by lia)]
 ·rw[Zk h1];by_cases h2:k=p
  ·rw[Zp h2,Zp (by lia),Ve,e1,Zp h2]
  ·rw[Zk h2,Zk (by lia),Array.getElem?_extract];have:p+(k-(p+1))=k-1:=by lia
   rw[this];by_cases h3:k-1<xs.size
   ·rw[Zp (by lia)]
   ·rw[Zk (by lia),XU (by lia)]
theorem xf0 {xs:Array Nat}(h:∀i j x y:Nat,i<j->xs[i]?=some x->xs[j]?=some y->x<y):Rise xs:=λi j hi hj jT=>h i j _ _ jT (ZQ hi) (ZQ hj)
theorem Rise.at {xs:Array Nat}(h:Rise xs){i j x y:Nat}(jT:i<j) (e1:xs[i]?=some x) (e2:xs[j]?=some y):x<y:=by
 obtain⟨h1,rfl⟩:=ZO.mp e1;obtain⟨h2,rfl⟩:=ZO.mp e2;exact h i j h1 h2 jT
theorem xn1 {xs:Array Nat}(hr:Rise xs){j:Nat}(hj:∀i:Nat,xs[i]?≠some j):Rise (SetTable.insertAt xs (SetTable.below xs j) j):=by
 obtain⟨h0,h1,h2⟩:=qx6 hr j;have lo:∀k x:Nat,k<SetTable.below xs j->xs[k]?=some x->x<j:=λk x hk e=>by
  obtain⟨h,rfl⟩:=ZO.mp e;exact h1 k h hk
 have hi:∀k x:Nat,SetTable.below xs j<=k->xs[k]?=some x->j<x:=λk x hk e=>by
  obtain⟨h,e'⟩:=ZO.mp e;have:=h2 k h hk;rw[e'] at this;have jH:x≠j:=λz=>hj k (by rw[e,z]);lia
 generalize SetTable.below xs j=p at *;refine xf0 λa b x y vJ ea eb=>?_;rw[qd2 _ _ h0] at ea eb;by_cases a1:a<p
 ·rw[Zp a1] at ea;by_cases b1:b<p
  ·rw[Zp b1] at eb;exact hr.at vJ ea eb
  ·rw[Zk b1] at eb;by_cases b2:b=p
   ·rw[Zp b2] at eb;cases eb;exact lo a x a1 ea
   ·rw[Zk b2] at eb;exact hr.at (by lia) ea eb
 ·rw[Zk a1] at ea;rw[Zk (by lia),Zk (by lia)] at eb;by_cases a2:a=p
  ·rw[Zp a2] at ea;cases ea;exact hi _ y (by lia) eb
  ·rw[Zk a2] at ea;exact hr.at (by lia) ea eb
theorem qt2 {t t':SetTable}(h:t.mask=t'.mask):∀(m:Nat) (p:SetTable.Probe),adv t m p=adv t' m p
 |0,p=>rfl
 |m+1,p=>by
  have e:t.advance p=t'.advance p:=by unfold SetTable.advance;rw[h]
  show adv t m (t.advance p)=adv t' m (t'.advance p);rw[e];exact qt2 h m _
theorem qo6 {t t':SetTable}(h:t.mask=t'.mask) (x:Int):t.probeStart x=t'.probeStart x:=by unfold SetTable.probeStart;rw[h]
def Way (t:SetTable) (x:Int) (j:Nat):Prop:=∃m,m<10*SetTable.turns t.mask/\(adv t m (t.probeStart x)).j=j/\∀m',m'<m->∃i:Nat,t.place[i]?=some (adv t m' (t.probeStart x)).j
theorem Way.more {t t':SetTable}{x:Int}{j:Nat}(w:Way t x j) (hm:t.mask=t'.mask) (hp:∀k:Nat,(∃i:Nat,t.place[i]?=some k)->∃i:Nat,t'.place[i]?=some k):Way t' x j:=by
 obtain⟨m,h1,h2,h3⟩:=w;refine⟨m,by rw[<- hm];exact h1,?_,λm' hm'=>?_⟩
 ·rw[<- qo6 hm,<- qt2 hm];exact h2
 ·rw[<- qo6 hm,<- qt2 hm];exact hp _ (h3 m' hm')
structure Good (t:SetTable) (hs:Array Int):Prop where
 gr:Grown t hs.size
 ri:Rise t.place
 wy:∀(i j:Nat) (x:Int),t.place[i]?=some j->hs[i]?=some x->Way t x j
theorem Good.put {t:SetTable}{hs:Array Int}(g:Good t hs) (hf:t.tooFull=false){j:Nat}{x:Int}(hj:∀i:Nat,t.place[i]?≠some j) (w:Way t x j):Good (t.put j).1 (SetTable.insertAt hs (t.put j).2 x):=by
 have e:(t.put j).1={ t with place:=SetTable.insertAt t.place (SetTable.below t.place j) j }:=by
  unfold SetTable.put;simp only;rw[g.gr.du,qG8];simp[g.gr.du]
 have e2:(t.put j).2=SetTable.below t.place j:=rfl;have vO:=(qx6 g.ri j).1;have hsz:t.place.size=hs.size:=g.gr.pl;have jU:∀k:Nat,(∃i:Nat,t.place[i]?=some k)->∃i:Nat,(t.put j).1.place[i]?=some k:=λk ⟨i,hi⟩=>by
  rw[e];by_cases h:i<SetTable.below t.place j
  ·exact⟨i,by rw[qd2 _ _ vO,Zp h];exact hi⟩
  ·exact⟨i+1,by rw[qd2 _ _ vO,Zk (by lia),Zk (by lia)];exact hi⟩
 have vI:t.mask=(t.put j).1.mask:=by rw[e]
 refine⟨by rw[ql0];exact g.gr.put hf j,by rw[e];exact xn1 g.ri hj,λi k y hi hy=>?_⟩;rw[e2,qd2 _ _ (by lia)] at hy;rw[e] at hi;have hi':(SetTable.insertAt t.place (SetTable.below t.place j) j)[i]?=some k:=hi;rw[qd2 _ _ vO] at hi';by_cases h1:i<SetTable.below t.place j
 ·rw[Zp h1] at hi' hy;exact (g.wy i k y hi' hy).more vI jU
 ·rw[Zk h1] at hi' hy;by_cases h2:i=SetTable.below t.place j
  ·rw[Zp h2] at hi' hy;cases hi';cases hy;exact w.more vI jU
  ·rw[Zk h2] at hi' hy;exact (g.wy (i-1) k y hi' hy).more vI jU
def tm (mask:Nat):SetTable:={ mask:=mask,place:=#[],dummies:=#[],finger:=0,led:=false,moves:=0,plain:=true }
theorem xf1 {mask i k:Nat}(hi:i<=mask) (hk:k<=SetTable.runEnd mask i-i):i+k<=mask:=by
 unfold SetTable.runEnd at hk;split at hk<;>lia
theorem qK1 {mask:Nat}{owner:Array (Option Nat)}:∀(f i p:Nat) (p0:SetTable.Probe) (j:Nat),i<=mask->Head (tm mask) i p none p0->SetTable.layClean.free mask owner f i p=some j ->
  ∃m,m<10*f/\(adv (tm mask) m p0).j=j/\j<=mask/\(owner.getD j (some 0)).isNone=true/\∀m',m'<m->(adv (tm mask) m' p0).j<=mask/\(owner.getD (adv (tm mask) m' p0).j (some 0)).isNone=false
 |0,i,p,p0,j,_,_,h=>by cases h
 |f+1,i,p,p0,j,hi,hd,h=>by
  unfold SetTable.layClean.free at h;have vL:=qM2 mask i;have wB:∀k,k<=SetTable.runEnd mask i-i->(adv (tm mask) k p0).j=i+k:=λk hk=>by
   rw[qG7 (tm mask) k p0 (by rw[hd.e];exact hk),hd.e]
  have vS:i<=SetTable.runEnd mask i:=by unfold SetTable.runEnd;split<;>lia
  cases e:(List.range (SetTable.runEnd mask i+1-i)).find? λk=>(owner.getD (i+k) (some 0)).isNone with
  |some k=>
   rw[e] at h;have hj:i+k=j:=Zv h;obtain⟨h1,h2,h3⟩:=List.find?_range_eq_some.mp e;have hk:k<=SetTable.runEnd mask i-i:=by have:=ZH.mp h2;lia
   refine⟨k,by lia,by rw[wB k hk];exact hj,by rw[<- hj];exact xf1 hi hk,by rw[<- hj];exact h1,λm' hm'=>?_⟩;rw[wB m' (by lia)];refine⟨xf1 hi (by lia),?_⟩;have:=h3 m' hm';simpa using this
  |none=>
   rw[e] at h;simp only at h;have jG:∀k,k<=SetTable.runEnd mask i-i->(owner.getD (i+k) (some 0)).isNone=false:=λk hk=>by
    have h0:∀x∈List.range (SetTable.runEnd mask i+1-i),¬(owner.getD (i+x) (some 0)).isNone=true:=by simpa using e
    have:=h0 k (ZH.mpr (by lia));exact Yu.mpr this
   have hnext:Head (tm mask) (SetTable.leap mask i p).1 (SetTable.leap mask i p).2 none (adv (tm mask) ((SetTable.runEnd mask i-i)+1) p0):=by
    refine⟨?_⟩;rw[qm4,qG7 (tm mask) _ p0 (by rw[hd.e];exact Zd _)];show (tm mask).advance _=_;rw[hd.e];unfold SetTable.advance;rw[Zk (by show ¬(SetTable.runEnd mask i-i)-(SetTable.runEnd mask i-i)>0;lia)]
    rfl
   have hl:(SetTable.leap mask i p).1<=mask:=by
    have:=Wv (i*5+1+p/32) (Vl mask);exact Xd this
   obtain⟨m,h1,h2,h3,h4,h5⟩:=qK1 f _ _ _ j hl hnext h;refine⟨(SetTable.runEnd mask i-i)+1+m,by lia,by rw[qm4];exact h2,h3,h4,λm' hm'=>?_⟩;by_cases hc:m'<=SetTable.runEnd mask i-i
   ·rw[wB m' hc];exact⟨xf1 hi hc,jG m' hc⟩
   ·obtain⟨d,rfl⟩:∃d,m'=(SetTable.runEnd mask i-i)+1+d:=⟨m'-((SetTable.runEnd mask i-i)+1),by lia⟩;rw[qm4];exact h5 d (by lia)
def WayO (mask:Nat) (owner:Array (Option Nat)) (x:Int) (j:Nat):Prop:=∃m,m<10*SetTable.turns mask/\(adv (tm mask) m ((tm mask).probeStart x)).j=j/\∀m',m'<m->∃v:Nat,owner[(adv (tm mask) m' ((tm mask).probeStart x)).j]?=some (some v)
structure LaidW (mask:Nat) (owner:Array (Option Nat)) (hs:List Int) (K:Nat):Prop where
 sz:owner.size=mask+1
 wy:∀j k:Nat,owner[j]?=some (some k)->k<K/\∀x,hs[k]?=some x->WayO mask owner x j
theorem q35 {mask K:Nat}{owner:Array (Option Nat)}{hs:List Int}(g:LaidW mask owner hs K){x:Int}(hx:hs[K]?=some x){j:Nat}
  (h:SetTable.layClean.free mask owner (SetTable.turns mask) (SetTable.bits x%(mask+1)) (SetTable.bits x)=some j):LaidW mask (owner.setIfInBounds j (some K)) hs (K+1):=by
 obtain⟨m,h1,h2,h3,h4,h5⟩:=qK1 (mask:=mask) (owner:=owner) (SetTable.turns mask) _ _ ((tm mask).probeStart x) j (Xd (Wv _ (Vl _))) ⟨rfl⟩ h;have hjs:j<owner.size:=by rw[g.sz];lia
 have some':∀k:Nat,k<=mask->(owner.getD k (some 0)).isNone=false->∃v:Nat,owner[k]?=some (some v):=λk hk hn=>by
  have hks:k<owner.size:=by rw[g.sz];lia
  have e:owner.getD k (some 0)=owner[k]:=by simp[Array.getD,hks]
  rw[e] at hn;cases ho:owner[k] with
  |none=>rw[ho] at hn;cases hn
  |some v=>exact⟨v,by rw[ZQ hks,ho]⟩
 have keep:∀k v:Nat,owner[k]?=some (some v)->∃v':Nat,(owner.setIfInBounds j (some K))[k]?=some (some v'):=λk v hk=>by
  rw[Yo];by_cases e:j=k
  ·rw[Zp e,Zp hjs];exact⟨K,rfl⟩
  ·rw[Zk e];exact⟨v,hk⟩
 have up:∀y k,WayO mask owner y k->WayO mask (owner.setIfInBounds j (some K)) y k:=λy k ⟨a,b,c,d⟩=>⟨a,b,c,λm' hm'=>by
  obtain⟨v,hv⟩:=d m' hm';exact keep _ v hv⟩
 refine⟨by rw[Wo];exact g.sz,λk v hk=>?_⟩;rw[Yo] at hk;by_cases e:j=k
 ·rw[Zp e,Zp hjs] at hk;have ev:v=K:=by
   have:=Zv (Zv hk);exact this.symm
  subst ev;refine⟨Yy _,λy hy=>?_⟩;rw[hx] at hy;cases hy;rw[<- e];refine up x j ⟨m,h1,h2,λm' hm'=>?_⟩;obtain⟨a,b⟩:=h5 m' hm';exact some' _ a b
 ·rw[Zk e] at hk;obtain⟨a,b⟩:=g.wy k v hk;exact⟨by lia,λy hy=>up y k (b y hy)⟩
theorem qP5 {mask:Nat}(all:List Int):∀(hs:List Int) (owner owner':Array (Option Nat)) (K K':Nat),LaidW mask owner all K->(∀i x,hs[i]?=some x->all[K+i]?=some x) ->
  (hs.foldl (λ(acc:Option (Array (Option Nat)×Nat)) (h:Int)=>do
   let (owner,k) <- acc
   let j <- SetTable.layClean.free mask owner (SetTable.turns mask) (SetTable.bits h%(mask+1)) (SetTable.bits h)
   pure (owner.setIfInBounds j (some k),k+1)) (some (owner,K)))=some (owner',K')->LaidW mask owner' all K'
 |[],owner,owner',K,K',g,_,e=>by
  have:=Zv e;cases this;exact g
 |h::hs,owner,owner',K,K',g,ha,e=>by
  rw[Yd] at e;have hx:=ha 0 h rfl;rw[Vk] at hx;cases hf:SetTable.layClean.free mask owner (SetTable.turns mask) (SetTable.bits h%(mask+1)) (SetTable.bits h) with
  |none=>
   exfalso;have e2:(hs.foldl (λ(acc:Option (Array (Option Nat)×Nat)) (h:Int)=>do
    let (owner,k) <- acc
    let j <- SetTable.layClean.free mask owner (SetTable.turns mask) (SetTable.bits h%(mask+1)) (SetTable.bits h)
    pure (owner.setIfInBounds j (some k),k+1)) none)=some (owner',K'):=by
    rw[<- e];congr 1;show none=(SetTable.layClean.free mask owner (SetTable.turns mask) (SetTable.bits h%(mask+1)) (SetTable.bits h)).bind _;rw[hf]
    rfl
   have no:∀l:List Int,(l.foldl (λ(acc:Option (Array (Option Nat)×Nat)) (h:Int)=>do
    let (owner,k) <- acc
    let j <- SetTable.layClean.free mask owner (SetTable.turns mask) (SetTable.bits h%(mask+1)) (SetTable.bits h)
    pure (owner.setIfInBounds j (some k),k+1)) none)=none:=λl=>by
    induction l with
    |nil=>rfl
    |cons a l ih=>rw[Yd];exact ih
   rw[no] at e2;cases e2
  |some j=>
   refine qP5 all hs (owner.setIfInBounds j (some K)) owner' (K+1) K' (q35 g hx hf) (λi x hi=>?_) ?_
   ·have:=ha (i+1) x (by simpa using hi);rw[show K+1+i=K+(i+1) by lia];exact this
   ·rw[<- e];congr 1;show some _=(SetTable.layClean.free mask owner (SetTable.turns mask) (SetTable.bits h%(mask+1)) (SetTable.bits h)).bind _;rw[hf]
    rfl
theorem xn2 {mask:Nat}{hs:Array Int}{owner:Array (Option Nat)}(h:SetTable.layClean mask hs=some owner):LaidW mask owner hs.toList hs.size:=by
 unfold SetTable.layClean at h;rw[<- Vr] at h;obtain⟨⟨o,K'⟩,e,rfl⟩:=Zj.mp h;have g0:LaidW mask (Array.replicate (mask+1) none) hs.toList 0:=⟨by simp,λj k hk=>by
  rw[Array.getElem?_replicate] at hk;split at hk<;>cases hk⟩
 have g:=qP5 hs.toList hs.toList _ o 0 K' g0 (λi x hi=>by rw[WM];exact hi) e;refine⟨g.sz,λj k hk=>?_⟩;obtain⟨a,b⟩:=g.wy j k hk;have cnt:∀(l:List Int) (o o':Array (Option Nat)) (K K':Nat),(l.foldl (λ(acc:Option (Array (Option Nat)×Nat)) (h:Int)=>do
   let (owner,k) <- acc
   let j <- SetTable.layClean.free mask owner (SetTable.turns mask) (SetTable.bits h%(mask+1)) (SetTable.bits h)
   pure (owner.setIfInBounds j (some k),k+1)) (some (o,K)))=some (o',K')->K'=K+l.length:=λl=>by
  induction l with
  |nil=>intro o o' K K' e;have:=Zv e;cases this;rfl
  |cons x l ih=>
   intro o o' K K' e;rw[Yd] at e;cases hf:SetTable.layClean.free mask o (SetTable.turns mask) (SetTable.bits x%(mask+1)) (SetTable.bits x) with
   |none=>
    exfalso;have no:∀l:List Int,(l.foldl (λ(acc:Option (Array (Option Nat)×Nat)) (h:Int)=>do
     let (owner,k) <- acc
     let j <- SetTable.layClean.free mask owner (SetTable.turns mask) (SetTable.bits h%(mask+1)) (SetTable.bits h)
     pure (owner.setIfInBounds j (some k),k+1)) none)=none:=λl=>by
     induction l with
     |nil=>rfl
     |cons a l ih=>rw[Yd];exact ih
    have e2:(SetTable.layClean.free mask o (SetTable.turns mask) (SetTable.bits x%(mask+1)) (SetTable.bits x)).bind (λj=>some (o.setIfInBounds j (some K),K+1))=none:=by rw[hf];rfl
    have e3:(l.foldl (λ(acc:Option (Array (Option Nat)×Nat)) (h:Int)=>do
     let (owner,k) <- acc
     let j <- SetTable.layClean.free mask owner (SetTable.turns mask) (SetTable.bits h%(mask+1)) (SetTable.bits h)
     pure (owner.setIfInBounds j (some k),k+1)) ((SetTable.layClean.free mask o (SetTable.turns mask) (SetTable.bits x%(mask+1)) (SetTable.bits x)).bind (λj=>some (o.setIfInBounds j (some K),K+1))))=some (o',K'):=e
    rw[e2,no] at e3;cases e3
   |some j=>
    have e3:(l.foldl (λ(acc:Option (Array (Option Nat)×Nat)) (h:Int)=>do
     let (owner,k) <- acc
     let j <- SetTable.layClean.free mask owner (SetTable.turns mask) (SetTable.bits h%(mask+1)) (SetTable.bits h)
     pure (owner.setIfInBounds j (some k),k+1)) ((SetTable.layClean.free mask o (SetTable.turns mask) (SetTable.bits x%(mask+1)) (SetTable.bits x)).bind (λj=>some (o.setIfInBounds j (some K),K+1))))=some (o',K'):=e
    rw[hf] at e3;have:=ih _ _ _ _ e3;rw[this,ZJ];lia
 have hK:=cnt _ _ _ _ _ e;rw[WM,ZT] at hK;exact⟨by lia,b⟩
theorem qT3 (owner:Array (Option Nat)):∀(n:Nat),(∀i j k:Nat,((List.range n).filterMap λj=>(owner.getD j none).map (λv=>(j,v)))[i]?=some (j,k)->j<n/\owner[j]?=some (some k)) /\
  (∀(i i':Nat) (p p':Nat×Nat),i<i'->((List.range n).filterMap λj=>(owner.getD j none).map (λv=>(j,v)))[i]?=some p->((List.range n).filterMap λj=>(owner.getD j none).map (λv=>(j,v)))[i']?=some p'->p.1<p'.1) /\
  (∀j k:Nat,j<n->owner[j]?=some (some k)->∃i:Nat,((List.range n).filterMap λj=>(owner.getD j none).map (λv=>(j,v)))[i]?=some (j,k))
 |0=>⟨λi j k h=>by simp at h,λi i' p p' _ h=>by simp at h,λj k h=>absurd h (Yk _)⟩
 |n+1=>by
  obtain⟨h1,h2,h3⟩:=qT3 owner n;rw[YM,List.filterMap_append];generalize hL:((List.range n).filterMap λj=>(owner.getD j none).map (λv=>(j,v)))=L at h1 h2 h3;have hget:∀v,owner.getD n none=some v->owner[n]?=some (some v):=λv hv=>by
   by_cases hn:n<owner.size
   ·have e:owner.getD n none=owner[n]:=by simp[Array.getD,hn]
    rw[ZQ hn,<- e,hv]
   ·have e:owner.getD n none=none:=by simp[Array.getD,hn]
    rw[e] at hv;cases hv
  cases ho:owner.getD n none with
  |none=>
   have e:[n].filterMap (λj=>(owner.getD j none).map (λv=>(j,v)))=[]:=by
    rw[Yi,ho];rfl
   rw[e,XV];refine⟨λi j k h=>⟨Yl (h1 i j k h).1,(h1 i j k h).2⟩,h2,λj k hj hk=>?_⟩;by_cases ej:j=n
   ·subst ej;have hn:=(ZO.mp hk).1;have e:owner.getD j none=owner[j]:=by simp[Array.getD,hn]
    rw[ZQ hn] at hk;rw[e,Zv hk] at ho;cases ho
   ·exact h3 j k (by lia) hk
  |some v=>
   have e:[n].filterMap (λj=>(owner.getD j none).map (λv=>(j,v)))=[(n,v)]:=by
    rw[Yi,ho];rfl
   rw[e];have inL:∀(i:Nat) p,L[i]?=some p->p.1<n:=λi p h=>(h1 i p.1 p.2 h).1;refine⟨λi j k h=>?_,λi i' p p' hii h h'=>?_,λj k hj hk=>?_⟩
   ·by_cases hi:i<L.length
    ·rw[Zh hi] at h;exact⟨Yl (h1 i j k h).1,(h1 i j k h).2⟩
    ·rw[Zi (by lia)] at h;have:i-L.length=0:=by
      have:=(gS_ h).1;simp at this;lia
     rw[this] at h;have h:=Zv h;cases h;exact⟨Yy _,hget v ho⟩
   ·have hi':=(gS_ h').1;rw[Zr] at hi';have hi':i'<L.length+1:=hi';rw[Zh (by lia)] at h;by_cases hc:i'<L.length
    ·rw[Zh hc] at h';exact h2 i i' p p' hii h h'
    ·rw[Zi (by lia)] at h';have e0:i'-L.length=0:=by lia
     rw[e0] at h';have h':=Zv h';rw[<- h'];exact inL i p h
   ·by_cases ej:j=n
    ·subst ej;have:=hget v ho;rw[this] at hk;cases hk;exact⟨L.length,by rw[Zi (Zd _),Wh];rfl⟩
    ·obtain⟨i,hi⟩:=h3 j k (by lia) hk;exact⟨i,by rw[Zh (gS_ hi).1];exact hi⟩
theorem qB5 {α:Type}{es:Array α}{order:Array Nat}(h:∀v∈order,v<es.size){i k:Nat}(e:order[i]?=some k):(order.filterMap (es[·]?))[i]?=es[k]?:=by
 have key:∀(l:List Nat),(∀v∈l,v<es.size)->∀i k:Nat,l[i]?=some k->(l.filterMap (es[·]?))[i]?=es[k]?:=λl=>by
  induction l with
  |nil=>intro _ i k e;simp at e
  |cons a l ih=>
   intro hh i k e;have ha:=hh a Zu;rw[Yi,show es[a]?=some es[a] by simp[ha]];simp only;cases i with
   |zero=>
    have:a=k:=by simpa using e
    subst this;simp[ha]
   |succ i=>
    rw[List.getElem?_cons_succ] at e ⊢;exact ih (λv hv=>hh v (Zn _ hv)) i k e
 have:=key order.toList (λv hv=>h v (by simpa using hv)) i k (by rw[Z9];exact e);rw[<- Z9,Array.toList_filterMap];exact this
theorem xf2 {mask finger moves:Nat}{led plain:Bool}{hs:Array Int}{t:SetTable}{order:Array Nat}(e:SetTable.laid mask finger moves led plain hs=some (t,order)) (gr:Grown t hs.size) (ho:∀v∈order,v<hs.size) (hz:order.size=hs.size) :
  Good t (order.filterMap (hs[·]?)):=by
 unfold SetTable.laid at e;cases hl:SetTable.layClean mask hs with
 |none=>rw[hl] at e;cases e
 |some owner=>
  rw[hl] at e;have e:=Zv e;have g:=xn2 hl;obtain⟨h1,h2,h3⟩:=qT3 owner (mask+1);have et:t={ mask:=mask,place:=((((List.range (mask+1)).filterMap λj=>(owner.getD j none).map (λv=>(j,v))).map (·.1)).toArray),dummies:=#[],finger:=finger,led:=led,moves:=moves,plain:=plain }:=(Prod.mk.inj e).1.symm;have eo:order=((((List.range (mask+1)).filterMap λj=>(owner.getD j none).map (λv=>(j,v))).map (·.2)).toArray):=(Prod.mk.inj e).2.symm;generalize ((List.range (mask+1)).filterMap λj=>(owner.getD j none).map (λv=>(j,v)))=L at h1 h2 h3 et eo;have jS:∀i j:Nat,t.place[i]?=some j<->∃k,L[i]?=some (j,k):=λi j=>by
   rw[et];show ((L.map (·.1)).toArray)[i]?=some j<->_;rw[WU,Zb];constructor
   ·intro h;obtain⟨p,hp,rfl⟩:=Zj.mp h;exact⟨p.2,hp⟩
   ·rintro⟨k,h⟩;rw[h];rfl
  have vI:t.mask=mask:=by rw[et]
  refine⟨?_,xf0 λa b x y vJ ea eb=>?_,λi j x hi hx=>?_⟩
  ·rw[qm5 ho,hz];exact gr
  ·obtain⟨k,hk⟩:=(jS a x).mp ea;obtain⟨k',hk'⟩:=(jS b y).mp eb;exact h2 a b _ _ vJ hk hk'
  ·obtain⟨k,hk⟩:=(jS i j).mp hi;have hok:order[i]?=some k:=by
    rw[eo,WU,Zb,hk];rfl
   rw[qB5 ho hok] at hx;obtain⟨_,b⟩:=g.wy j k (h1 i j k hk).2;obtain⟨m,w1,w2,w3⟩:=b x (by rw[Z9];exact hx);have hmk':(tm mask).mask=t.mask:=vI.symm;refine⟨m,by rw[vI];exact w1,?_,λm' hm'=>?_⟩
   ·rw[<- qo6 hmk',<- qt2 hmk'];exact w2
   ·obtain⟨v,hv⟩:=w3 m' hm';rw[<- qo6 hmk',<- qt2 hmk'];have jB:(adv (tm mask) m' ((tm mask).probeStart x)).j<mask+1:=by
     have:=(ZO.mp hv).1;rw[g.sz] at this;exact this
    obtain⟨i',hi'⟩:=h3 _ v jB hv;exact⟨i',(jS i' _).mpr ⟨v,hi'⟩⟩
end SetT
namespace SetT
open PySem PySem.Spec PyProof.Rows
theorem xr3 {t:SetTable}(hd:t.dummies=#[]) (f:Nat->Int) (h:Int) (st:SetTable.Probe):∀(fuel m0 M:Nat),M-m0<fuel->m0<=M->st.dummy=none->t.slot (adv t M st).j=.empty ->
  (∃m1 j,m0<=m1/\m1<=M/\SetTable.probe.go t f h fuel (adv t m0 st)=some (.empty j none)/\(adv t m1 st).j=j/\t.slot j=.empty/\∀m',m0<=m'->m'<m1->∃i:Nat,t.place[i]?=some (adv t m' st).j/\f i≠h) \/
  (∃m1 j i,m0<=m1/\m1<M/\SetTable.probe.go t f h fuel (adv t m0 st)=some (.candidate j i (adv t (m1+1) st))/\(adv t m1 st).j=j/\t.slot j=.live i/\t.place[i]?=some j/\f i=h/\∀m',m0<=m'->m'<m1->∃i:Nat,t.place[i]?=some (adv t m' st).j/\f i≠h)
 |0,m0,M,h1,_,_,_=>absurd h1 (Yk _)
 |fuel+1,m0,M,h1,h2,hp,he=>by
  unfold SetTable.probe.go;have hdm:(adv t m0 st).dummy=none:=by rw[qM3];exact hp
  have hnx:t.advance (adv t m0 st)=adv t (m0+1) st:=by rw[qm4];rfl
  rcases q83 hd (adv t m0 st).j with e|⟨i,e,e2⟩
  ·rw[e];exact .inl ⟨m0,_,Zd _,h2,by rw[hdm],rfl,e,λm' a b=>absurd a (by lia)⟩
  ·rw[e];have jB:m0<M:=by
    rcases Nat.lt_or_ge m0 M with z|z
    ·exact z
    ·have:m0=M:=by lia
     subst this;rw[e] at he;cases he
   by_cases hc:f i==h
   ·refine .inr ⟨m0,_,i,Zd _,jB,?_,rfl,e,e2,by simpa using hc,λm' a b=>absurd a (by lia)⟩;simp only;rw[Zp hc,hnx]
   ·simp only;rw[Zk hc,hnx];have ext:∀m1,(∀m',m0+1<=m'->m'<m1->∃i:Nat,t.place[i]?=some (adv t m' st).j/\f i≠h)->∀m',m0<=m'->m'<m1->∃i:Nat,t.place[i]?=some (adv t m' st).j/\f i≠h:=λm1 hh m' a b=>by
     by_cases z:m'=m0
     ·subst z;exact⟨i,e2,by simpa using hc⟩
     ·exact hh m' (by lia) b
    rcases xr3 hd f h st fuel (m0+1) M (by lia) jB hp he with ⟨m1,j,a,b,c,d,e',g⟩|⟨m1,j,i',a,b,c,d,e',g,k,l⟩
    ·exact .inl ⟨m1,j,by lia,b,c,d,e',ext m1 g⟩
    ·exact .inr ⟨m1,j,i',by lia,b,c,d,e',g,k,ext m1 l⟩
theorem qt3 {t:SetTable}{f:Nat->Int}{h:Int}{st:SetTable.Probe}{pr:Option SetTable.Met}{m0 M:Nat}(hp:t.probe f h (adv t m0 st)=pr) (hd:t.dummies=#[]) (hM:M<10*SetTable.turns t.mask) (h2:m0<=M) (hdm:st.dummy=none) (he:t.slot (adv t M st).j=.empty)
  {es:Array (Int×Value)}(hf:∀(i:Nat) e,es[i]?=some e->f i=e.1) (jS:t.place.size=es.size) :
  (∃m1 j,m0<=m1/\m1<=M/\pr=some (.empty j none)/\(adv t m1 st).j=j/\t.slot j=.empty/\∀m',m0<=m'->m'<m1->∃i:Nat,t.place[i]?=some (adv t m' st).j/\∀e,es[i]?=some e->e.1≠h) \/
  (∃m1 j i,m0<=m1/\m1<M/\pr=some (.candidate j i (adv t (m1+1) st))/\(adv t m1 st).j=j/\t.slot j=.live i/\t.place[i]?=some j/\(∀e,es[i]?=some e->e.1=h)/\∀m',m0<=m'->m'<m1->∃i:Nat,t.place[i]?=some (adv t m' st).j/\∀e,es[i]?=some e->e.1≠h):=by
 subst hp;rcases xr3 hd f h st (10*SetTable.turns t.mask) m0 M (by lia) h2 hdm he with ⟨m1,j,a,b,c,d,e',g⟩|⟨m1,j,i',a,b,c,d,e',g,k,l⟩
 ·exact .inl ⟨m1,j,a,b,c,d,e',λm' x y=>let ⟨i,p,q⟩:=g m' x y;⟨i,p,λe z w=>q (by rw[hf i e z];exact w)⟩⟩
 ·exact .inr ⟨m1,j,i',a,b,c,d,e',g,λe z=>by rw[<- hf i' e z];exact k,λm' x y=>let ⟨i,p,q⟩:=l m' x y;⟨i,p,λe z w=>q (by rw[hf i e z];exact w)⟩⟩
section
variable {prog:Program}{w:World}{K:Type}[DecidableEq K]{knd:KeyKind prog w K}{A:Around}{E:Value->Shared->Prop}{s:Shared}
theorem xr4 {t:SetTable}{es:Array (Int×Value)}{ks:List K}{h:Heap}(G:Good t (es.map (·.1))) (kG:∀(i:Nat) e,es[i]?=some e->∃b' k',e.2=.ref b'/\IsTupleKey knd h k' b'/\e.1=tupleKeyHash knd k'){m1 j:Nat}(a4:(adv t m1 (t.probeStart (tupleKeyHash knd ks))).j=j) (a5:t.slot j=.empty)
  (a6:∀m',m'<m1->∃i:Nat,t.place[i]?=some (adv t m' (t.probeStart (tupleKeyHash knd ks))).j/\∀e b',es[i]?=some e->e.2=.ref b'->¬IsTupleKey knd h ks b') :
  ∀(i:Nat) e b',es[i]?=some e->e.2=.ref b'->¬IsTupleKey knd h ks b':=by
 intro i e b' x1 x2 x3;have g:Grown t es.size:=by have:=G.gr;rw[Yv] at this;exact this
 obtain⟨b0,k0,y1,y2,y3⟩:=kG i e x1;rw[x2] at y1;cases y1;have ek:k0=ks:=y2.inj x3;subst ek;have hi:i<t.place.size:=by rw[g.pl];exact (ZO.mp x1).1
 have hpi:t.place[i]?=some t.place[i]:=ZQ hi;obtain⟨m,w1,w2,w3⟩:=G.wy i _ e.1 hpi (by rw[Xn,x1];rfl);rw[y3] at w2 w3;rcases WP m m1 with z|z|z
 ·obtain⟨i',p1,p2⟩:=a6 m z;rw[w2] at p1;have e1:=qv5 G.ri p1;have e2:=qv5 G.ri hpi;rw[e1] at e2;cases e2;exact p2 e b' x1 x2 x3
 ·subst z;rw[w2] at a4;rw[<- a4,qv5 G.ri hpi] at a5;cases a5
 ·obtain⟨i',p1⟩:=w3 m1 z;rw[a4] at p1;rw[qv5 G.ri p1] at a5;cases a5
theorem xy0 {a b:Addr}{o:Obj}{es:Array (Int×Value)}{ep:Nat}{t:SetTable}{ks:List K}{Q:SetFound->Shared->Prop}(hu:A.units<cLine)
  (ho:s.heap.get? a=some o) (hd:o.data=.set es ep t) (G:Good t (es.map (·.1))) (hk:IsTupleKey knd s.heap ks b)
  (kG:∀(i:Nat) e,es[i]?=some e->∃b' k',e.2=.ref b'/\IsTupleKey knd s.heap k' b'/\e.1=tupleKeyHash knd k')
  (there:(∃(i:Nat) (e:Int×Value) (b':Addr),es[i]?=some e/\e.2=.ref b'/\IsTupleKey knd s.heap ks b')->Q (.there none) s)
  (free:∀j,(∀(i:Nat) e b',es[i]?=some e->e.2=.ref b'->¬IsTupleKey knd s.heap ks b')->Way t (tupleKeyHash knd ks) j->(∀i:Nat,t.place[i]?≠some j)->Q (.free j false) s)
  {M:Nat}(hM:M<10*SetTable.turns t.mask) (hMe:t.slot (adv t M (t.probeStart (tupleKeyHash knd ks))).j=.empty) :
  ∀(d m0 fuel:Nat) (stand:Option SetTable.Probe),M-m0<=d->m0<=M->d<fuel->stand.getD (t.probeStart (tupleKeyHash knd ks))=adv t m0 (t.probeStart (tupleKeyHash knd ks)) ->
   (∀m',m'<m0->∃i:Nat,t.place[i]?=some (adv t m' (t.probeStart (tupleKeyHash knd ks))).j/\∀e b',es[i]?=some e->e.2=.ref b'->¬IsTupleKey knd s.heap ks b') ->
   wpAny (model prog w) A (setSearchFrom a (.ref b) (tupleKeyHash knd ks) true fuel stand) Q E s:=by
 have g:Grown t es.size:=by have:=G.gr;rw[Yv] at this;exact this
 intro d
 induction d with
 |zero=>
  intro m0 fuel stand h1 h2 h3 kF hps;have em:m0=M:=by lia
  subst em;cases fuel with
  |zero=>exact absurd h3 (Yk _)
  |succ fuel=>
   unfold setSearchFrom;refine Za (YE ho hd g.fits ?_);dsimp only;rw[g.way];simp only[Zy,Z8];rw[kF];split
   ·rename_i met hp;rcases qt3 hp g.du hM (Zd _) rfl hMe (es:=es) (λi e he=>by show (es[i]?.map (·.1)).getD 0=e.1;rw[he];rfl) g.pl with ⟨m1,j,a1,a2,a3,a4,a5,a6⟩|⟨m1,j,i,a1,a2,_⟩
    ·cases a3;dsimp only;refine Zg ?_;have e1:m1=m0:=by lia
     subst e1;have nj:∀i:Nat,t.place[i]?≠some j:=λi z=>by rw[qv5 G.ri z] at a5;cases a5
     exact free j (xr4 G kG a4 a5 hps) ⟨m1,hM,a4,λm' hm'=>let ⟨i,hi,_⟩:=hps m' hm';⟨i,hi⟩⟩ nj
    ·lia
   ·rename_i hp;exact Or.elim (qt3 rfl g.du hM (Zd _) rfl hMe (es:=es) (λi e he=>by show (es[i]?.map (·.1)).getD 0=e.1;rw[he];rfl) g.pl) (λ⟨_,_,_,_,e,_⟩=>(hp _ e).elim) (λ⟨_,_,_,_,_,e,_⟩=>(hp _ e).elim)
 |succ d ih=>
  intro m0 fuel stand h1 h2 h3 kF hps;cases fuel with
  |zero=>exact absurd h3 (Yk _)
  |succ fuel=>
   unfold setSearchFrom;refine Za (YE ho hd g.fits ?_);dsimp only;rw[g.way];simp only[Zy,Z8];rw[kF];split
   rotate_left
   ·rename_i hp;exact Or.elim (qt3 rfl g.du hM h2 rfl hMe (es:=es) (λi e he=>by show (es[i]?.map (·.1)).getD 0=e.1;rw[he];rfl) g.pl) (λ⟨_,_,_,_,e,_⟩=>(hp _ e).elim) (λ⟨_,_,_,_,_,e,_⟩=>(hp _ e).elim)
   rename_i met hp;rcases qt3 hp g.du hM h2 rfl hMe (es:=es) (λi e he=>by show (es[i]?.map (·.1)).getD 0=e.1;rw[he];rfl) g.pl with ⟨m1,j,a1,a2,a3,a4,a5,a6⟩|⟨m1,j,i,a1,a2,a3,a4,a5,a6,a7,a8⟩
   ·cases a3;dsimp only;refine Zg ?_;have nj:∀i:Nat,t.place[i]?≠some j:=λi z=>by rw[qv5 G.ri z] at a5;cases a5
    have all:∀m',m'<m1->∃i:Nat,t.place[i]?=some (adv t m' (t.probeStart (tupleKeyHash knd ks))).j/\∀e b',es[i]?=some e->e.2=.ref b'->¬IsTupleKey knd s.heap ks b':=λm' hm'=>by
     by_cases z:m'<m0
     ·exact hps m' z
     ·obtain⟨i',hi',hf⟩:=a6 m' (by lia) hm';refine⟨i',hi',λe c x1 x2 x3=>hf e x1 ?_⟩;obtain⟨c',kc,y1,y2,y3⟩:=kG i' e x1;rw[x2] at y1;cases y1;rw[y3,y2.inj x3]
    exact free j (xr4 G kG a4 a5 all) ⟨m1,by lia,a4,λm' hm'=>let ⟨i,hi,_⟩:=all m' hm';⟨i,hi⟩⟩ nj
   ·cases a3;dsimp only;have hi:i<es.size:=by
     have:=(ZO.mp a6).1;rw[g.pl] at this;exact this
    obtain⟨b',k',e2,hk',e3⟩:=kG i es[i] (ZQ hi);have hei:es[i]?=some (es[i].1,.ref b'):=by
     rw[<- e2];simp[hi]
    have sm:t.sameMemory t.moves t.mask=some true:=by
     unfold SetTable.sameMemory;rw[Zp (by simp)]
    have seen:∀y∈(es.filter (·.1==tupleKeyHash knd ks)).toList.map (·.2),∃b ks',y=.ref b/\IsTupleKey knd s.heap ks' b:=λy hy=>by
     obtain⟨e,he',rfl⟩:=ZR.mp hy;have:e∈es:=(Array.mem_filter.mp (show e∈es.filter (·.1==tupleKeyHash knd ks) by simpa using he')).1;obtain⟨n,hn,en⟩:=Array.mem_iff_getElem.mp this;obtain⟨b'',ks'',x1,x2,_⟩:=kG n e (by rw[ZQ hn,en]);exact⟨b'',ks'',x1,x2⟩
    have nx:k'≠ks->wpAny (model prog w) A (setSearchFrom a (.ref b) (tupleKeyHash knd ks) true fuel (some (adv t (m1+1) (t.probeStart (tupleKeyHash knd ks))))) Q E s:=λjH=>by
     refine ih (m1+1) fuel _ (by lia) (by lia) (by lia) rfl λm' hm'=>?_;by_cases z:m'<m0
     ·exact hps m' z
     ·by_cases z2:m'=m1
      ·subst z2;refine⟨i,by rw[a4];exact a6,λe c x1 x2 x3=>jH ?_⟩;rw[hei] at x1;cases x1;cases x2;exact hk'.inj x3
      ·obtain⟨i',hi',hf⟩:=a8 m' (by lia) (by lia);refine⟨i',hi',λe c x1 x2 x3=>hf e x1 ?_⟩;obtain⟨c',kc,y1,y2,y3⟩:=kG i' e x1;rw[x2] at y1;cases y1;rw[y3,y2.inj x3]
    have yes:k'=ks->Q (.there none) s:=λhe=>there ⟨i,_,b',hei,rfl,by rw[<- he];exact hk'⟩;cases hl:t.led with
    |false=>
     simp only[VT,Xs];refine Za (xC1 hk ?_ seen);simp only[Zy,Z8];rw[hei];dsimp only;refine Za (Yg (wpAny_eqBool_tuple hu hk' hk ?_));by_cases jH:k'=ks
     ·rw[Zl jH];refine Za (YE ho hd g.fits ?_);dsimp only;simp only[VG,Xs];exact Zg (yes jH)
     ·rw[Zq jH];refine Za (YE ho hd g.fits ?_);dsimp only;simp only[WI,Zy,Z8];rw[sm];dsimp only;simp only[Xs];rw[a5];dsimp only;rw[hei];dsimp only;refine Za (wpAny_isSame_ref_self ?_);refine Za (Zg ?_);simp only[Xs];exact nx jH
    |true=>
     simp only[XE,Zy,Z8];rw[hei];dsimp only;refine Za (Yg (wpAny_eqBool_tuple hu hk' hk ?_));by_cases jH:k'=ks
     ·rw[Zl jH];refine Za (YE ho hd g.fits ?_);dsimp only;simp only[VG,Xs];exact Zg (yes jH)
     ·rw[Zq jH];refine Za (YE ho hd g.fits ?_);dsimp only;simp only[WI,Zy,Z8];rw[sm];dsimp only;simp only[Xs];rw[a5];dsimp only;rw[hei];dsimp only;refine Za (wpAny_isSame_ref_self ?_);refine Za (Zg ?_);simp only[Xs];exact nx jH
end
end SetT
namespace SetT
open PySem
theorem qY7 {mask:Nat}(P:Array (Option Nat)->Nat->Prop) (step:∀o K x j,P o K->SetTable.layClean.free mask o (SetTable.turns mask) (SetTable.bits x%(mask+1)) (SetTable.bits x)=some j->P (o.setIfInBounds j (some K)) (K+1)) :
  ∀(hs:List Int) (o o':Array (Option Nat)) (K K':Nat),P o K ->
  (hs.foldl (λ(acc:Option (Array (Option Nat)×Nat)) (h:Int)=>do
   let (owner,k) <- acc
   let j <- SetTable.layClean.free mask owner (SetTable.turns mask) (SetTable.bits h%(mask+1)) (SetTable.bits h)
   pure (owner.setIfInBounds j (some k),k+1)) (some (o,K)))=some (o',K')->P o' K'/\K'=K+hs.length
 |[],o,o',K,K',p,e=>by
  have:=Zv e;cases this;exact⟨p,rfl⟩
 |x::hs,o,o',K,K',p,e=>by
  rw[Yd] at e;have e3:(hs.foldl (λ(acc:Option (Array (Option Nat)×Nat)) (h:Int)=>do
     let (owner,k) <- acc
     let j <- SetTable.layClean.free mask owner (SetTable.turns mask) (SetTable.bits h%(mask+1)) (SetTable.bits h)
     pure (owner.setIfInBounds j (some k),k+1)) ((SetTable.layClean.free mask o (SetTable.turns mask) (SetTable.bits x%(mask+1)) (SetTable.bits x)).bind (λj=>some (o.setIfInBounds j (some K),K+1))))=some (o',K'):=e
  cases hf:SetTable.layClean.free mask o (SetTable.turns mask) (SetTable.bits x%(mask+1)) (SetTable.bits x) with
  |none=>
   exfalso;have no:∀l:List Int,(l.foldl (λ(acc:Option (Array (Option Nat)×Nat)) (h:Int)=>do
     let (owner,k) <- acc
     let j <- SetTable.layClean.free mask owner (SetTable.turns mask) (SetTable.bits h%(mask+1)) (SetTable.bits h)
     pure (owner.setIfInBounds j (some k),k+1)) none)=none:=λl=>by
    induction l with
    |nil=>rfl
    |cons a l ih=>rw[Yd];exact ih
   rw[hf] at e3;have e4:=no hs;rw[show (none:Option Nat).bind (λj=>some (o.setIfInBounds j (some K),K+1))=none from rfl,e4] at e3;cases e3
  |some j=>
   rw[hf] at e3;obtain⟨a,b⟩:=qY7 P step hs (o.setIfInBounds j (some K)) o' (K+1) K' (step o K x j p hf) e3;exact⟨a,by rw[b,ZJ];lia⟩
theorem xf3 {mask:Nat}{hs:Array Int}{owner:Array (Option Nat)}(h:SetTable.layClean mask hs=some owner):owner.size=mask+1/\∀k,k<hs.size->∃j:Nat,owner[j]?=some (some k):=by
 unfold SetTable.layClean at h;rw[<- Vr] at h;obtain⟨⟨o,K'⟩,e,rfl⟩:=Zj.mp h;obtain⟨⟨a,b⟩,c⟩:=qY7 (λo K=>o.size=mask+1/\∀k,k<K->∃j:Nat,o[j]?=some (some k)) (λo K x j p hf=>by
  obtain⟨p1,p2⟩:=p;obtain⟨m,h1,h2,h3,h4,h5⟩:=qK1 (mask:=mask) (owner:=o) (SetTable.turns mask) _ _ ((tm mask).probeStart x) j (Xd (Wv _ (Vl _))) ⟨rfl⟩ hf;have hjs:j<o.size:=by lia
  have ej:o.getD j (some 0)=o[j]:=by simp[Array.getD,hjs]
  rw[ej] at h4;refine⟨by rw[Wo];exact p1,λk hk=>?_⟩;by_cases z:k=K
  ·exact⟨j,by rw[Yo,Zp rfl,Zp hjs,z]⟩
  ·obtain⟨j',hj'⟩:=p2 k (by lia);refine⟨j',?_⟩;rw[Yo];by_cases y:j=j'
   ·subst y;rw[ZQ hjs] at hj';rw[Zv hj'] at h4;cases h4
   ·rw[Zk y];exact hj') hs.toList _ o 0 K' ⟨by simp,λk hk=>absurd hk (Yk _)⟩ e
 refine⟨a,λk hk=>b k ?_⟩;rw[c,WM,ZT];exact hk
theorem q36 {mask finger moves:Nat}{led plain:Bool}{hs:Array Int}{t:SetTable}{order:Array Nat}(e:SetTable.laid mask finger moves led plain hs=some (t,order)):∀k,k<hs.size->∃i:Nat,order[i]?=some k:=by
 unfold SetTable.laid at e;cases hl:SetTable.layClean mask hs with
 |none=>rw[hl] at e;cases e
 |some owner=>
  rw[hl] at e;have e:=Zv e;obtain⟨sz,cv⟩:=xf3 hl;obtain⟨h1,h2,h3⟩:=qT3 owner (mask+1);have eo:order=((((List.range (mask+1)).filterMap λj=>(owner.getD j none).map (λv=>(j,v))).map (·.2)).toArray):=(Prod.mk.inj e).2.symm;intro k hk;obtain⟨j,hj⟩:=cv k hk;have jB:=(ZO.mp hj).1;obtain⟨i,hi⟩:=h3 j k (by lia) hj;exact⟨i,by rw[eo,WU,Zb,hi];rfl⟩
end SetT
namespace SetT
open PySem PySem.Spec PyProof.Rows
section
variable {prog:Program}{w:World}{K:Type}[DecidableEq K]{knd:KeyKind prog w K}{A:Around}{E:Value->Shared->Prop}{s:Shared}
structure SetD (knd:KeyKind prog w K) (h:Heap) (a:Addr) (Ks:List (List K)):Prop where
 ex:∃o es ep t,h.get? a=some o/\o.ExactSet/\o.data=.set es ep t/\Good t (es.map (·.1))/\t.tooFull=false/\t.mask<=8*Ks.length+8/\es.size=Ks.length/\Ks.Nodup /\
  (∀(i:Nat) e,es[i]?=some e->∃b ks,e.2=.ref b/\ks∈Ks/\IsTupleKey knd h ks b/\e.1=tupleKeyHash knd ks)/\∀ks∈Ks,∃(i:Nat) (e:Int×Value) (b:Addr),es[i]?=some e/\e.2=.ref b/\IsTupleKey knd h ks b
theorem qB6 {α:Type}{xs:Array α}{p:Nat}(hp:p<=xs.size){x e:α}{i:Nat}(h:(SetTable.insertAt xs p x)[i]?=some e):e=x\/∃i':Nat,xs[i']?=some e:=by
 rw[qd2 _ _ hp] at h;split at h
 ·exact .inr ⟨_,h⟩
 ·split at h
  ·exact .inl (Zv h).symm
  ·exact .inr ⟨_,h⟩
theorem qB7 {α:Type}{xs:Array α}{p:Nat}(hp:p<=xs.size){x e:α}{i:Nat}(h:xs[i]?=some e):∃i':Nat,(SetTable.insertAt xs p x)[i']?=some e:=by
 by_cases z:i<p
 ·exact⟨i,by rw[qd2 _ _ hp,Zp z];exact h⟩
 ·exact⟨i+1,by rw[qd2 _ _ hp,Zk (by lia),Zk (by lia)];exact h⟩
theorem qP6 {α β:Type}(f:α->β) (xs:Array α) (p:Nat) (hp:p<=xs.size) (x:α):(SetTable.insertAt xs p x).map f=SetTable.insertAt (xs.map f) p (f x):=by
 apply Array.ext_getElem?
 intro i;rw[Xn,qd2 _ _ hp,qd2 _ _ (by rw[Yv];exact hp)];split
 ·rw[Xn]
 ·split
  ·rfl
  ·rw[Xn]
theorem Good.plain {t:SetTable}{hs:Array Int}(g:Good t hs) (b:Bool):Good { t with plain:=b } hs:=⟨⟨g.gr.pl,g.gr.du,g.gr.ma,g.gr.le⟩,g.ri,λi j x h1 h2=>by
 obtain⟨m,w1,w2,w3⟩:=g.wy i j x h1 h2;have e:t.mask=({ t with plain:=b }:SetTable).mask:=rfl;exact Way.more (t:=t) ⟨m,w1,w2,w3⟩ e λk hk=>hk⟩
theorem xn3 {a b:Addr}{ks:List K}{Ks:List (List K)}{Q:Bool->Shared->Prop}(hu:A.units<cLine) (S:SetD knd s.heap a Ks) (hk:IsTupleKey knd s.heap ks b) (hHb:∀o items m,s.heap.get? b=some o->o.data=.seq items m->∀v∈items.toList,Hb v)
  (hsz:Ks.length<1200) (old:ks∈Ks->Q false s) (q:ks∉Ks->∀h',Heap.SameBut a s.heap h'->SetD knd h' a (ks::Ks)->Q true { s with heap:=h' }) :
  wpAny (model prog w) A (setAddHashed a (.ref b) (tupleKeyHash knd ks)) Q E s:=by
 obtain⟨o,es,ep,t,ho,wE,hd,G,hf,vI,hsize,wC,kG,hcv⟩:=S.ex;have g:Grown t es.size:=by have:=G.gr;rw[Yv] at this;exact this
 unfold setAddHashed setAddHashedIn;refine Yg (Za (YE ho hd g.fits ?_));dsimp only;have hby:byScan (.ref b) es=false:=rfl;rw[hby];simp only[Zy,Z8];obtain⟨m,hm,hslot⟩:=g.meets (tupleKeyHash knd ks);have hfu:m<100000:=by
  unfold SetTable.turns at hm;lia
 refine Za (xy0 hu ho hd G hk (λi e he=>?_) (λjJ=>?_) (λj wO hway hnj=>?_) hm hslot m 0 100000 none (by lia) (ZE _) hfu rfl λm' hm'=>absurd hm' (Yk _))
 ·obtain⟨b',ks',e1,e2,e3,e4⟩:=kG i e he;exact⟨b',ks',e1,e3,e4⟩
 ·dsimp only;refine Zg (old ?_);obtain⟨i,e,b',x1,x2,x3⟩:=jJ;obtain⟨b'',ks',e1,e2,e3,e4⟩:=kG i e x1;rw[x2] at e1;cases e1;rw[x3.inj e3];exact e2
 have hnew:ks∉Ks:=λz=>by
  obtain⟨i,e,b',x1,x2,x3⟩:=hcv ks z;exact wO i e b' x1 x2 x3
 replace q:=q hnew
 dsimp only;refine Za (YE ho hd g.fits ?_);dsimp only;have G1:=G.put hf hnj hway;have vO:(t.put j).2<=es.size:=by
  have:=(qx6 G.ri j).1;rw[g.pl] at this;exact this
 have ep1:(SetTable.insertAt es (t.put j).2 (tupleKeyHash knd ks,Value.ref b)).map (·.1)=SetTable.insertAt (es.map (·.1)) (t.put j).2 (tupleKeyHash knd ks):=qP6 _ _ _ vO _;rw[<- ep1] at G1;have hmk0:(t.put j).1.mask=t.mask:=rfl;generalize hp:t.put j=tp at G1 vO hmk0;obtain⟨t1,p⟩:=tp;dsimp only at G1 vO hmk0 ⊢;have hmk1:t1.mask=t.mask:=hmk0;have hba:b≠a:=qz4 hk ho hd;have mem1:∀{h1:Heap},Heap.SameBut a s.heap h1->∀(i:Nat) e,(SetTable.insertAt es p (tupleKeyHash knd ks,Value.ref b))[i]?=some e->∃b' ks',e.2=.ref b'/\ks'∈ks::Ks/\IsTupleKey knd h1 ks' b'/\e.1=tupleKeyHash knd ks':=λ{h1} hs i e he=>by
  rcases qB6 vO he with rfl|⟨i',he⟩
  ·exact⟨b,ks,rfl,Zu,qr2 hk hba hs,rfl⟩
  ·obtain⟨b',ks',e1,e2,e3,e4⟩:=kG i' e he;exact⟨b',ks',e1,Zn _ e2,qr2 e3 (qz4 e3 ho hd) hs,e4⟩
 have cov1:∀{h1:Heap},Heap.SameBut a s.heap h1->∀ks'∈ks::Ks,∃(i:Nat) (e:Int×Value) (b':Addr),(SetTable.insertAt es p (tupleKeyHash knd ks,Value.ref b))[i]?=some e/\e.2=.ref b'/\IsTupleKey knd h1 ks' b':=λ{h1} hs ks' hks'=>by
  rcases ZB.mp hks' with rfl|hks'
  ·exact⟨p,_,b,by rw[qd2 _ _ vO,Zk (YT _),Zp rfl],rfl,qr2 hk hba hs⟩
  ·obtain⟨i,e,b',x1,x2,x3⟩:=hcv ks' hks';obtain⟨i',hi'⟩:=qB7 vO (x:=(tupleKeyHash knd ks,Value.ref b)) x1;exact⟨i',e,b',hi',x2,qr2 x3 (qz4 x3 ho hd) hs⟩
 have nd1:(ks::Ks).Nodup:=YJ.mpr ⟨hnew,wC⟩;have sz1:(SetTable.insertAt es p (tupleKeyHash knd ks,Value.ref b)).size=es.size+1:=ql0 _ _ _;have szK:es.size+1=(ks::Ks).length:=by rw[ZJ,hsize]
 have room:es.size+1<=sizeLine:=by rw[Y9];lia
 have tail:∀t2:SetTable,Good t2 ((SetTable.insertAt es p (tupleKeyHash knd ks,Value.ref b)).map (·.1))->t2.mask=t.mask->wpAny (model prog w) A (do
   storeSet a (SetTable.insertAt es p (tupleKeyHash knd ks,Value.ref b)) t2
   if (!false&&t2.tooFull)=true then do
     setRelay a (SetTable.grown (es.size+1))
     pure true
    else pure true) Q E s:=λt2 G2 vP=>by
  have g2:Grown t2 (es.size+1):=by have:=G2.gr;rw[Yv,sz1] at this;exact this
  refine Za (wpAny_storeSet_of ho hd ?_ (by rw[sz1];exact room));have ho1:=q87 (es':=SetTable.insertAt es p (tupleKeyHash knd ks,Value.ref b)) (t':=t2) ho hd;have hs1:=Yq s.heap a (Obj.putSet (SetTable.insertAt es p (tupleKeyHash knd ks,Value.ref b)) t2);cases ht:t2.tooFull with
  |false=>
   simp only[WI,Zy,Z8];refine Zg (q _ hs1 ⟨_,_,_,t2,ho1,wE,rfl,G2,ht,by rw[ZJ];lia,by rw[sz1];exact szK,nd1,mem1 hs1,cov1 hs1⟩)
  |true=>
   simp only[VT,VG,Xs];refine Za ?_;unfold setRelay;refine Za (YE ho1 rfl (by rw[sz1];exact g2.fits) ?_);dsimp only;have gw:SetTable.grown (es.size+1)=(es.size+1)*4:=by
    unfold SetTable.grown;rw[Zk (by lia)]
   obtain⟨k,ek,_,_,hk3⟩:=qv9 (n:=SetTable.grown (es.size+1)) (by rw[gw];lia);rw[Zk (by rw[ek,Y9];rw[gw] at hk3;lia)];obtain⟨t3,order,er,g3,hw1,hw2,_,eo,ev⟩:=qR8 (t:=t2) (hs:=(SetTable.insertAt es p (tupleKeyHash knd ks,Value.ref b)).map (·.1)) (wanted:=SetTable.grown (es.size+1)) (by rw[gw];lia) (by rw[Yv,sz1,gw];lia);have G3:=xf2 er g3 ev eo;have cv3:=q36 er;rw[Yv] at g3 eo ev cv3;rw[er];have es2:(order.filterMap ((SetTable.insertAt es p (tupleKeyHash knd ks,Value.ref b))[·]?)).size=es.size+1:=by rw[qm5 ev,eo,sz1]
   refine Za ?_;show wpAny _ _ (if ((order.filterMap ((SetTable.insertAt es p (tupleKeyHash knd ks,Value.ref b))[·]?)).size != (SetTable.insertAt es p (tupleKeyHash knd ks,Value.ref b)).size)=true then _ else _) _ _ _;rw[Zk (by rw[es2,sz1];simp)];refine Zg ?_;dsimp only;refine wpAny_storeSet_of ho1 rfl ?_ (by rw[es2];exact room);have vW:=q87 (es':=order.filterMap ((SetTable.insertAt es p (tupleKeyHash knd ks,Value.ref b))[·]?)) (t':=t3) ho1 rfl;have hs2:=hs1.trans (Yq _ a (Obj.putSet (order.filterMap ((SetTable.insertAt es p (tupleKeyHash knd ks,Value.ref b))[·]?)) t3));have emap:(order.filterMap ((SetTable.insertAt es p (tupleKeyHash knd ks,Value.ref b))[·]?)).map (·.1)=order.filterMap (((SetTable.insertAt es p (tupleKeyHash knd ks,Value.ref b)).map (·.1))[·]?):=by
    apply Array.ext_getElem?
    intro i;rw[Xn];by_cases hi:i<order.size
    ·have ei:order[i]?=some order[i]:=ZQ hi;rw[qB5 ev ei,qB5 (by rw[Yv];exact ev) ei,Xn]
    ·rw[XU (by rw[qm5 ev];lia),XU (by rw[qm5 (by rw[Yv];exact ev)];lia)]
     rfl
   refine Zg (q _ hs2 ⟨_,_,_,t3,vW,wE,rfl,by rw[emap];exact G3,?_,?_,by rw[es2];exact szK,nd1,λi e he=>?_,λks' hks'=>?_⟩)
   ·unfold SetTable.tooFull;rw[g3.fill,sz1];rw[gw] at hw1;exact Zq (by lia)
   ·rw[gw] at hw2;rw[<- szK];lia
   ·have hi:i<order.size:=by
     have:=(ZO.mp he).1;rw[qm5 ev] at this;exact this
    rw[qB5 ev (ZQ hi)] at he;exact mem1 hs2 _ e he
   ·obtain⟨i,e,b',x1,x2,x3⟩:=cov1 hs2 ks' hks';obtain⟨i',hi'⟩:=cv3 i (ZO.mp x1).1;exact⟨i',e,b',by rw[qB5 ev hi'];exact x1,x2,x3⟩
 cases jS:t1.plain with
 |false=>
  simp only[Zy,Z8];refine Za (Zg ?_);simp only[Xs];exact tail t1 G1 hmk1
 |true=>
  simp only[Xs];obtain⟨ob,items,nn,kM,kE,wH,_⟩:=id hk;refine Za (qM6 kM kE wH (hHb _ _ _ kM wH) λc=>?_);cases c with
  |true=>
   simp only[Xs];exact tail t1 G1 hmk1
  |false=>
   simp only[Zy,Z8];exact tail { t1 with plain:=false } (G1.plain false) hmk1
theorem SetD.at {h h':Heap}{a:Addr}{Ks:List (List K)}(S:SetD knd h a Ks) (k:∀b o,h.get? b=some o->h'.get? b=some o\/b≠a/\¬∃ks,IsTupleKey knd h ks b):SetD knd h' a Ks:=by
 obtain⟨o,es,ep,t,ho,wE,hd,G,hf,vI,hn,wC,kG,hcv⟩:=S.ex;have kp:∀ks b,IsTupleKey knd h ks b->IsTupleKey knd h' ks b:=λks b e3=>by
  obtain⟨o',items,n',ho',r⟩:=id e3;rcases k b o' ho' with z|z
  ·exact⟨o',items,n',z,r⟩
  ·exact absurd ⟨ks,e3⟩ z.2
 refine⟨o,es,ep,t,?_,wE,hd,G,hf,vI,hn,wC,λi e he=>?_,λks hks=>?_⟩
 ·rcases k a o ho with z|z
  ·exact z
  ·exact absurd rfl z.1
 ·obtain⟨b,ks,e1,e2,e3,e4⟩:=kG i e he;exact⟨b,ks,e1,e2,kp _ _ e3,e4⟩
 ·obtain⟨i,e,b,x1,x2,x3⟩:=hcv ks hks;exact⟨i,e,b,x1,x2,kp _ _ x3⟩
end
section
variable {prog:Program}{w:World}{K:Type}[DecidableEq K]{knd:KeyKind prog w K}
variable {A:Around}{R:Result->Shared->Prop}{I:Addr}{fp wr:List Addr}{G:Array GenState->Array GenState->Prop}{n:Nat}{P:Nat->Value->Prop}{St:Nat->Shared->Prop}
def seen (val:Nat->List K):Nat->List (List K)
 |0=>[]
 |i+1=>if val i∈seen val i then seen val i else val i::seen val i
theorem seen_length (val:Nat->List K):∀i,(seen val i).length<=i
 |0=>Zd _
 |i+1=>by
  have:=seen_length val i;unfold seen;split
  ·lia
  ·rw[ZJ];lia
theorem xf4 (val:Nat->List K):∀i j,j<i->val j∈seen val i
 |0,j,h=>absurd h (Yk _)
 |i+1,j,h=>by
  unfold seen;by_cases e:j=i
  ·subst e;split
   ·assumption
   ·exact Zu
  ·have:=xf4 val i j (by lia);split
   ·exact this
   ·exact Zn _ this
theorem qY8 (val:Nat->List K):∀i ks,ks∈seen val i->∃j,j<i/\ks=val j
 |0,ks,h=>by cases h
 |i+1,ks,h=>by
  unfold seen at h;have up:ks∈seen val i->∃j,j<i+1/\ks=val j:=λz=>let ⟨j,a,b⟩:=qY8 val i ks z;⟨j,by lia,b⟩;split at h
  ·exact up h
  ·rcases ZB.mp h with rfl|h
   ·exact⟨i,Yy _,rfl⟩
   ·exact up h
theorem seen_full (val:Nat->List K):∀i,(seen val i).length=i<->∀a b,a<b->b<i->val a≠val b
 |0=>⟨λ_ a b _ h=>absurd h (Yk _),λ_=>rfl⟩
 |i+1=>by
  have ih:=seen_full val i;have hl:=seen_length val i;unfold seen;by_cases h:val i∈seen val i
  ·rw[Zp h];refine⟨λe=>by lia,λe=>?_⟩;obtain⟨j,hj,ej⟩:=qY8 val i _ h;exact absurd ej.symm (e j i hj (Yy _))
  ·rw[Zk h,ZJ];refine⟨λe a b vJ hb=>?_,λe=>?_⟩
   ·by_cases eb:b=i
    ·subst eb;intro z;exact h (by rw[<- z];exact xf4 val b a vJ)
    ·exact ih.mp (by lia) a b vJ (by lia)
   ·have:=ih.mpr λa b vJ hb=>e a b vJ (by lia);lia
theorem q37 (W:WalksS prog w A.in1 I fp wr G n P St) (S:Addr) (hSf:S∉fp) (val:Nat->List K) (hn:n<=1200) (hu:A.in1.units<cLine)
  (nt:∀i s,St i s->xJ9 knd wr s.heap) :
  ∀(k i:Nat) (s:Shared),n-i=k->i<=n->St i s->xu2 knd S wr P val s.heap->SetD knd s.heap S (seen val i) ->
   (∀s',Moved (S::wr) G s s'->SetD knd s'.heap S (seen val n)->R (.ok (.ret .none)) s') ->
   codeAny (model prog w) A (.builtin "set.update.loop" ⟨[.ref S,.ref I],[]⟩) R s:=by
 have hSw:S∉wr:=λz=>hSf (W.sub _ z);have up:∀b∈wr,b∈S::wr:=λb hb=>Zn _ hb;have stays:∀{i:Nat}{s s':Shared}{Ks:List (List K)},St i s->Moved wr G s s'->SetD knd s.heap S Ks->SetD knd s'.heap S Ks:=λ{i s s' Ks} st mv S0=>S0.at λb o e=>by
  by_cases hb:b∈wr
  ·exact .inr ⟨λz=>hSw (by rw[<- z];exact hb),nt i s st b hb⟩
  ·exact .inl (mv.heap b o hb e)
 intro k
 induction k with
 |zero=>
  intro i s hk hi st its hS hR;have jJ:i=n:=by lia
  subst jJ;refine Xr Wl ?_;rw[XA YD _];show wpAny _ A.in1 (pyNext (.ref I) >>= _) _ _ s;refine Za (W.done s _ _ st λs' mv=>?_);show wpAny _ A.in1 (ret Value.none) _ _ s';exact Zg (hR s' (mv.mono up) (stays st mv hS))
 |succ k ih=>
  intro i s hk hi st its hS hR;have jB:i<n:=by lia
  refine Xr Wl ?_;rw[XA YD _];show wpAny _ A.in1 (pyNext (.ref I) >>= _) _ _ s;refine Za (W.item i s _ _ jB st λv s' hP st' mv=>?_);obtain⟨b,rfl,hbS,hbw,hb⟩:=its i v hP;have hb':TupK knd s'.heap (val i) b:=hb.at λo e=>mv.heap b o hbw e;have S1:SetD knd s'.heap S (seen val i):=stays st mv hS;have ln:=seen_length val i;show wpAny _ A.in1 (holding [Value.ref b] (setAdd S (.ref b)) >>= _) _ _ s';refine Za (Yg ?_);unfold setAdd;refine Yg ?_;refine Za (wpAny_pyHash_tuple hu hb'.key ?_);refine xn3 (s:={ s' with toks:=s'.toks+((val i).length+1) }) hu S1 hb'.key hb'.hb (by lia) (λjJ=>?_) λhnew h' hsb S2=>?_
  ·have its':xu2 knd S wr P val s'.heap:=λj u hPj=>by
    obtain⟨c,rfl,h1,h2,h3⟩:=its j u hPj;exact⟨c,rfl,h1,h2,h3.at λo e=>mv.heap c o h2 e⟩
   refine Zg ⟨VF YD _,ih (i+1) _ (by lia) jB (W.frame _ s' _ _ st' (Y5 _ _) λc hc o e=>e) its' ?_ λs'' mv'' fin=>?_⟩
   ·show SetD knd s'.heap S (if val i∈seen val i then seen val i else val i::seen val i);rw[Zp jJ];exact S1
   ·exact hR s'' (Moved.trans W.gtrans ((mv.mono up).then_heap (Y5 _ _) λc o hc e=>e) mv'') fin
  ·have its':xu2 knd S wr P val h':=λj u hPj=>by
    obtain⟨c,rfl,h1,h2,h3⟩:=its j u hPj;exact⟨c,rfl,h1,h2,(h3.at λo e=>mv.heap c o h2 e).at λo e=>(hsb.2 c h1).trans e⟩
   refine Zg ⟨VF YD _,ih (i+1) _ (by lia) jB (W.frame _ s' _ _ st' (Y5 _ _) λc hc o e=>?_) its' ?_ λs'' mv'' fin=>?_⟩
   ·rw[hsb.2 c (λz:c=S=>hSf (by rw[<- z];exact hc))];exact e
   ·show SetD knd h' S (if val i∈seen val i then seen val i else val i::seen val i);rw[Zk hnew];exact S2
   ·refine hR s'' (Moved.trans W.gtrans ((mv.mono up).then_heap (Y5 _ _) λc o hc e=>?_) mv'') fin;rw[hsb.2 c (λz:c=S=>hc (by rw[z];exact Zu))];exact e
end
section
variable {prog:Program}{w:World}{K:Type}[DecidableEq K]{knd:KeyKind prog w K}{A:Around}{E:Value->Shared->Prop}{s:Shared}
theorem q38 {h:Heap}{a:Addr}{led:Bool}(e:h.get? a=some (newS led)):SetD knd h a []:=
 ⟨_,#[],0,.fresh 0 0 led,e,⟨rfl,rfl,rfl⟩,rfl,⟨⟨(by rw[Yv];rfl),rfl,⟨3,rfl,by decide⟩,(by rw[Yv];exact ZE _)⟩,λi j hi=>absurd hi (Yk _),λi j x h=>by have:(#[]:Array Nat)[i]?=some j:=h;simp at this⟩,by rfl,(by show 7<=8*0+8;decide),rfl,Vq,λi e he=>by simp at he,λks h=>nomatch h⟩
theorem call_set_tuple2 {l:Addr}{items:Array Value}{val:Nat->List K}{Q:Value->Shared->Prop}(hh:A.handled=none) (hu:A.units+8<cLine) (hl:s.heap.IsTuple l items)
  (hi:∀(i:Nat) (v:Value),items[i]?=some v->∃b,v=.ref b/\TupK knd s.heap (val i) b) (hb:items.size<=1200)
  (h:∀(h':Heap) (tk:Nat),SetD knd h' s.heap.objs.size (seen val items.size)->(∀b o,b<s.heap.objs.size->s.heap.get? b=some o->h'.get? b=some o)->Q (.ref s.heap.objs.size) { s with heap:=h',toks:=tk }) :
  wpAny (model prog w) A (call (.type "set") [.ref l]) Q E s:=by
 obtain⟨c,tl,hmro⟩:=F.called_set.mro;have made0:=F.called_set.made;have sub0:=F.called_set.sub;refine wpAny_call (codeAny_of_tree ?_);show wpAny _ _ (callAny (.type "set") _) _ _ _;refine Zg ⟨Code.quiet_builtin _ (by decide +kernel),Xr F.entry_type_call ?_⟩;rw[Around.under_plain (weight_type_call_type "set" [.ref l] []) rfl];have f1:=F.called_set.notType;have f2:=F.called_set.canCreate;have f3:=F.typeCall_set_1 (.ref l)
 repeat (any_goals first|assumption|wp_step)
 refine WF (code_set_new_1 (.ref l) (E:=E) (Q₁:=λobj s₁=>∃led:Bool,obj=.ref s.heap.objs.size/\s₁={ s with heap:=s.heap.push (newS led) }) λled=>⟨led,rfl,rfl⟩) λr s₁ hr=>?_;cases r with
 |error e=>exact hr
 |ok fl=>
  cases fl with
  |ret obj=>
   obtain⟨led,rfl,rfl⟩:=hr;have hS:(s.heap.push (newS led)).get? s.heap.objs.size=some (newS led):=Zo _ rfl;have hT:Shared.TypeIs { s with heap:=s.heap.push (newS led) } (.ref s.heap.objs.size) "set":=⟨_,hS,rfl⟩;have i1:=F.called_set.init.lookup;have i2:=F.called_set.init.bind (.ref s.heap.objs.size)
   repeat (any_goals first|assumption|wp_step)
   refine WF (W3 (R:=wants (λr s₂=>r=.none/\∃h' tk,s₂={ s with heap:=h',toks:=tk }/\SetD knd h' s.heap.objs.size (seen val items.size) /\
     (∀b o,b<s.heap.objs.size->s.heap.get? b=some o->h'.get? b=some o)) E) F.called_set.init.plain F.entry_set_init (check_set_init_1 hT ?_)) λr₂ s₂ hr₂=>?_
   ·obtain⟨ol,hol,kP,nl,hdl⟩:=id hl;obtain⟨ocls,odict,odata,oslots⟩:=ol;simp only at kP hdl;subst kP;subst hdl;have hol':(s.heap.push (newS led)).get? l=some { cls:=.type "tuple",dict:=odict,data:=.seq items nl,slots:=oslots }:=Zf _ hol;have st1:=F.sub_tuple_set;have st2:=F.sub_tuple_frozenset;have ned:(Value.type "tuple" == Value.type "dict")=false:=by decide
    have hl1:(s.heap.push (newS led)).IsTuple l items:=⟨_,hol',rfl,nl,rfl⟩;unfold Builtin.«set.__init__» noKeywords Builtin.Frozenset.updateFrom;generalize hPI:pyIter=PI
    wp_walk
    subst hPI;refine XQ hl1 ?_;refine Za (wpAny_runValue ?_);have hlS:l<s.heap.objs.size:=Zs hol;have hsz:(s.heap.push (newS led)).objs.size=s.heap.objs.size+1:=YG _ _;have hneI:l≠(s.heap.push (newS led)).objs.size:=by rw[hsz];exact ZA (Yl hlS)
    have hSf:s.heap.objs.size∉[(s.heap.push (newS led)).objs.size,l]:=by
     rw[hsz];simp only[ZB,VJ,or_false,not_or];exact⟨ZA (Yy _),Vi hlS⟩
    refine q37 (knd:=knd) ((Walks.tuple (by simp[hh]) _ l hneI items).toS) s.heap.objs.size hSf val hb (by show A.units+1+1+1<cLine;lia) (λi s' st b hbw=>?_) (items.size-0) 0 _ (by lia) (ZE _)
     ⟨⟨_,Zo _ rfl,rfl,rfl⟩,hl1.push _⟩ (λi v hv=>?_) (q38 (Zf _ hS)) λs' mv fin=>?_
    ·rintro⟨ks,o',its',n',e1,e2,e3,_⟩;have:b=(s.heap.push (newS led)).objs.size:=by simpa using hbw
     subst this;obtain⟨oi,x1,x2,x3⟩:=st.1;rw[x1] at e1;cases e1;rw[x2] at e2;injection e2 with e2
     exact absurd e2 (by decide)
    ·obtain⟨b,rfl,hb'⟩:=hi i v hv;have jB:b<s.heap.objs.size:=by obtain⟨o',_,_,e1,_⟩:=hb';exact Zs e1
     refine⟨b,rfl,ZA jB,(by rw[hsz];simp only[ZB,VJ,or_false];exact ZA (Yl jB)),hb'.at λo e=>Zf _ (Zf _ e)⟩
    ·obtain⟨h',g',d',tk',os'⟩:=s';have eg:g'=s.gens:=mv.gens;have ed:d'=s.drawn:=mv.drawn;have eo:os'=s.os:=mv.os;subst eg;subst ed;subst eo;show wpAny _ _ _ _ _ _;refine Zg ?_;show wpAny _ _ (ret Value.none) _ _ _;refine Zg ⟨rfl,h',tk',rfl,fin,λb o jB e=>?_⟩;exact mv.heap b o (by rw[hsz];simp only[ZB,VJ,or_false,not_or];exact⟨ZA jB,ZA (Yl jB)⟩) (Zf _ (Zf _ e))
   ·cases r₂ with
    |error e=>exact hr₂
    |ok fl₂=>
     cases fl₂ with
     |ret r=>
      obtain⟨rfl,h',tk,rfl,fin,kp⟩:=hr₂
      repeat (any_goals first|assumption|wp_step)
      exact h _ _ fin kp
     |_=>exact hr₂.elim
  |_=>exact hr.elim
end
end SetT
namespace L2
open PySem PySem.Spec PyProof.Rows
section
variable {X:Cx}
theorem q39 (hc:X.calm=true){k:Nat}(hr:Room k X.A):qh1 X (.type "set") (λxs H Q=>∃(p:Addr) (bs:List Addr) (rows:List (List Key)),xs=[.ref p]/\H p=some (.tup (bs.map V.ref))/\bs.length=rows.length /\
  (∀(i:Nat) b ks,bs[i]?=some b->rows[i]?=some ks->H b=some (.tup (ks.map kV)))/\rows.length<=1200/\∀r n,H r=none->n<=rows.length->(n=rows.length<->rows.Nodup)->Q (.ref r) (upd H r (.ext (SetN r n)))):=by
 intro j8 s σ H xs us Q I rv h;obtain⟨p,bs,rows,rfl,hp,j9,jA,hsz,q⟩:=h;obtain⟨u,rfl,ru⟩:=qj8 rv;cases ru;obtain⟨_,its,r2,isT⟩:=I.hok p _ hp;have jW:its.length=bs.length:=by have:=r2.length;simpa using this.symm
 have un:=hr.units;have item:∀(i:Nat) (v:Value),its[i]?=some v->∃b,bs[i]?=some b/\v=.ref b:=λi v hv=>by
  have hi:i<bs.length:=by rw[<- jW];exact (gS_ hv).1
  obtain⟨w',e1,e2⟩:=r2.get (i:=i) (x:=V.ref bs[i]) (by simp[hi]);rw[hv] at e1;cases e1;exact⟨bs[i],by simp[hi],e2⟩
 refine SetT.call_set_tuple2 (knd:=qc6 X.prog X.w) (items:=its.toArray) (val:=λi=>rows.getD i []) (I.ok.hd hc) (by lia) (show s.heap.IsTuple p its.toArray from isT) (λi v hv=>?_) (by rw[ZF,jW,j9];exact hsz) λh' tk fin kp=>?_
 ·obtain⟨b,hb,rfl⟩:=item i v (by simpa using hv);have hi:i<rows.length:=by rw[<- j9];exact (gS_ hb).1
  have e:rows.getD i []=rows[i]:=by simp[List.getD,hi]
  show ∃b',Value.ref b=.ref b'/\SetT.TupK _ s.heap (rows.getD i []) b';rw[e];exact⟨b,rfl,xu4 I.hok (jA i b rows[i] hb (by simp[hi]))⟩
 ·obtain⟨o,es,ep,t,ho,wE,hd,G,hf,_,hn,_⟩:=fin.ex;have g:SetT.Grown t es.size:=by have:=G.gr;rw[Yv] at this;exact this
  have hz:its.toArray.size=rows.length:=by rw[ZF,jW,j9]
  rw[hz] at hn;refine⟨.ref s.heap.objs.size,_,I.laid (a:=s.heap.objs.size) (o:=.ext (SetN s.heap.objs.size (SetT.seen (λi=>rows.getD i []) rows.length).length)) (t':=tk) (λb o e=>kp b o (Zs e) e) (Zd _) ⟨⟨o,es,ep,t,ho,wE,hd,g.fits,hn⟩,⟨o,ho⟩,λh1 h2 φ k=>?_⟩,rfl,q _ _ (I.hok.fresh (Zd _)) (SetT.seen_length _ _) ((SetT.seen_full _ _).trans ?_)⟩
  ·obtain⟨o',es',ep',t',ho',r⟩:=φ;exact⟨o',es',ep',t',k o' ho',r⟩
  ·constructor
   ·intro h;rw[List.nodup_iff_pairwise_ne,YX];intro i j hi hj jT z;refine h i j jT hj ?_;show rows.getD i []=rows.getD j [];simp[List.getD,hi,hj,z]
   ·intro h i j jT hj z;have hi:i<rows.length:=by lia
    have z':rows.getD i []=rows.getD j []:=z;have e1:rows.getD i []=rows[i]:=by simp[List.getD,hi]
    have e2:rows.getD j []=rows[j]:=by simp[List.getD,hj]
    rw[e1,e2] at z';have:=(List.getElem_inj h).mp z';lia
end
end L2
namespace Pr
open PySem L2 Qf
theorem keys_nodup_iff {rows:List Row}:(rows.map keyN).Nodup<->rows.Nodup:=by
 refine⟨λh=>?_,qE6⟩;rw[nd_iff] at h ⊢;intro i j jT hj z;refine h i j jT (by rw[Ze];exact hj) ?_;rw[Zb,Zb,z]
section
variable {P:Program}{w:World}{K:PySem.W.Frag}{mg:Str->Option Value}{base:Heap}
def qF3:Sp:=λvs H Q _=>∃(t:Addr) (n tp:Nat) (rows:List Row),vs=[.ref t]/\TellAt H t n tp rows/\n<=12/\qb2 rows/\rows.length<=900/\tp<rows.length+2/\∀H',Same H H'->Q (.bl (decide (dp rows tp<=n))) H'
theorem qT4 {f fS fR fN fD:Addr}{fd fdS fdR fdN fdD:FuncData}(F:Fun K "is_telling" "is_telling" qo0 f fd) (B:Blt mg)
  (hS:mg "is_size" = some (.ref fS)) (FS:Fun K "is_size" "is_size" xb4 fS fdS) (bS:Binds K fdS ["thing"] []) (GS:FnOk P w K mg base CX0 2 fS fdS ["thing"] xb9)
  (hR:mg "are_rows" = some (.ref fR)) (FR:Fun K "are_rows" "are_rows" q30 fR fdR) (bR:Binds K fdR ["thing"] []) (GR:FnOk P w K mg base CX0 4 fR fdR ["thing"] xc5)
  (hN:mg "is_number" = some (.ref fN)) (FN:Fun K "is_number" "is_number" qu7 fN fdN) (bN:Binds K fdN ["thing", "many"] []) (GN:FnOk P w K mg base CX0 2 fN fdN ["thing", "many"] qx1)
  (hD:mg "depths_of" = some (.ref fD)) (FD:Fun K "depths_of" "depths_of" q29 fD fdD) (bD:Binds K fdD ["rows"] []):FnOk P w K mg base CX0 5 f fd ["thing"] qF3:=by
 have GD:FnOk P w K mg base CX0 1 fD fdD ["rows"] xc2:=xc3 FD B;refine F.ok scTelling (λvs H Q E h=>?_) (λcdv A outer s H vs Q E hr h=>?_)
 ·obtain⟨t,n,tp,rows,rfl,_⟩:=h
  rfl
 ·obtain⟨t,n,tp,rows,rfl,⟨p,ht,jN⟩,hn,ok,hl,jO,q⟩:=h;have jF:Room 1 _:=hr.mono (by decide);have kH:Room 2 _:=hr.mono (by decide);refine⟨_,qb9 (qf1 (qk1 (qg9 (qe6 (qa7 qj4 (by rfl) B.isi Z1 (qa0 (pv 0) (qa0 (qm1 (v:=.ty "tuple") (by rfl) B.tuple ZG rfl) qa2)))))
    (qi8 (qc0 q58 (qa7 qa9 (by rfl) B.len ZM (qa0 (pv 0) qa2)) qa6 (qb7 _)))).pt (qa8 (qb0 qo7)) qb6)
   (qb9 (qo9 (pv 0) (qo8 rfl (qc3 (pgN 1 scTelling.nd) (qc3 (pgN 2 scTelling.nd) (qc3 (pgN 3 scTelling.nd) qj7)))))
   (qb9 (qf1 (qk1 (qg9 (qe6 (pcN GS kH hS FS.kp bS (qa0 (pv 1) qa2))))
    (qk1 (qg9 (qe6 (pcN GR hr hR FR.kp bR (qa0 (pv 3) qa2))))
    (qi8 (qg9 (qe6 (pcN GN kH hN FN.kp bN (qa0 (pv 2) (qa0 (qa7 qa9 (by rfl) B.len ZM (qa0 (pv 3) qa2)) qa2)))))))).pt (qa8 (qb0 qo7)) qb6)
   (qa8 (qb0 (qg3 qC5 (pxN qd7 (pcN GD jF hD FD.kp bD (qa0 (pv 3) qa2)) (pv 2)) (pv 1) (qb7 _)))))),?_⟩
  refine⟨_,rfl,_,_,_,_,true,rfl,rfl,.inl (.tup ht),rfl,_,rfl,iteF ⟨_,rfl,t,_,rfl,.inr (SqT.of ht),rfl,_,rfl,iteF ?_⟩⟩;refine⟨_,rfl,t,_,rfl,SqT.of ht,rfl,_,_,rfl,_,_,rfl,_,_,rfl,rfl,?_⟩;refine⟨_,rfl,n,rfl,hn,_,rfl,iteF ⟨_,rfl,p,rows,rfl,jN,ok,hl,λH2 s2=>⟨_,rfl,iteF ?_⟩⟩⟩;obtain⟨bs,hp,j9,jA⟩:=id jN;refine⟨_,rfl,_,rfl,p,_,rfl,.inr (SqT.of (s2 _ _ hp)),tp,rows.length,by rw[Ze,j9];rfl,jO,_,rfl,iteF ?_⟩;refine⟨_,rfl,p,rows,rfl,jN.same s2,ok,hl,λH3 D s3 k6=>?_⟩;refine⟨_,rfl,D,_,(tp:Int),.int (dp rows tp:Nat),rfl,rfl,SqL.of k6,qs3 (qO5 jO),_,rfl,_,_,rfl,rfl,?_⟩;show Q (V.bl (decide ((dp rows tp:Int)<=(n:Int)))) H3;have e:decide ((dp rows tp:Int)<=(n:Int))=decide (dp rows tp<=n):=by
   by_cases z:dp rows tp<=n
   ·rw[Zl z,Zl (by lia)]
   ·rw[Zq z,Zq (by lia)]
  rw[e];exact q H3 (s2.trans s3)
def qY9:Sp:=λvs H Q _=>∃(t:Addr) (n tp:Nat) (rows:List Row),vs=[.ref t]/\TellAt H t n tp rows/\n<=12/\qb2 rows/\rows.length<=900/\tp<rows.length+2/\∀(b:Bool) H',(b=true<->Canon n tp rows)->Same H H'->Q (.bl b) H'
theorem xf5 {f fT fP fA:Addr}{fd fdT fdP fdA:FuncData}(F:Fun K "is_shape" "is_shape" qO2 f fd) (B:Blt mg) (T:Cst mg)
  (hT:mg "is_telling" = some (.ref fT)) (FT:Fun K "is_telling" "is_telling" qo0 fT fdT) (bT:Binds K fdT ["thing"] []) (GT:FnOk P w K mg base CX0 5 fT fdT ["thing"] qF3)
  (hP:mg "is_plain" = some (.ref fP)) (FP:Fun K "is_plain" "is_plain" qA1 fP fdP) (bP:Binds K fdP ["row"] [])
  (hA:mg "places_as_ended" = some (.ref fA)) (FA:Fun K "places_as_ended" "places_as_ended" qA2 fA fdA) (bA:Binds K fdA ["rows", "top"] []) (GA:∀d,FnOk P w K mg base CX0 (d+2) fA fdA ["rows", "top"] (qx2 d)):FnOk P w K mg base CX0 15 f fd ["thing"] qY9:=by
 have GP:FnOk P w K mg base CX0 2 fP fdP ["row"] qI7:=qI9 FP T;refine F.ok scShape (λvs H Q E h=>?_) (λcdv A outer s H vs Q E hr h=>?_)
 ·obtain⟨t,n,tp,rows,rfl,_⟩:=h
  rfl
 ·obtain⟨t,n,tp,rows,rfl,hTell,hn,ok,hl,jO,q⟩:=h;obtain⟨p,ht,jN⟩:=id hTell;obtain⟨bs,hp,j9,jA⟩:=id jN;have kH:Room 2 _:=hr.mono (by decide);have hr5:Room 5 _:=hr.mono (by decide);have hrA:Room (n+2) _:=hr.mono (by lia);refine⟨_,qb9 (qf1 (qg9 (qe6 (pcN GT hr5 hT FT.kp bT (qa0 (pv 0) qa2)))) (qa8 (qb0 qo7)) qb6)
   (qb9 (qo9 (qq9 qU5 (pv 0) (qy6 qa6) qy5) (qo8 rfl (qc3 (pgN 1 scShape.nd) (qc3 (pgN 2 scShape.nd) qj7))))
   (qb9 (qf1 (PW.pt (qk1 (qe6 (qa7 (qN5 rfl) (by rfl) B.any PyProof.Rows.boot_any (qa0 (qe9 ["thing", "top", "rows"] (qa4 qO2) rfl rfl rfl scShape.nd (piT K rfl (pv 2)) (λcl C fp s₀ H₀=>pcN GP kH hP FP.kp bP (qa0 (pv 0) qa2))) qa2)))
    (qi8 (qc0 qu1 (qa7 qR9 (by rfl) B.len ZM (qa0 (qb4 (q39 rfl hr) (by rfl) B.set PyProof.Rows.boot_set (qa0 (pv 2) qa2)) qa2)) (qa7 qa9 (by rfl) B.len ZM (qa0 (pv 2) qa2)) (qb7 _))))) (qa8 (qb0 qo7)) qb6)
   (qa8 (qb0 (qg3 (qV2 hr) (pcN (GA n) hrA hA FA.kp bA (qa0 (pv 2) (qa0 (pv 1) qa2)))
    (qb4 (qE0 rfl) (by rfl) B.list Xh (qa0 (qb4 qw0 (by rfl) B.range WC (qa0 (qa7 qa9 (by rfl) B.len ZM (qa0 (pv 2) qa2)) qa2)) qa2)) (qb7 _)))))),?_⟩
  refine⟨_,rfl,t,n,tp,rows,rfl,hTell,hn,ok,hl,jO,λH1 s1=>?_⟩;have no:∀{H'},¬Canon n tp rows->Same H H'->Q (.bl false) H':=λ{H'} nc s'=>q false H' ⟨λz=>(by cases z),λz=>(nc z).elim⟩ s';by_cases hd:dp rows tp<=n
  rotate_left
  ·rw[Zq hd];exact⟨_,rfl,iteT (no (λc=>hd c.deep) s1)⟩
  rw[Zl hd];refine⟨_,rfl,iteF ?_⟩;have ht1:=s1 _ _ ht;refine⟨_,rfl,_,rfl,t,_,rfl,SqT.of ht1,(λz=>absurd (show HT.sIx 3 0 (some 1)=0 from z.1) (by decide)),λu hu=>?_⟩;refine⟨u,_,rfl,SqT.of qa1,rfl,_,_,rfl,_,_,rfl,rfl,?_⟩;have sA:Same H (upd H1 u (.tup [.int (tp:Nat),.ref p])):=s1.trans (qb1 hu);refine (λ(go:∀H2,Same H H2->_)=>go _ sA) ?_;intro H2 s2;have k9:=s2 _ _ hp;have jI:(bs.map V.ref).length=rows.length:=by rw[Ze];exact j9
  refine⟨_,rfl,p,rfl,⟨_,SqT.of k9⟩,λD hD=>qe1 hD (λj z _=>∀r,rows[j]?=some r->z=.bl (decide (qg8 r))) (qh4 (K:=K) k9) (by rw[jI];exact qm2 (by lia)) (λ_ _ _ _ _ _ h=>h) ?_ ?_⟩
  ·intro j x H3 hj hx s3 Q' hq;have wD:j<rows.length:=by rw[<- jI];exact hj
   rw[Zb] at hx;obtain⟨b,hb,rfl⟩:=Zj.mp hx;have jF:rows[j]?=some rows[j]:=by simp[wD]
   refine⟨_,rfl,b,rows[j],rfl,s3 _ _ (s2 _ _ (jA j b _ hb jF)),(ok j _ jF).1,λH4 s4=>hq _ _ s4 λr hr'=>?_⟩;rw[jF] at hr';cases hr'
   rfl
  ·intro ys H3 s3 k6 jK jM;have e:ys=(rows.map λr=>decide (qg8 r)).map V.bl:=by
    refine qh5 (by rw[jK,jI];simp) λi x hx=>?_;have hi:=(gS_ hx).1;rw[jK,jI] at hi;have jF:rows[i]?=some rows[i]:=by simp[hi]
    rw[jM i x hx _ jF];simp[hi]
   have s23:Same H H3:=s2.trans s3;refine⟨D,rows.map λr=>decide (qg8 r),rfl,by rw[<- e];exact k6,_,rfl,?_⟩;by_cases jS:∃r∈rows,qg8 r
   ·have na:(rows.map λr=>decide (qg8 r)).any id=true:=by
     obtain⟨r,h1,h2⟩:=jS;rw[XO];exact⟨_,ZR.mpr ⟨r,h1,rfl⟩,Zl h2⟩
    rw[na];obtain⟨r,h1,h2⟩:=jS;exact iteT (no (λc=>c.unplain r h1 h2) s23)
   have hpl':∀r∈rows,¬qg8 r:=λr h1 h2=>jS ⟨r,h1,h2⟩;have na:(rows.map λr=>decide (qg8 r)).any id=false:=by
    rw[WD];intro x hx;obtain⟨r,h1,rfl⟩:=ZR.mp hx;rw[Zq (hpl' r h1)];decide
   rw[na];refine iteF ?_;have wN:=s23 _ _ hp;refine⟨_,rfl,p,bs,rows.map keyN,rfl,wN,by rw[Ze];exact j9,λi b ks e1 e2=>?_,by rw[Ze];lia,λr m hr' hm1 vP=>?_⟩
   ·rw[Zb] at e2;obtain⟨r0,hr0,rfl⟩:=Zj.mp e2;rw[qs4];exact s23 _ _ (jA i b r0 e1 hr0)
   ·rw[Ze] at hm1 vP;have s4:Same H (upd H3 r (.ext (SetN r m))):=s23.trans (qb1 hr');have hp4:=s4 _ _ hp;refine⟨r,_,rfl,qa1,by lia,_,rfl,p,_,rfl,.inr (SqT.of hp4),_,_,rfl,rfl,_,rfl,?_⟩;by_cases wC:rows.Nodup
    rotate_left
    ·have nl:decide ((m:Int)<((bs.map V.ref).length:Int))=true:=Zl (by
      have:m≠rows.length:=λz=>wC (keys_nodup_iff.mp (vP.mp z));rw[jI];lia)
     rw[nl];exact iteT (no (λc=>wC c.unlike) s4)
    have nl:decide ((m:Int)<((bs.map V.ref).length:Int))=false:=Zq (by
     have:=vP.mpr (qE6 wC);rw[jI];lia)
    rw[nl];refine iteF ?_;refine (λ(go:∀H5,Same H H5->_)=>go _ s4) ?_;intro H5 s5;refine⟨_,rfl,_,rfl,p,tp,rows,rfl,(jN.same s5).s,ok,by lia,jO,hd,λH6 D6 s6 kO=>?_⟩;have vM:=s6 _ _ (s5 _ _ hp);refine⟨_,rfl,p,_,rfl,.inr (SqT.of vM),_,rfl,λg hg=>⟨g,rows.length,rfl,by rw[qa1,jI],by lia,λl hl'=>?_⟩⟩;have w5:=qc2 (u:=.lst ((List.range rows.length).map λ(i:Nat)=>V.int (i:Int))) (qc2 (u:=.rng 0 ((bs.map V.ref).length:Int)) kO hg) hl';rw[qw1] at w5;have e9:((List.range rows.length).map λ(i:Nat)=>V.int (i:Int))=((List.range rows.length).map λn:Nat=>(n:Int)).map V.int:=qw1 _;refine⟨dL ((dfs rows n [] tp).map λn:Nat=>(n:Int)),dL ((List.range rows.length).map λn:Nat=>(n:Int)),.lst w5 (DatasAt.ints _),.lst qa1 (e9▸DatasAt.ints _),qV4 _,qV4 _,?_,?_⟩
    ·exact ZL (qX6 _) (by decide)
    ·rw[q88];refine q _ _ ⟨λz=>⟨hn,ok,jO,hd,hpl',wC,qI8 (ZI z)⟩,λc=>Zl (by rw[c.ends])⟩ (s5.trans (s6.trans ((qb1 hg).trans (qb1 hl'))))
end
end Pr
namespace Qf
open Tr
def rd:Tr->Tr
 |.z=>.z
 |.o=>.o
 |.nd a b c d=>mkT (rd a) (rd b) (rd c) (rd d)
def TR (rows:List Row) (x:Nat):Tr:=rd (T rows x)
theorem qB8 (rows:List Row):TR rows 0=.z:=by unfold TR;rw[qj3];rfl
theorem qP7 (rows:List Row):TR rows 1=.o:=by unfold TR;rw[qq1];rfl
theorem qw5 {rows:List Row}(ok:qb2 rows){p a b c e:Nat}(hp:rows[p]?=some [a,b,c,e]):TR rows (p+2)=mkT (TR rows a) (TR rows b) (TR rows c) (TR rows e):=by
 unfold TR;rw[qs8 ok hp];rfl
theorem qp2:∀t:Tr,Red (rd t)
 |.z=>trivial
 |.o=>trivial
 |.nd a b c d=>xx7 (qp2 a) (qp2 b) (qp2 c) (qp2 d)
theorem qP8:∀{t:Tr},Red t->rd t=t
 |.z,_=>rfl
 |.o,_=>rfl
 |.nd a b c d,h=>by
  show mkT (rd a) (rd b) (rd c) (rd d)=_;rw[qP8 h.2.2.1,qP8 h.2.2.2.1,qP8 h.2.2.2.2.1,qP8 h.2.2.2.2.2];exact xq9 h.1 h.2.1
theorem qP9:∀(k:Nat) (t:Tr),dep t<=k->dep (rd t)<=k
 |k,.z,_=>ZE _
 |k,.o,_=>ZE _
 |0,.nd a b c d,h=>by
  rcases dep0 h with e|e<;>cases e
 |k+1,.nd a b c d,h=>by
  obtain⟨h1,h2,h3,h4⟩:=xx6 h;exact xx8 (qP9 k a h1) (qP9 k b h2) (qP9 k c h3) (qP9 k d h4)
theorem xF5 {rows:List Row}(ok:qb2 rows):∀(k x:Nat),x<rows.length+2->dp rows x<=k->dep (T rows x)<=k:=by
 intro k
 induction k with
 |zero=>
  intro x hx h;have:=qw2 ok hx h
  match x,this with
  |0,_=>rw[qj3];exact Zd 0
  |1,_=>rw[qq1];exact Zd 0
 |succ k ih=>
  intro x hx h;by_cases c:x<2
  ·match x,c with
   |0,_=>rw[qj3];exact ZE _
   |1,_=>rw[qq1];exact ZE _
  ·obtain⟨p,a,b,c',d,rfl,hp⟩:=qp0 ok hx c;obtain⟨l1,l2,l3,l4⟩:=xF1 ok hp;obtain⟨h1,h2,h3,h4⟩:=xe6 ok hp h;rw[qs8 ok hp];exact xr0 (ih a l1 h1) (ih b l2 h2) (ih c' l3 h3) (ih d l4 h4)
theorem qZ0 {rows:List Row}(ok:qb2 rows){k x:Nat}(hx:x<rows.length+2) (h:dp rows x<=k):dep (TR rows x)<=k:=qP9 k _ (xF5 ok k x hx h)
theorem qB9:∀(k:Nat) (t:Tr) (r c:Nat),dep t<=k->qi4 k (rd t) r c=qi4 k t r c
 |k,.z,r,c,_=>rfl
 |k,.o,r,c,_=>rfl
 |0,.nd a b c d,_,_,h=>by rcases dep0 h with e|e<;>cases e
 |k+1,.nd a b c' d,r,c,h=>by
  have hi:2*(r/2^k%2)+c/2^k%2<4:=by lia
  show qi4 k (qr _ (mkT (rd a) (rd b) (rd c') (rd d))) r c=qi4 k (qr _ (.nd a b c' d)) r c;rw[xr2 hi];have hd:=xr1 hi (.nd a b c' d) h;generalize 2*(r/2^k%2)+c/2^k%2=i at hi hd
  match i,hi with
  |0,_=>exact qB9 k a r c hd
  |1,_=>exact qB9 k b r c hd
  |2,_=>exact qB9 k c' r c hd
  |3,_=>exact qB9 k d r c hd
def cTop (t:Tr):Nat:=name (post t []) t
def qn5 (t:Tr):List Row:=rowsOf (post t [])
theorem xf6 {n:Nat}(hn:n<=12){t:Tr}(hr:Red t) (hd:dep t<=n):Canon n (cTop t) (qn5 t):=qF0 hn hr hd
theorem c_T (t:Tr):T (qn5 t) (cTop t)=t:=by
 obtain⟨h1,h2⟩:=post_ord t [] ord_nil;exact qw3 h1 t h2
theorem qT5 {n top:Nat}{rows:List Row}(c:Canon n top rows):top=cTop (TR rows top)/\rows=qn5 (TR rows top):=by
 have e:TR rows top=T rows top:=qP8 (xe5 c);rw[e];obtain⟨h1,h2⟩:=q32 c;exact⟨h2,h1⟩
theorem xy1 {k nb:Nat}{rows:List Row}(ok:qb2 rows) (hk:k<rows.length) (hb:nb<k+2) (hu:∀r∈rows,∀y∈r,y=k+2->TR rows nb=TR rows (k+2)) :
  ∀x,x<rows.length+2->(x=k+2->TR rows nb=TR rows (k+2))->TR (qc5 k nb rows) (ren k nb x)=TR rows x:=by
 intro x
 induction x using Nat.strongRecOn with
 |ind x ih=>
  intro hx hP;by_cases c0:x<2
  ·rw[qB2 (by lia)]
   match x,c0 with
   |0,_=>rw[qB8,qB8]
   |1,_=>rw[qP7,qP7]
  ·obtain⟨p,a,b,c,d,e,hp⟩:=qp0 ok hx c0;have so:=qJ7 (nb:=nb) ok hk hb;have rk:=ok _ _ hp;have hm:=Zm hp;have body:∀i,(qc5 k nb rows)[i]?=some ([a,b,c,d].map (ren k nb))->TR (qc5 k nb rows) (i+2)=TR rows x:=λi hi=>by
    have g:∀y∈[a,b,c,d],TR (qc5 k nb rows) (ren k nb y)=TR rows y:=λy hy=>ih y (by have:=rk.2 y hy;lia) (by have:=rk.2 y hy;lia) (hu _ hm y hy);rw[qw5 so hi,e,qw5 ok hp,g a (by simp),g b (by simp),g c (by simp),g d (by simp)]
   by_cases c1:x<k+2
   ·rw[qB2 c1];have:=body (x-2) (by rw[qo5,qJ4 hk (by lia),show x-2=p by lia,hp];rfl)
    rwa [show x-2+2=x by lia] at this
   ·by_cases c2:x=k+2
    ·rw[c2,xd8];have:=ih nb (by lia) (by lia) (λz=>by lia);rw[qB2 hb] at this;rw[this];exact hP c2
    ·rw[xd9 (by lia)];have:=body (x-3) (by rw[qo5,qJ5 hk (by lia),show x-3+1=p by lia,hp];rfl)
     rwa [show x-3+2=x-1 by lia] at this
theorem xf7 {tp:Nat}{rows:List Row}(ok:qb2 rows) (jO:tp<rows.length+2){s:Stp}(h:s∈qc1 tp rows):TR (qc5 s.at (nbP rows s) rows) (ren s.at (nbP rows s) tp)=TR rows tp:=by
 have hk:=xm8 h;have hb:=(xq8 ok h).1;have m:=qJ8 h;have go:(∀y∈used tp rows,y=s.at+2->TR rows (nbP rows s)=TR rows (s.at+2))->TR (qc5 s.at (nbP rows s) rows) (ren s.at (nbP rows s) tp)=TR rows tp:=λhu=>
  xy1 ok hk hb (λr hr y hy=>hu y (Zn _ (VL.mpr ⟨r,hr,hy⟩))) tp jO (hu tp Zu)
 cases s with
 |gone k=>exact go λy hy e=>absurd (e▸hy) m.2
 |plain k=>
  refine go λ_ _ _=>?_;show TR rows ((rows.getD k []).getD 0 0)=TR rows (k+2);have hg:=qd0 m.1;rcases m.2 with e|e
  ·rw[e] at hg ⊢;show TR rows 0=_;rw[qw5 ok hg,qB8];rfl
  ·rw[e] at hg ⊢;show TR rows 1=_;rw[qw5 ok hg,qP7];rfl
 |same k j=>
  refine go λ_ _ _=>?_;obtain⟨m1,m2,m3⟩:=m;show TR rows (j+2)=TR rows (k+2);obtain⟨a,b,c,d,e⟩:=qn2 (ok k _ (qd0 m1)).1;have hg:=qd0 m1;rw[hg] at m3;rw[e] at hg m3;rw[qw5 ok hg,qw5 ok m3]
theorem xn4 {tp:Nat}{rows:List Row}(h:qc1 tp rows=[]):rows.Nodup/\(∀r∈rows,¬qg8 r)/\∀k,k<rows.length->k+2∈used tp rows:=by
 unfold qc1 at h;obtain⟨h12,h3⟩:=List.append_eq_nil_iff.mp h;obtain⟨h1,h2⟩:=List.append_eq_nil_iff.mp h12;refine⟨?_,λr hr hp=>?_,λk hk=>?_⟩
 ·refine nd_iff.mpr λi j jT hj e=>?_;unfold qh7 at h1;have:=List.flatMap_eq_nil_iff.mp h1 j (ZH.mpr hj);unfold qj6 at this;have hn:=YU.mp this;have hm:i∈ixs (rows.take j) (rows.getD j []):=by
   unfold ixs;refine ZP.mpr ⟨ZH.mpr (by simp;lia),Zl ?_⟩;rw[YH jT,e,qd0 hj]
  rw[hn] at hm;cases hm
 ·obtain⟨i,hi,e⟩:=ZK.mp hr;unfold qe2 at h2;have hn:=YU.mp h2;have hm:i∈(List.range rows.length).filter λk=>decide (qg8 (rows.getD k [])):=by
   refine ZP.mpr ⟨ZH.mpr hi,Zl ?_⟩;have eg:rows.getD i []=r:=by rw[Zx,Zc hi,e];rfl
   rw[eg];exact hp
  rw[hn] at hm;cases hm
 ·unfold qf3 at h3;have hn:=YU.mp h3;by_cases c:k+2∈used tp rows
  ·exact c
  ·have hm:k∈(List.range rows.length).filter λk=>decide (k+2∉used tp rows):=ZP.mpr ⟨ZH.mpr hk,Zl c⟩;rw[hn] at hm;cases hm
theorem xy2 {n tp:Nat}{rows:List Row}(ok:qb2 rows) (jO:tp<rows.length+2) (hd:dp rows tp<=n) (hu:∀k,k<rows.length->k+2∈used tp rows):(dfs rows n [] tp).length=rows.length:=by
 obtain⟨pe,hi⟩:=qe7 ok n [] tp (qg5 rows) jO hd;have all:∀m k,k<rows.length->rows.length-k<=m->k∈dfs rows n [] tp:=by
  intro m
  induction m with
  |zero=>intro k hk h;lia
  |succ m ih=>
   intro k hk h;rcases ZB.mp (hu k hk) with e|e
   ·rcases hi with z|z
    ·lia
    ·rw[show tp-2=k by lia] at z;exact z
   ·obtain⟨r,hr,hy⟩:=VL.mp e;obtain⟨i,hil,ei⟩:=ZK.mp hr;have hri:rows[i]?=some r:=by rw[Zc hil,ei]
    have jB:=(ok i r hri).2 _ hy;have him:=ih i hil (by lia);obtain⟨j,hj,ej⟩:=ZK.mp him;have eg:rows.getD i []=r:=by rw[Zx,hri];rfl
    rcases pe.ch j i (by rw[Zc hj,ej]) (k+2) (by rw[eg];exact hy) with z|⟨j',_,ej'⟩
    ·lia
    ·have:=Zm ej'
     rwa [show k+2-2=k by lia] at this
 refine Wt (qo2 pe) ?_;have sub:=(List.nodup_range (n:=rows.length)).length_le_of_subset (l₂:=dfs rows n [] tp) λk hk=>all _ k (ZH.mp hk) (Zd _);simpa using sub
theorem xn5 {n tp:Nat}{rows:List Row}(hn:n<=12) (ok:qb2 rows) (jO:tp<rows.length+2) (hd:dp rows tp<=n) (h:qc1 tp rows=[]) :
  nm (dfs rows n [] tp) tp=cTop (TR rows tp)/\told rows (dfs rows n [] tp)=qn5 (TR rows tp)/\rows.length=(qn5 (TR rows tp)).length:=by
 obtain⟨h1,h2,h3⟩:=xn4 h;obtain⟨cn,eT⟩:=qF1 hn ok jO hd h2 h1;have er:TR rows tp=T rows tp:=qP8 (xF2 ok h2 tp jO);obtain⟨g1,g2⟩:=qT5 cn;have e3:TR (told rows (dfs rows n [] tp)) (nm (dfs rows n [] tp) tp)=TR rows tp:=by unfold TR;rw[eT]
 rw[e3] at g1 g2;refine⟨g1,g2,?_⟩;rw[<- g2,qe8,xy2 ok jO hd h3]
theorem qZ1 {rows:List Row}:∀(d:Nat) (e:List Nat) (x:Nat),∀p∈dfs rows d e x,p∈e\/p+2=x\/p+2∈rows.flatten
 |0,e,x,p,h=>.inl h
 |d+1,e,x,p,h=>by
  unfold dfs at h;split at h
  ·exact .inl h
  ·rename_i hn;have fold:∀(l:List Nat) (e:List Nat),(∀q∈l,q∈rows.flatten)->p∈l.foldl (dfs rows d) e->p∈e\/p+2∈rows.flatten:=by
    intro l
    induction l with
    |nil=>intro e _ h;exact .inl h
    |cons q l ih=>
     intro e hl h;rcases ih (dfs rows d e q) (λy hy=>hl y (Zn _ hy)) h with z|z
     ·rcases qZ1 d e q p z with y|y|y
      ·exact .inl y
      ·exact .inr (y▸hl q Zu)
      ·exact .inr y
     ·exact .inr z
   rcases Z6.mp h with z|z
   ·rcases fold _ e (λq hq=>by
     by_cases c:x-2<rows.length
     ·have hg:rows[x-2]?=some (rows.getD (x-2) []):=Qf.qd0 c;exact VL.mpr ⟨_,Zm hg,hq⟩
     ·rw[Zx,Yb (by lia)] at hq;cases hq) z with y|y
    ·exact .inl y
    ·exact .inr (.inr y)
   ·have:p=x-2:=by simpa using z
    refine .inr (.inl ?_);have:¬x<2:=λz=>hn (.inl z);lia
theorem qK2 {n tp:Nat}{rows:List Row}(c:Canon n tp rows):qc1 tp rows=[]:=by
 refine WX.mpr λs hs=>?_;have m:=qJ8 hs;cases s with
 |gone k=>
  refine m.2 ?_;have hk:k∈dfs rows n [] tp:=by rw[c.ends];exact ZH.mpr m.1
  rcases qZ1 n [] tp k hk with z|z|z
  ·cases z
  ·unfold used;rw[z];exact Zu
  ·exact Zn _ z
 |plain k=>exact c.unplain _ (Zm (Qf.qd0 m.1)) m.2
 |same k j=>
  obtain⟨m1,m2,m3⟩:=m;exact nd_iff.mp c.unlike j k m2 m1 m3
end Qf
namespace Qf
def xK6 (n:Nat) (b:Row):Prop:=∃r c h w,b=[r,c,h,w]/\1<=h/\1<=w/\r+h<=2^n/\c+w<=2^n
def xn6 (n:Nat) (bs:List Row):Prop:=(∀b∈bs,xK6 n b)/\((n<4/\bs.length<=64)\/(bs.length<=5/\False))
theorem qT6 (k:Nat):(1:Int)*2^((k:Int)).toNat=((2^k:Nat):Int):=by
 rw[Xb,Int.one_mul];push_cast;rfl
theorem qt4 {n:Nat}(h:n<=12):2^n<=4096/\0<2^n:=⟨by
 have:=W5 (n:=2) (by decide) h;simpa using this,W6 (by decide)⟩
end Qf
namespace Pr
open PySem L2 Qf
end Pr
namespace Qf
open Tr
def qt5 (r c s:Nat) (b:Row):Bool:=decide (b.getD 0 0<r+s/\r<b.getD 0 0+b.getD 2 0/\c<b.getD 1 0+b.getD 3 0/\b.getD 1 0<c+s)
def hasB (r c s:Nat) (b:Row):Bool:=decide (b.getD 0 0<=r/\r+s<=b.getD 0 0+b.getD 2 0/\b.getD 1 0<=c/\c+s<=b.getD 1 0+b.getD 3 0)
def mk (a b c d:Tr):Tr:=if a=z/\b=z/\c=z/\d=z then z else if a=o/\b=o/\c=o/\d=o then o else .nd a b c d
def met (boxes:List Row) (r c s:Nat):List Row:=boxes.filter (qt5 r c s)
def bt:Nat->List Row->Nat->Nat->Tr
 |0,boxes,r,c=>if met boxes r c 1=[] then z else if (met boxes r c 1).any (hasB r c 1) then o else z
 |k+1,boxes,r,c=>if met boxes r c (2^(k+1))=[] then z else if (met boxes r c (2^(k+1))).any (hasB r c (2^(k+1))) then o else
   mk (bt k (met boxes r c (2^(k+1))) r c) (bt k (met boxes r c (2^(k+1))) r (c+2^k)) (bt k (met boxes r c (2^(k+1))) (r+2^k) c) (bt k (met boxes r c (2^(k+1))) (r+2^k) (c+2^k))
theorem xF6 {a b c d:Tr}(ha:Red a) (hb:Red b) (hc:Red c) (hd:Red d):Red (mk a b c d):=by
 unfold mk;split
 ·trivial
 ·split
  ·trivial
  ·exact⟨by assumption,by assumption,ha,hb,hc,hd⟩
theorem qF4:∀(k:Nat) (boxes:List Row) (r c:Nat),Red (bt k boxes r c)
 |0,boxes,r,c=>by
  unfold bt;split
  ·trivial
  ·split<;>trivial
 |k+1,boxes,r,c=>by
  unfold bt;split
  ·trivial
  ·split
   ·trivial
   ·exact xF6 (qF4 k _ _ _) (qF4 k _ _ _) (qF4 k _ _ _) (qF4 k _ _ _)
theorem xF7 {a b c d:Tr}{k:Nat}(ha:dep a<=k) (hb:dep b<=k) (hc:dep c<=k) (hd:dep d<=k):dep (mk a b c d)<=k+1:=by
 unfold mk;split
 ·show 0<=_;lia
 ·split
  ·show 0<=_;lia
  ·show 1+mx [dep a,dep b,dep c,dep d]<=k+1;have:=xk1 (l:=[dep a,dep b,dep c,dep d]) (b:=k) (by
    intro x hx;have:x=dep a\/x=dep b\/x=dep c\/x=dep d:=by simpa using hx
    rcases this with rfl|rfl|rfl|rfl<;>assumption)
   lia
theorem qQ0:∀(k:Nat) (boxes:List Row) (r c:Nat),dep (bt k boxes r c)<=k
 |0,boxes,r,c=>by
  unfold bt;split
  ·exact Zd 0
  ·split<;>exact Zd 0
 |k+1,boxes,r,c=>by
  unfold bt;split
  ·exact ZE _
  ·split
   ·exact ZE _
   ·exact xF7 (qQ0 k _ _ _) (qQ0 k _ _ _) (qQ0 k _ _ _) (qQ0 k _ _ _)
def nds:Tr->Nat
 |.nd a b c d=>1+nds a+nds b+nds c+nds d
 |_=>0
theorem qv6:∀(t:Tr) (e:List Tr),(post t e).length<=e.length+nds t
 |.z,e=>Zd _
 |.o,e=>Zd _
 |.nd a b c d,e=>by
  unfold post;split
  ·exact Y5 _ _
  ·have h1:=qv6 a e;have h2:=qv6 b (post a e);have h3:=qv6 c (post b (post a e));have h4:=qv6 d (post c (post b (post a e)));rw[Zr];show _+1<=e.length+(1+nds a+nds b+nds c+nds d);lia
theorem xF8 (a b c d:Tr):nds (mk a b c d)<=1+nds a+nds b+nds c+nds d:=by
 unfold mk;split
 ·exact ZE _
 ·split
  ·exact ZE _
  ·exact Zd _
def sz:Nat->Nat
 |0=>0
 |k+1=>4*sz k+1
theorem q40:∀(k:Nat) (boxes:List Row) (r c:Nat),nds (bt k boxes r c)<=sz k
 |0,boxes,r,c=>by
  unfold bt;split
  ·exact ZE _
  ·split<;>exact ZE _
 |k+1,boxes,r,c=>by
  unfold bt;split
  ·exact ZE _
  ·split
   ·exact ZE _
   ·refine ZL (xF8 _ _ _ _) ?_;have h1:=q40 k (met boxes r c (2^(k+1))) r c;have h2:=q40 k (met boxes r c (2^(k+1))) r (c+2^k);have h3:=q40 k (met boxes r c (2^(k+1))) (r+2^k) c;have h4:=q40 k (met boxes r c (2^(k+1))) (r+2^k) (c+2^k);show _<=4*sz k+1;lia
theorem xf8 {n:Nat}{bs:List Row}(hn:n<=12) (h:xn6 n bs):nds (bt n bs 0 0)<=485:=by
 rcases h.2 with ⟨h4,_⟩|⟨h5,hs⟩
 ·refine ZL (q40 n bs 0 0) ?_
  match n,h4 with
  |0,_|1,_|2,_|3,_=>decide
 ·exact hs.elim
theorem qZ2 {m:Row->Bool}:∀(bs:List Nat) (rs:List Row),bs.length=rs.length ->
  ((List.range bs.length).filter (λi=>m (rs.getD i []))).map (λi=>bs.getD i 0)=((bs.zip rs).filter (λq=>m q.2)).map Prod.fst
 |[],[],_=>rfl
 |b::bs,r::rs,h=>by
  have ih:=qZ2 (m:=m) bs rs (by simpa using h);rw[ZJ,List.range_succ_eq_map,Y3,Vt,Y3,List.filter_map];have e1:((λi=>m ((r::rs).getD i []))∘Nat.succ)=λi=>m (rs.getD i []):=by funext i;rfl
  have e2:((λi=>(b::bs).getD i 0)∘Nat.succ)=λi=>bs.getD i 0:=by funext i;rfl
  rw[e1];show List.map _ (if m r=true then _ else _)=List.map _ (if m r=true then _ else _);split
  ·rw[ZC,Ym,e2,ih,ZC];rfl
  ·rw[Ym,e2,ih]
theorem qK3 {m:Row->Bool}:∀(bs:List Nat) (rs:List Row),bs.length=rs.length->((bs.zip rs).filter (λq=>m q.2)).map Prod.snd=rs.filter m
 |[],[],_=>rfl
 |b::bs,r::rs,h=>by
  have ih:=qK3 (m:=m) bs rs (by simpa using h);rw[Vt,Y3,Y3];show List.map _ (if m r=true then _ else _)=_;split
  ·rw[ZC,ih]
  ·exact ih
end Qf
namespace Pr
open PySem L2 Qf
theorem RowsL.filter {H H':Hp}{p D:Addr}{rs:List Row}{bs:List Addr}(m:Row->Bool) (hl:bs.length=rs.length) (hr:∀(i:Nat) b r,bs[i]?=some b->rs[i]?=some r->H b=some (.tup (vN r))) (s:Same H H')
  (hD:H' D=some (.lst (((List.range bs.length).filter (λi=>m (rs.getD i []))).map (λi=>V.ref (bs.getD i 0))))):RowsL H' D (rs.filter m):=by
 have e:((List.range bs.length).filter (λi=>m (rs.getD i []))).map (λi=>V.ref (bs.getD i 0))=(((bs.zip rs).filter (λq=>m q.2)).map Prod.fst).map V.ref:=by
  rw[<- qZ2 bs rs hl,Ym];rfl
 rw[e] at hD;refine⟨_,hD,by rw[<- qK3 bs rs hl,Ze,Ze],λi b r e1 e2=>?_⟩;rw[<- qK3 bs rs hl] at e2;rw[Zb] at e1 e2;obtain⟨q,hq,rfl⟩:=Zj.mp e1;rw[hq] at e2;have e3:q.2=r:=by simpa using e2
 have hm:=(ZP.mp (Zm hq)).1;obtain⟨j,hj,ej⟩:=ZK.mp hm;rw[List.length_zip] at hj;have ez:(bs.zip rs)[j]?=some q:=by rw[Zc (by rw[List.length_zip];exact hj),ej]
 rw[List.getElem?_zip_eq_some] at ez;rw[<- e3];exact s _ _ (hr j q.1 q.2 ez.1 ez.2)
section
variable {P:Program}{w:World}{K:PySem.W.Frag}{mg:Str->Option Value}{base:Heap}
abbrev qt6:List Str:=["_law_box", "_law_row_here", "_law_column", "_law_side"]
theorem xy3:FnScope qt6 qt6 (qa4 qE5):=qd9
theorem xK7:FnScope qt6 qt6 (qa4 lHas):=qd9
def qK4 (m:Nat->Nat->Nat->Row->Bool):Sp:=λvs H Q _=>∃(b:Addr) (bx:Row) (r c s:Nat),vs=[.ref b,.int (r:Nat),.int (c:Nat),.int (s:Nat)]/\H b=some (.tup (vN bx))/\bx.length=4/\Q (.bl (m r c s bx)) H
theorem xn7 {f:Addr}{fd:FuncData}(F:Fun K "_law_meets" "_law_meets" qE5 f fd):FnOk P w K mg base CX0 1 f fd qt6 (qK4 qt5):=by
 refine F.ok xy3 (λvs H Q E h=>?_) (λcdv A outer s H vs Q E hr h=>?_)
 ·obtain⟨b,bx,r,c,s,rfl,_⟩:=h
  rfl
 ·obtain⟨b,bx,r,c,s,rfl,hb,h4,q⟩:=h;obtain⟨x,y,h',w',rfl⟩:=qn2 h4;refine seqE ⟨_,⟨qf1 (qk1 (qc0 qC5 (qb3 qd3 (pv 1) (pv 3)) (pxN qd1 (pv 0) qa6) (qb7 _))
   (qi8 (qc0 qC5 (qb3 qd3 (pxN qd1 (pv 0) qa6) (pxN qd1 (pv 0) qa6)) (pv 1) (qb7 _)))).pt (qa8 (qb0 qo7)) qb6⟩,?_⟩
  refine qh3 ⟨_,⟨qb0 (qy1 (qg3 qu1 (pv 2) (qb3 qd3 (pxN qd1 (pv 0) qa6) (pxN qd1 (pv 0) qa6)) (qb7 _)) (qy0 (qg3 qu1 (pxN qd1 (pv 0) qa6) (qb3 qd3 (pv 2) (pv 3)) (qb7 _))))⟩,?_⟩;have em:qt5 r c s [x,y,h',w']=decide (x<r+s/\r<x+h'/\c<y+w'/\y<c+s):=rfl;rw[em] at q;refine⟨_,rfl,_,rfl,_,_,rfl,rfl,_,rfl,b,_,0,.int (x:Nat),rfl,rfl,SqT.of hb,rfl,_,_,rfl,rfl,_,rfl,?_⟩;refine ite2 (λhc=>?_) (λhc=>?_)
  ·have:=ZI hc;rw[Zq (by lia)] at q;exact iteT q
  ·have h1:=YO (Yu.mpr hc);refine⟨_,rfl,b,_,0,.int (x:Nat),rfl,rfl,SqT.of hb,rfl,_,rfl,b,_,2,.int (h':Nat),rfl,rfl,SqT.of hb,rfl,_,_,rfl,rfl,_,rfl,_,_,rfl,rfl,_,rfl,?_⟩;refine ite2 (λhc=>?_) (λhc=>?_)
   ·have:=ZI hc;rw[Zq (by lia)] at q;exact q
   ·have h2:=YO (Yu.mpr hc);refine⟨_,rfl,_,rfl,b,_,1,.int (y:Nat),rfl,rfl,SqT.of hb,rfl,_,rfl,b,_,3,.int (w':Nat),rfl,rfl,SqT.of hb,rfl,_,_,rfl,rfl,_,_,rfl,rfl,_,rfl,?_⟩;refine ite2 (λhc=>?_) (λhc=>?_)
    ·have h3:=ZI hc;refine⟨_,rfl,b,_,1,.int (y:Nat),rfl,rfl,SqT.of hb,rfl,_,rfl,_,rfl,_,_,rfl,rfl,_,_,rfl,rfl,?_⟩;have e:decide ((y:Int)<(c:Int)+(s:Int))=decide (x<r+s/\r<x+h'/\c<y+w'/\y<c+s):=by
      congr 1;exact propext ⟨λz=>⟨by lia,by lia,by lia,by lia⟩,λz=>by lia⟩
     show Q (.bl (decide ((y:Int)<(c:Int)+(s:Int)))) H;rw[e];exact q
    ·have h3:=YO (Yu.mpr hc);rw[Zq (by lia)] at q;exact q
theorem xF9 {f:Addr}{fd:FuncData}(F:Fun K "_law_has" "_law_has" lHas f fd):FnOk P w K mg base CX0 1 f fd qt6 (qK4 hasB):=by
 refine F.ok xK7 (λvs H Q E h=>?_) (λcdv A outer s H vs Q E hr h=>?_)
 ·obtain⟨b,bx,r,c,s,rfl,_⟩:=h
  rfl
 ·obtain⟨b,bx,r,c,s,rfl,hb,h4,q⟩:=h;obtain⟨x,y,h',w',rfl⟩:=qn2 h4;refine seqE ⟨_,⟨qf1 (qk1 (qc0 qu1 (pv 1) (pxN qd1 (pv 0) qa6) (qb7 _))
   (qi8 (qc0 qu1 (qb3 qd3 (pxN qd1 (pv 0) qa6) (pxN qd1 (pv 0) qa6)) (qb3 qd3 (pv 1) (pv 3)) (qb7 _)))).pt (qa8 (qb0 qo7)) qb6⟩,?_⟩
  refine qh3 ⟨_,⟨qb0 (qy1 (qg3 qC5 (pxN qd1 (pv 0) qa6) (pv 2) (qb7 _)) (qy0 (qg3 qC5 (qb3 qd3 (pv 2) (pv 3)) (qb3 qd3 (pxN qd1 (pv 0) qa6) (pxN qd1 (pv 0) qa6)) (qb7 _))))⟩,?_⟩;have em:hasB r c s [x,y,h',w']=decide (x<=r/\r+s<=x+h'/\y<=c/\c+s<=y+w'):=rfl;rw[em] at q;refine⟨_,rfl,_,rfl,b,_,0,.int (x:Nat),rfl,rfl,SqT.of hb,rfl,_,_,rfl,rfl,_,rfl,?_⟩;refine ite2 (λhc=>?_) (λhc=>?_)
  ·have:=ZI hc;rw[Zq (by lia)] at q;exact iteT q
  ·have h1:=YO (Yu.mpr hc);refine⟨_,rfl,b,_,0,.int (x:Nat),rfl,rfl,SqT.of hb,rfl,_,rfl,b,_,2,.int (h':Nat),rfl,rfl,SqT.of hb,rfl,_,_,rfl,rfl,_,rfl,_,rfl,_,_,rfl,rfl,_,_,rfl,rfl,_,rfl,?_⟩;refine ite2 (λhc=>?_) (λhc=>?_)
   ·have:=ZI hc;rw[Zq (by lia)] at q;exact q
   ·have h2:=YO (Yu.mpr hc);refine⟨_,rfl,b,_,1,.int (y:Nat),rfl,rfl,SqT.of hb,rfl,_,rfl,_,_,rfl,rfl,_,rfl,?_⟩;refine ite2 (λhc=>?_) (λhc=>?_)
    ·have h3:=ZI hc;refine⟨_,rfl,_,rfl,_,_,rfl,rfl,_,rfl,b,_,1,.int (y:Nat),rfl,rfl,SqT.of hb,rfl,_,rfl,b,_,3,.int (w':Nat),rfl,rfl,SqT.of hb,rfl,_,_,rfl,rfl,_,_,rfl,rfl,?_⟩;have e:decide ((c:Int)+(s:Int)<=(y:Int)+(w':Int))=decide (x<=r/\r+s<=x+h'/\y<=c/\c+s<=y+w'):=by
      congr 1;exact propext ⟨λz=>⟨by lia,by lia,by lia,by lia⟩,λz=>by lia⟩
     show Q (.bl (decide ((c:Int)+(s:Int)<=(y:Int)+(w':Int)))) H;rw[e];exact q
    ·have h3:=YO (Yu.mpr hc);rw[Zq (by lia)] at q;exact q
end
end Pr
namespace Qf
open Tr
def qt (k:Nat) (m:List Row) (r c i:Nat):Tr:=bt k m (r+2^k*(i/2)) (c+2^k*(i%2))
def qL (k:Nat) (m:List Row) (r c:Nat) (L:List Tr):Nat->List Tr
 |0=>L
 |i+1=>post (qt k m r c i) (qL k m r c L i)
theorem qQ1 {k:Nat}{m:List Row}{r c:Nat}{L:List Tr}(h:Ord L):∀i,Ord (qL k m r c L i)
 |0=>h
 |i+1=>(post_ord _ _ (qQ1 h i)).1
theorem q41 {k:Nat}{m:List Row}{r c:Nat}{L:List Tr}(h:Ord L){j:Nat}:∀i,j<i->In (qL k m r c L i) (qt k m r c j)
 |i+1,hj=>by
  by_cases e:j=i
  ·rw[e];exact (post_ord _ _ (qQ1 h i)).2
  ·exact (q41 h i (by lia)).post _
theorem xy4 {k:Nat}{m:List Row}{r c:Nat}{L:List Tr}(h:Ord L){i:Nat}{t:Tr}(ht:In (qL k m r c L i) t):name (qL k m r c L (i+1)) t=name (qL k m r c L i) t:=by
 obtain⟨s,e⟩:=post_ext (qt k m r c i) (qL k m r c L i);show name (post _ _) t=_;rw[e];exact name_app ht (qQ1 h i)
theorem xf9 {k:Nat}{m:List Row}{r c:Nat}{L:List Tr}:∀i,(qL k m r c L i).length<=L.length+i*sz k
 |0=>by show L.length<=_;lia
 |i+1=>by
  have h1:=xf9 (k:=k) (m:=m) (r:=r) (c:=c) (L:=L) i;have h2:=qv6 (qt k m r c i) (qL k m r c L i);have h3:=q40 k m (r+2^k*(i/2)) (c+2^k*(i%2));show (post _ _).length<=_;rw[Nat.succ_mul];unfold qt at h2;unfold qt;lia
def names (k:Nat) (m:List Row) (r c:Nat) (L:List Tr) (i:Nat):List Nat:=(List.range i).map λj=>name (qL k m r c L i) (qt k m r c j)
theorem q42 {k:Nat}{m:List Row}{r c:Nat}{L:List Tr}(h:Ord L) (i:Nat):names k m r c L (i+1)=names k m r c L i++[name (post (qt k m r c i) (qL k m r c L i)) (qt k m r c i)]:=by
 unfold names;rw[YM,ZW];congr 1;exact Yj λj hj=>xy4 h (q41 h i (ZH.mp hj))
theorem xK8 (k:Nat) (boxes:List Row) (r c:Nat) (h1:met boxes r c (2^(k+1))≠[]) (h2:(met boxes r c (2^(k+1))).any (hasB r c (2^(k+1)))=false) :
  bt (k+1) boxes r c=mk (qt k (met boxes r c (2^(k+1))) r c 0) (qt k (met boxes r c (2^(k+1))) r c 1) (qt k (met boxes r c (2^(k+1))) r c 2) (qt k (met boxes r c (2^(k+1))) r c 3):=by
 unfold bt;rw[Zk h1,Zk (by rw[h2];decide)];unfold qt;simp
theorem xy5 {boxes:List Row}{r c s:Nat}:(met boxes r c s).length<=boxes.length:=Yr _ _
theorem xy6 {boxes:List Row}{r c:Nat}(h:met boxes r c 1≠[]):(met boxes r c 1).any (hasB r c 1)=true:=by
 obtain⟨b,hb⟩:=List.exists_mem_of_ne_nil _ h;refine XO.mpr ⟨b,hb,?_⟩;have m:b.getD 0 0<r+1/\r<b.getD 0 0+b.getD 2 0/\c<b.getD 1 0+b.getD 3 0/\b.getD 1 0<c+1:=ZI (ZP.mp hb).2;exact Zl ⟨by lia,by lia,by lia,by lia⟩
theorem xG0:∀{k n:Nat},k<=n->sz k<=sz n
 |k,0,h=>by rw[show k=0 by lia];exact Zd _
 |k,n+1,h=>by
  by_cases e:k=n+1
  ·rw[e];exact Zd _
  ·have:=xG0 (show k<=n by lia);show _<=4*sz n+1;lia
theorem qK5 {s i u:Nat}(hs:0<s):i/s=u<->u*s<=i/\i<u*s+s:=by
 constructor
 ·intro h;have h1:=VQ i s;have h2:=Wv i hs;rw[h,Wg] at h1;lia
 ·rintro⟨h1,h2⟩;have a:u<=i/s:=(Nat.le_div_iff_mul_le hs).mpr h1;have b:i/s<u+1:=(Nat.div_lt_iff_lt_mul hs).mpr (by rw[Nat.succ_mul];exact h2);lia
theorem qv7 {s i j u v:Nat}(hs:0<s):qt5 (u*s) (v*s) s [i,j,1,1]=true<->i/s=u/\j/s=v:=by
 rw[qK5 hs,qK5 hs];unfold qt5;rw[Vz];simp only[Vg,Vh];lia
theorem xy7 {s i j r c:Nat}(hs:2<=s):hasB r c s [i,j,1,1]=false:=by
 unfold hasB;rw[XN];simp only[Vg,Vh];lia
def Ones (boxes:List Row):Prop:=∀b∈boxes,∃i j,b=[i,j,1,1]
theorem qr_z (i:Nat):qr i .z=.z:=by unfold qr;rfl
theorem xG1:∀(k r c:Nat),bt k [] r c=.z
 |0,_,_=>rfl
 |k+1,_,_=>rfl
theorem bt_s (k:Nat) (boxes:List Row) (r c:Nat):bt (k+1) boxes r c=if met boxes r c (2^(k+1))=[] then z else if (met boxes r c (2^(k+1))).any (hasB r c (2^(k+1))) then o else
  mk (bt k (met boxes r c (2^(k+1))) r c) (bt k (met boxes r c (2^(k+1))) r (c+2^k)) (bt k (met boxes r c (2^(k+1))) (r+2^k) c) (bt k (met boxes r c (2^(k+1))) (r+2^k) (c+2^k)):=rfl
theorem qZ3:∀(k:Nat) (boxes:List Row) (u v:Nat) (t:Tr),Red t->dep t<=k->Ones boxes->(∀i j,i/2^k=u->j/2^k=v->([i,j,1,1]∈boxes<->qi4 k t i j=true))->bt k boxes (u*2^k) (v*2^k)=t
 |0,boxes,u,v,t,hr,hd,ho,h=>by
  rw[Nat.pow_zero,WA,WA];have h0:=h u v (by simp) (by simp);have m1:qt5 u v 1 [u,v,1,1]=true:=by
   have:=(qv7 (s:=1) (i:=u) (j:=v) (u:=u) (v:=v) (by decide)).mpr ⟨V0 u,V0 v⟩
   rwa [WA,WA] at this
  have hm:∀b∈met boxes u v 1,b=[u,v,1,1]:=λb hb=>by
   obtain⟨kM,kE⟩:=ZP.mp hb;obtain⟨i,j,rfl⟩:=ho b kM;have:=(qv7 (s:=1) (i:=i) (j:=j) (u:=u) (v:=v) (by decide)).mp (by rw[WA,WA];exact kE);rw[V0,V0] at this;rw[this.1,this.2]
  unfold bt;rcases dep0 hd with e|e
  ·rw[e] at h0 ⊢;rw[Zp];refine WX.mpr λb hb=>?_;have eb:=hm b hb;rw[eb] at hb;have:=h0.mp (ZP.mp hb).1;cases this
  ·rw[e] at h0 ⊢;have jJ:=ZP.mpr ⟨h0.mpr rfl,m1⟩;rw[Zk (λz=>by
    unfold met at z;rw[z] at jJ;cases jJ),Zp]
   refine XO.mpr ⟨_,jJ,?_⟩;unfold hasB;rw[Vz];simp only[Vg,Vh];lia
 |k+1,boxes,u,v,t,hr,hd,ho,h=>by
  have hp:0<2^k:=W6 (by decide);have jV:2^(k+1)=2*2^k:=by rw[YK,Wg]
  refine xF3 (qF4 _ _ _ _) hr λi hi=>?_;have hm:Ones (met boxes (u*2^(k+1)) (v*2^(k+1)) (2^(k+1))):=λb hb=>ho b (ZP.mp hb).1;have key:qr i (bt (k+1) boxes (u*2^(k+1)) (v*2^(k+1)))=bt k (met boxes (u*2^(k+1)) (v*2^(k+1)) (2^(k+1))) ((2*u+i/2)*2^k) ((2*v+i%2)*2^k):=by
   rw[bt_s];by_cases c1:met boxes (u*2^(k+1)) (v*2^(k+1)) (2^(k+1))=[]
   ·rw[Zp c1,c1,xG1,qr_z]
   ·rw[Zk c1,Zk (by
     rw[Bool.not_eq_true,WD];intro b hb;obtain⟨i',j',rfl⟩:=hm b hb;rw[xy7 (by lia)];decide)]
    show qr i (mkT _ _ _ _)=_;rw[xr2 hi];have e1:u*2^(k+1)=2*u*2^k:=by rw[jV,<- XD,Wg u 2]
    have e2:v*2^(k+1)=2*v*2^k:=by rw[jV,<- XD,Wg v 2]
    match i,hi with
    |0,_=>show bt k _ _ _=_;rw[show (2*u+0/2)*2^k=u*2^(k+1) by rw[e1];rfl,show (2*v+0%2)*2^k=v*2^(k+1) by rw[e2];rfl]
    |1,_=>show bt k _ _ _=_;rw[show (2*u+1/2)*2^k=u*2^(k+1) by rw[e1];rfl,show (2*v+1%2)*2^k=v*2^(k+1)+2^k by rw[e2,W0];rw[show 1%2=1 from rfl,W1]]
    |2,_=>show bt k _ _ _=_;rw[show (2*u+2/2)*2^k=u*2^(k+1)+2^k by rw[e1,W0];rw[show 2/2=1 from rfl,W1],show (2*v+2%2)*2^k=v*2^(k+1) by rw[e2];rfl]
    |3,_=>show bt k _ _ _=_;rw[show (2*u+3/2)*2^k=u*2^(k+1)+2^k by rw[e1,W0];rw[show 3/2=1 from rfl,W1],show (2*v+3%2)*2^k=v*2^(k+1)+2^k by rw[e2,W0];rw[show 3%2=1 from rfl,W1]]
  rw[key];refine qZ3 k _ _ _ _ (xF4 hi hr) (xr1 hi t hd) hm λi' j' hi' hj'=>?_;have d1:i'/2^(k+1)=u:=by rw[YK,<- WK,hi'];lia
  have d2:j'/2^(k+1)=v:=by rw[YK,<- WK,hj'];lia
  have hh:=h i' j' d1 d2;have hc:qi4 (k+1) t i' j'=qi4 k (qr i t) i' j':=xe9 hi hi' hj';rw[hc] at hh;rw[<- hh];constructor
  ·intro z;exact (ZP.mp z).1
  ·intro z;exact ZP.mpr ⟨z,(qv7 (W6 (by decide))).mpr ⟨d1,d2⟩⟩
def ql5 (n:Nat) (t:Tr):List Row:=((List.range (2^n*2^n)).filter λk=>qi4 n t (k/2^n) (k%2^n)).map λk=>[k/2^n,k%2^n,1,1]
theorem q43 (n:Nat) (t:Tr):Ones (ql5 n t):=λb hb=>by
 obtain⟨k,_,rfl⟩:=ZR.mp hb;exact⟨_,_,rfl⟩
theorem xg0 {n:Nat}{t:Tr}{i j:Nat}(hi:i<2^n) (hj:j<2^n):[i,j,1,1]∈ql5 n t<->qi4 n t i j=true:=by
 have hp:0<2^n:=W6 (by decide);unfold ql5;rw[ZR];constructor
 ·rintro⟨k,hk,e⟩;have h1:k/2^n=i:=by injection e
  have h2:k%2^n=j:=by
   have:=(List.cons.inj (List.cons.inj e).2).1;exact this
  have:=(ZP.mp hk).2
  rwa [h1,h2] at this
 ·intro h;have e1:(2^n*i+j)/2^n=i:=by rw[Nat.mul_add_div hp,Nat.div_eq_of_lt hj];rfl
  have e2:(2^n*i+j)%2^n=j:=by rw[Nat.mul_add_mod,VH hj]
  refine⟨2^n*i+j,ZP.mpr ⟨ZH.mpr ?_,by rw[e1,e2];exact h⟩,by rw[e1,e2]⟩;have:2^n*i+2^n<=2^n*2^n:=by rw[<- Nat.mul_succ];exact Nat.mul_le_mul_left _ hi
  lia
theorem xn8 {n:Nat}{t:Tr}(hr:Red t) (hd:dep t<=n):bt n (ql5 n t) 0 0=t:=by
 have hp:0<2^n:=W6 (by decide);have:=qZ3 n (ql5 n t) 0 0 t hr hd (q43 n t) λi j hi hj=>by
  have h1:=(qK5 hp).mp hi;have h2:=(qK5 hp).mp hj;exact xg0 (by lia) (by lia)
 rwa [Nat.zero_mul] at this
theorem qT7 {n:Nat}{t:Tr}(hn:n<4):xn6 n (ql5 n t):=by
 have hp:0<2^n:=W6 (by decide);have p8:2^n<=8:=by
  have:=W5 (n:=2) (by decide) (show n<=3 by lia);simpa using this
 have hsz:(2^n*2^n:Nat)<=64:=by
  have:=We p8 p8;lia
 refine⟨λb hb=>?_,.inl ⟨hn,?_⟩⟩
 ·obtain⟨k,hk,rfl⟩:=ZR.mp hb;have hk':=ZH.mp (ZP.mp hk).1;have h1:k/2^n<2^n:=(Nat.div_lt_iff_lt_mul hp).mpr hk';have h2:=Wv k hp;exact⟨_,_,_,_,rfl,Zd _,Zd _,by lia,by lia⟩
 ·unfold ql5;rw[Ze];have:=Yr (λk=>qi4 n t (k/2^n) (k%2^n)) (List.range (2^n*2^n));rw[Xe] at this;lia
end Qf
namespace Pr
open PySem L2 Qf
section
variable {P:Program}{w:World}{K:PySem.W.Frag}{mg:Str->Option Value}{base:Heap}
def xr5:Sp:=λvs H Q _=>∃(b g:Addr) (r:Row) (ns:List Nat) (f:Nat->Nat),vs=[.ref b,.ref g]/\H b=some (.tup (vN r))/\r.length=4/\H g=some (.lst (vN ns))/\(∀q∈r,ns[q]?=some (f q)) /\
 ∀(H':Hp) (t:Addr),Same H H'->H' t=some (.tup (vN (r.map f)))->Q (.ref t) H'
theorem xy8 {f:Addr}{fd:FuncData}(F:Fun K "renumbered" "renumbered" ql8 f fd) (B:Blt mg):FnOk P w K mg base CX0 1 f fd ["row", "numbers"] xr5:=by
 refine F.ok scRenum (λvs H Q E h=>?_) (λcdv A outer s H vs Q E hr h=>?_)
 ·obtain⟨b,g,r,ns,f,rfl,_⟩:=h
  rfl
 ·obtain⟨b,g,r,ns,ff,rfl,hb,h4,hg,hv,q⟩:=h;refine qh3 ⟨_,⟨qb0 (qb4 (tupO K rfl) (by rfl) B.tuple ZG (qa0 (qe9 ["row", "numbers"] (qa4 ql8) rfl rfl rfl scRenum.nd (qi9 (pv 0)) (λcl C fp s₀ H₀=>pxN (ixL K rfl) (pv 2) (pv 0))) qa2))⟩,?_⟩;refine⟨_,rfl,b,rfl,⟨_,SqT.of hb⟩,λD hD=>qe1 hD (λi z _=>∃m:Nat,r[i]?=some m/\z=.int (ff m:Nat)) (qh4 (K:=K) hb) (by rw[qb5,h4];decide) (λ_ _ _ _ _ _ h=>h) ?_ ?_⟩
  ·intro i x H2 hi hx s2 Q' hq;obtain⟨m,hm,rfl⟩:=qi0 hx;exact⟨_,rfl,_,rfl,g,_,(m:Int),.int (ff m:Nat),rfl,rfl,SqL.of (s2 _ _ hg),qe0 (qT0 (hv m (Zm hm))),hq _ _ (Same.refl _) ⟨m,hm,rfl⟩⟩
  ·intro ys H2 s2 jR jK jM;have ey:ys=vN (r.map ff):=by
    refine qh5 (by rw[jK,qb5,qb5,Ze]) λi x hx=>?_;obtain⟨m,hm,rfl⟩:=jM i x hx;exact qT0 (by rw[Zb,hm];rfl)
   subst ey;exact⟨D,_,rfl,.inl ⟨SqL.of jR,λl hl=>q _ l (s2.trans (qb1 hl)) qa1⟩⟩
end
theorem BookAt.same {C:Addr}{H H':Hp}{p k d:Addr}{L:List Tr}(h:BookAt C H p k d L) (s:Same H H'):BookAt C H' p k d L:=by
 obtain⟨⟨dx,hp⟩,hk,hd,hO⟩:=h;exact⟨⟨dx,s _ _ hp⟩,hk.same s,s _ _ hd,hO⟩
theorem BookAt.tup {C:Addr}{H H':Hp}{p k d:Addr}{L:List Tr}(h:BookAt C H p k d L) (B:But2 k d H H'){x:Addr}{u:List V}(e:H x=some (.tup u)):H' x=some (.tup u):=by
 obtain⟨_,⟨bs,hk,_⟩,hd,_⟩:=h;exact B _ _ e (λz=>by rw[z,hk] at e;cases e) (λz=>by rw[z,hd] at e;cases e)
theorem BookAt.put {C:Addr}{H:Hp}{p k d D:Addr}{L:List Tr}{xs ys:List V}(h:BookAt C H p k d L) (hD:H D=some (.lst xs)) (nk:D≠k):BookAt C (upd H D (.lst ys)) p k d L:=by
 obtain⟨⟨dx,hp⟩,⟨bs,hk,hl,hr⟩,hd,hO⟩:=h;refine⟨⟨dx,?_⟩,⟨bs,?_,hl,λi c r e1 e2=>?_⟩,?_,hO⟩
 ·rw[qa5 (λz=>by rw[z,hD] at hp;cases hp)];exact hp
 ·rw[qa5 (Yx nk)];exact hk
 ·have:=hr i c r e1 e2;rw[qa5 (λz=>by rw[z,hD] at this;cases this)];exact this
 ·rw[qa5 (λz=>by rw[z,hD] at hd;cases hd)];exact hd
theorem xK9 (k d:Addr):(qJ9 k d).lookup ("number_for" : Str)=none:=qY6 k d (by decide +kernel) (by decide +kernel)
section
variable {P:Program}{w:World}{K:PySem.W.Frag}{mg:Str->Option Value}{base:Heap}
theorem scBkNs:FnScope ["self", "rows", "numbers", "row"] ["self", "rows"] (qa4 qI2):=qd9
end
end Pr
namespace Qf
open Tr
def insG (rows:List Row) (L:List Tr):Nat->List Tr
 |0=>L
 |i+1=>ins (TR rows (i+2)) (insG rows L i)
theorem qK6 (rows:List Row) (L:List Tr):∀i,∃s,insG rows L i=L++s/\s.length<=i
 |0=>⟨[],by simp[insG],Zd _⟩
 |i+1=>by
  obtain⟨s,e,hl⟩:=qK6 rows L i;obtain⟨s',e',hl'⟩:=xe3 (TR rows (i+2)) (insG rows L i);exact⟨s++s',by show ins _ _=_;rw[e',e,Ye],by rw[Zr];lia⟩
theorem qQ2 {rows:List Row}{L:List Tr}(i:Nat):∃s,insG rows L (i+1)=insG rows L i++s:=by
 obtain⟨s,e,_⟩:=xe3 (TR rows (i+2)) (insG rows L i);exact⟨s,e⟩
theorem qn6 {rows:List Row}{L:List Tr}:∀i x,x<i+2->In (insG rows L i) (TR rows x)
 |0,x,hx=>by
  match x,hx with
  |0,_=>exact .inl (qB8 _)
  |1,_=>exact .inr (.inl (qP7 _))
 |i+1,x,hx=>by
  by_cases e:x=i+2
  ·rw[e];exact xE6 _ _
  ·obtain⟨s,e'⟩:=qQ2 (rows:=rows) (L:=L) i;rw[e'];exact (qn6 i x (by lia)).app
theorem qZ4 {rows:List Row}(ok:qb2 rows){L:List Tr}(h:Ord L):∀i,i<=rows.length->Ord (insG rows L i)
 |0,_=>h
 |i+1,hi=>by
  have ih:=qZ4 ok h i (by lia);obtain⟨a,b,c,d,e⟩:=qn2 (ok i _ (Zc (show i<rows.length by lia))).1;have hp:rows[i]?=some [a,b,c,d]:=by rw[Zc (by lia),e]
  have jB:=(ok i _ hp).2;show Ord (ins (TR rows (i+2)) (insG rows L i));rw[qw5 ok hp];exact xe4 ih (qn6 i a (jB a (by simp))) (qn6 i b (jB b (by simp))) (qn6 i c (jB c (by simp))) (qn6 i d (jB d (by simp)))
def nmsG (rows:List Row) (L:List Tr) (i:Nat):List Nat:=(List.range (i+2)).map λx=>name (insG rows L i) (TR rows x)
theorem xg1 {rows:List Row}(ok:qb2 rows){L:List Tr}(h:Ord L){i:Nat}(hi:i<rows.length):nmsG rows L (i+1)=nmsG rows L i++[name (insG rows L (i+1)) (TR rows (i+2))]:=by
 unfold nmsG;rw[YM,ZW];congr 1;refine Yj λx hx=>?_;obtain⟨s,e⟩:=qQ2 (rows:=rows) (L:=L) i;rw[e];exact name_app (qn6 i x (ZH.mp hx)) (qZ4 ok h i (by lia))
end Qf
namespace Pr
open PySem L2 Qf
section
variable {P:Program}{w:World}{K:PySem.W.Frag}{mg:Str->Option Value}{base:Heap}
def xy9 (C:Addr):Sp:=λvs H Q _=>∃(p kk dd rp:Addr) (L:List Tr) (rows:List Row),vs=[.ref p,.ref rp]/\BookAt C H p kk dd L/\RowsAt H rp rows/\qb2 rows/\L.length+rows.length<=1190980 /\
 ∀(H':Hp) (g:Addr),H g=none->But2 kk dd H H'->BookAt C H' p kk dd (insG rows L rows.length)->H' g=some (.lst (vN (nmsG rows L rows.length)))->Q (.ref g) H'
theorem xG2 {f fN fR fP C:Addr}{fd fdN fdR fdP:FuncData}(F:Fun K "numbers_for" "Book.numbers_for" qI2 f fd) (B:Blt mg) (Tc:Cst mg) (hem0:∃t,mg "EMPTY" = some (.int 0 t)) (T:BookIn K mg C)
  (MN:Meth K C "number_for" fN) (FN:Fun K "number_for" "Book.number_for" qX2 fN fdN) (bN:Binds K fdN ["self", "row"] [])
  (hR:mg "renumbered" = some (.ref fR)) (FR:Fun K "renumbered" "renumbered" ql8 fR fdR) (bR:Binds K fdR ["row", "numbers"] [])
  (hP:mg "is_plain" = some (.ref fP)) (FP:Fun K "is_plain" "is_plain" qA1 fP fdP) (bP:Binds K fdP ["row"] []):FnOk P w K mg base CX0 4 f fd ["self", "rows"] (xy9 C):=by
 have GN:FnOk P w K mg base CX0 3 fN fdN ["self", "row"] (xE9 C):=xF0 FN B Tc T hP FP bP;have GR:FnOk P w K mg base CX0 1 fR fdR ["row", "numbers"] xr5:=xy8 FR B;obtain⟨tu,hfu⟩:=Tc.full;obtain⟨te,hem⟩:=hem0;refine F.ok scBkNs (λvs H Q E h=>?_) (λcdv A outer s H vs Q E hr h=>?_)
 ·obtain⟨p,kk,dd,rp,L,rows,rfl,_⟩:=h
  rfl
 ·obtain⟨p,kk,dd,rp,L,rows,rfl,hB,hRS,ok,hl,q⟩:=h;have jF:Room 1 _:=hr.mono (by decide);refine seqE ⟨_,⟨psN 2 scBkNs.nd (qf6 (qa0 (qd6 (v:=.int 0) (by rfl) hem ⟨_,rfl⟩) (qa0 (qd6 (v:=.int 1) (by rfl) hfu ⟨_,rfl⟩) qa2)))⟩,?_⟩;refine seqE ⟨_,⟨qj0 Z2 rfl (qi9 (pv 1)) (pgN 3 scBkNs.nd)
   (qa8 (qf0 (PEb.go (qE8 Z0 Z4 Z5 qf2 ⟨pv 2⟩ (.cons ⟨q65 (pv 0) T.cl MN GN hr bN .nil q74 (Ars2.go (.cons ⟨pcN GR jF hR FR.kp bR (qa0 (pv 3) (qa0 (pv 2) qa2))⟩ .nil rfl))⟩ .nil rfl)))))⟩,?_⟩
  refine qh3 ⟨_,⟨qb0 (pv 2)⟩,?_⟩;refine⟨(by show 2<=sizeLine;decide),λg hg=>?_⟩;have S1:=qb1 (o:=.lst [.int 0,.int 1]) hg;have hB1:=hB.same S1;have hg1:upd H g (.lst [.int 0,.int 1]) g=some (.lst (vN (nmsG rows L 0))):=by
   have e0:nmsG rows L 0=[0,1]:=by
    show[Tr.name L (Qf.TR rows 0),Tr.name L (Qf.TR rows 1)]=_;rw[qB8,qP7];rfl
   rw[e0,qa1];rfl
  have hRS1:RowsAt (upd H g (.lst [.int 0,.int 1])) rp rows:=hRS.mono S1.tups;have ngk:g≠kk:=by
   obtain⟨_,⟨ks,hk,_⟩,_,_⟩:=id hB;exact (qa3 hk hg).symm
  generalize upd H g (.lst [.int 0,.int 1])=H1 at S1 hB1 hg1 hRS1 ⊢;obtain⟨bs,kS,kQ,jA⟩:=id hRS;have ngd:g≠dd:=(qa3 hB.dc hg).symm;refine⟨_,rfl,rp,rfl,⟨_,SqT.of (S1 _ _ kS)⟩,qp5 (K:=K) (a:=rp) (xs:=bs.map V.ref) (λi σ H2=>BookAt C H2 p kk dd (insG rows L i)/\H2 g=some (.lst (vN (nmsG rows L i)))/\But2 kk dd H H2/\∃v,σ=[some (.ref p),some (.ref rp),some (.ref g),v]) ?_ ?_ ?_ ?_⟩
  ·exact⟨hB1,hg1,But2.of S1,none,rfl⟩
  ·rintro i σ H2 _ ⟨_,_,B2,_⟩;exact SqT.of (hB.tup B2 kS)
  ·rintro i x σ H2 hx ⟨hB2,kD,B2,v,rfl⟩;rw[Zb] at hx;obtain⟨b,hb,rfl⟩:=Zj.mp hx;have hi:i<rows.length:=by rw[<- kQ];exact (gS_ hb).1
   obtain⟨a0,a1,a2,a3,er⟩:=qn2 (ok i _ (Zc hi)).1;have hri:rows[i]?=some [a0,a1,a2,a3]:=by rw[Zc hi,er]
   have jQ:=hB.tup B2 (jA i b _ hb hri);have jB:=(ok i _ hri).2;obtain⟨⟨dx,hob⟩,_,_,hO⟩:=id hB2;have jJ:=λx (hx:x∈[a0,a1,a2,a3])=>qn6 (rows:=rows) (L:=L) i x (jB x hx);obtain⟨e2,jZ,hle2⟩:=qK6 rows L i;have hL2:(insG rows L i).length<=L.length+i:=by rw[jZ,Zr];lia
   have hTT:=(qw5 ok hri).symm;have hsucc:=xg1 ok hB.od hi;have hnl:(nmsG rows L i).length=i+2:=by unfold nmsG;rw[Ze,Xe]
   have hv:∀q∈[a0,a1,a2,a3],(nmsG rows L i)[q]?=some (Tr.name (insG rows L i) (Qf.TR rows q)):=λq hq=>by
    unfold nmsG;rw[Zb,Yc (jB q hq)]
    rfl
   have hins:ins (mkT (Qf.TR rows a0) (Qf.TR rows a1) (Qf.TR rows a2) (Qf.TR rows a3)) (insG rows L i)=insG rows L (i+1):=by rw[hTT];rfl
   have hnam:Tr.name (insG rows L (i+1)) (mkT (Qf.TR rows a0) (Qf.TR rows a1) (Qf.TR rows a2) (Qf.TR rows a3))=Tr.name (insG rows L (i+1)) (Qf.TR rows (i+2)):=by rw[hTT]
   rw[hsucc];refine⟨_,rfl,.inl ⟨rfl,_,SqL.of kD⟩,_,rfl,p,dx,_,rfl,hob,xK9 _ _,_,rfl,_,rfl,b,g,[a0,a1,a2,a3],_,λx=>Tr.name (insG rows L i) (Qf.TR rows x),rfl,jQ,rfl,kD,hv,λH3 t s3 ht=>?_⟩;refine⟨p,kk,dd,t,_,_,_,_,_,rfl,hB2.same s3,ht,jJ a0 (by simp),jJ a1 (by simp),jJ a2 (by simp),jJ a3 (by simp),by lia,λH4 B4 hB4=>?_⟩;rw[hins] at hB4 ⊢;rw[hnam];have hg4:=B4 _ _ (s3 _ _ kD) ngk ngd;refine⟨g,_,_,rfl,rfl,hg4,by rw[qb5,hnl];exact qd5 (by lia),?_⟩;refine⟨hB4.put hg4 ngk,?_,λc o e n1 n2=>?_,_,rfl⟩
   ·rw[qa1];unfold vN;rw[ZW]
    rfl
   ·rw[qa5 (qa3 e hg)];exact B4 _ _ (s3 _ _ (B2 _ _ e n1 n2)) n1 n2
  ·rintro σ H2 ⟨hB2,kD,B2,v,rfl⟩;rw[Ze,kQ] at hB2 kD;exact⟨_,rfl,q H2 g hg B2 hB2 kD⟩
end
def qk7:Stp->Str
 |.gone _=>"gone"
 |.plain _=>"plain"
 |.same _ _=>"same"
def qq4:Stp->List Nat
 |.gone k=>[k]
 |.plain k=>[k]
 |.same k j=>[k,j]
theorem qK7 (s:Stp):qg2 s=.str (qk7 s)::vN (qq4 s):=by cases s<;>rfl
def dS (s:Stp):PyData:=.tuple (.str (qk7 s)::(qq4 s).map λn:Nat=>PyData.int (n:Int))
theorem qZ5 {H:Hp}:∀(l:List Nat),DatasAt H (vN l) (l.map λn:Nat=>PyData.int (n:Int))
 |[]=>.nil
 |n::l=>.cons (.int _) (qZ5 l)
theorem qQ3 {H:Hp}{b:Addr}{s:Stp}(h:H b=some (.tup (qg2 s))):DataAt H (.ref b) (dS s):=.tup h (by rw[qK7];exact .cons (.str _) (qZ5 _))
theorem xn9 (s:Stp):PyData.strOk (qk7 s)=true:=by
 cases s with
 |gone k=>exact (by decide +kernel:PyData.strOk ("gone" : Str)=true)
 |plain k=>exact (by decide +kernel:PyData.strOk ("plain" : Str)=true)
 |same k j=>exact (by decide +kernel:PyData.strOk ("same" : Str)=true)
theorem layN:∀(a:List Nat),PyData.canLayAll0 (a.map λn:Nat=>PyData.int (n:Int))=true
 |[]=>by simp[PyData.canLayAll0]
 |x::a=>by
  show (PyData.canLay0 (.int x)&&PyData.canLayAll0 (a.map λn:Nat=>PyData.int (n:Int)))=true;rw[layN a];simp[PyData.canLay0]
theorem xr6 (s:Stp):(dS s).canLay0=true:=by
 show (PyData.canLay0 (.str (qk7 s))&&PyData.canLayAll0 ((qq4 s).map λn:Nat=>PyData.int (n:Int)))=true;rw[layN];show (PyData.strOk (qk7 s)&&true)=true;rw[xn9];rfl
theorem qZ6 (s:Stp):(dS s).depth<=3:=by cases s<;>simp[dS,qq4,qk7,PyData.depth,PyData.depthAll]
theorem xo0 {s t:Stp}(h1:qk7 s=qk7 t) (h2:qq4 s=qq4 t):s=t:=qP2 (by rw[qK7,qK7,h1,h2])
theorem xG3 (s t:Stp):PyData.eqv (dS s) (dS t)=decide (s=t):=by
 have e:PyData.eqv (dS s) (dS t)=(PyData.eqv (.str (qk7 s)) (.str (qk7 t))&&PyData.eqvAll ((qq4 s).map λn:Nat=>PyData.int (n:Int)) ((qq4 t).map λn:Nat=>PyData.int (n:Int))):=rfl;have e1:PyData.eqv (.str (qk7 s)) (.str (qk7 t))=(qk7 s==qk7 t):=by simp[PyData.eqv]
 have e2:∀l:List Nat,(l.map λn:Nat=>PyData.int (n:Int))=(l.map λn:Nat=>(n:Int)).map PyData.int:=λl=>by rw[Ym];rfl
 rw[e,e1,e2,e2,ql1];by_cases h:s=t
 ·subst h;rw[Zl rfl,Zl rfl,Bool.and_true];exact Wi _
 ·rw[Zq h];by_cases h1:qk7 s=qk7 t
  ·rw[Zq λz=>h (xo0 h1 (qI8 z)),WI]
  ·rw[YB.mpr h1,VS]
theorem qC0:∀(ss:List Stp),PyData.canLayAll0 (ss.map dS)=true
 |[]=>by simp[PyData.canLayAll0]
 |s::ss=>by
  show (PyData.canLay0 (dS s)&&PyData.canLayAll0 (ss.map dS))=true;rw[qC0 ss,xr6];rfl
theorem xo1 (ss:List Stp) (s:Stp):((ss.map dS).any λe=>PyData.eqv e (dS s))=decide (s∈ss):=by
 induction ss with
 |nil=>rfl
 |cons t ss ih=>
  rw[ZC,XC,ih,xG3];by_cases h:t=s
  ·rw[Zl h,Bool.true_or,Zl (by rw[h];exact Zu)]
  ·rw[Zq h,Bool.false_or,Y4];exact⟨λz=>Zn _ z,λz=>(ZB.mp z).elim (λe=>absurd e.symm h) id⟩
theorem StepsL.datas {H:Hp}{p:Addr}{ss:List Stp}(h:StepsL H p ss):∃xs,H p=some (.lst xs)/\DatasAt H xs (ss.map dS):=by
 obtain⟨bs,h1,h2,h3⟩:=h;refine⟨_,h1,?_⟩;clear h1
 induction bs generalizing ss with
 |nil=>
  cases ss with
  |nil=>exact .nil
  |cons _ _=>simp at h2
 |cons b bs ih=>
  cases ss with
  |nil=>simp at h2
  |cons s ss=>exact .cons (qQ3 (h3 0 b s rfl rfl)) (ih (by simpa using h2) λi c t e1 e2=>h3 (i+1) c t (by simpa using e1) (by simpa using e2))
section
variable {P:Program}{w:World}{K:PySem.W.Frag}{mg:Str->Option Value}{base:Heap}
theorem scIsStep:FnScope ["telling", "thing"] ["telling", "thing"] (qa4 qA4):=qd9
def qZ7:Sp:=λvs H Q _=>∃(t b:Addr) (n tp:Nat) (rows:List Row) (s:Stp),vs=[.ref t,.ref b]/\TellAt H t n tp rows/\qg1 n tp rows/\H b=some (.tup (qg2 s))/\∀H',Same H H'->Q (.bl (decide (s∈qc1 tp rows))) H'
theorem xg2 {f fW fS:Addr}{fd fdW fdS:FuncData}(F:Fun K "is_step" "is_step" qA4 f fd) (B:Blt mg) (C:Blt2 mg)
  (hW:mg "is_whole" = some (.ref fW)) (FW:Fun K "is_whole" "is_whole" qE3 fW fdW) (bW:Binds K fdW ["thing"] [])
  (hS:mg "steps_of" = some (.ref fS)) (FS:Fun K "steps_of" "steps_of" qo1 fS fdS) (bS:Binds K fdS ["telling"] []) (GS:FnOk P w K mg base CX0 7 fS fdS ["telling"] qt0):FnOk P w K mg base CX0 8 f fd ["telling", "thing"] qZ7:=by
 have GW:FnOk P w K mg base CX0 1 fW fdW ["thing"] qI5:=qI6 FW B;refine F.ok scIsStep (λvs H Q E h=>?_) (λcdv A outer s0 H vs Q E hr h=>?_)
 ·obtain⟨t,b,n,tp,rows,s,rfl,_⟩:=h
  rfl
 ·obtain⟨t,b,n,tp,rows,s,rfl,hT,tok,hb,q⟩:=h;have jF:Room 1 _:=hr.mono (by decide);refine seqE ⟨_,⟨qf1 (PW.pt (qk1 (qg9 (qe6 (qa7 qj4 (by rfl) B.isi Z1 (qa0 (pv 1) (qa0 (qm1 (v:=.ty "tuple") (by rfl) B.tuple ZG rfl) qa2)))))
   (qk1 (qc0 qu1 (qa7 qa9 (by rfl) B.len ZM (qa0 (pv 1) qa2)) qa6 (qb7 _))
   (qi8 (qg9 (qe6 (qa7 qj4 (by rfl) B.isi Z1 (qa0 (pxN qd1 (pv 1) qa6) (qa0 (qm1 (v:=.ty "str") (by rfl) C.str PyProof.Rows.boot_str rfl) qa2))))))))) (qa8 (qb0 qo7)) qb6⟩,?_⟩
  refine seqE ⟨_,⟨qf1 (qg9 (qe6 (qa7 (qz9 rfl) (by rfl) B.all WT (qa0 (qe9 ["telling", "thing"] (qa4 qA4) rfl rfl rfl scIsStep.nd (qi9 (qq9 qU5 (pv 1) (qy6 qa6) qy5)) (λcl Cc fp s₀ H₀=>pcN GW jF hW FW.kp bW (qa0 (pv 0) qa2))) qa2)))) (qa8 (qb0 qo7)) qb6⟩,?_⟩;refine qh3 ⟨_,⟨qb0 (qg3 (xw1 hr) (pv 1) (pcN GS hr hS FS.kp bS (qa0 (pv 0) qa2)) (by first|exact qb7 _|rfl|decide|with_unfolding_all rfl))⟩,?_⟩;have e2:decide (((qg2 s).length:Int)<2)=false:=by cases s<;>rfl
  have e0:atI (qg2 s) 0=some (.str (qk7 s)):=by cases s<;>rfl
  have ec:cutV (qg2 s) (some 1) none=vN (qq4 s):=by cases s<;>rfl
  have el:(qq4 s).length<=2:=by cases s<;>simp[qq4]
  have ew:¬(HT.sIx (qg2 s).length 0 (some 1)=0/\HT.sIx (qg2 s).length (qg2 s).length none=(qg2 s).length):=by
   intro z;have h1:=z.1;cases s with
   |gone k=>exact absurd (show HT.sIx 2 0 (some 1)=0 from h1) (by decide)
   |plain k=>exact absurd (show HT.sIx 2 0 (some 1)=0 from h1) (by decide)
   |same k j=>exact absurd (show HT.sIx 3 0 (some 1)=0 from h1) (by decide)
  refine⟨_,rfl,_,_,_,_,true,rfl,rfl,.inl (.tup hb),rfl,_,rfl,iteF ⟨_,rfl,b,_,rfl,.inr (SqT.of hb),_,_,rfl,rfl,_,rfl,?_⟩⟩;rw[e2];refine iteF ⟨_,rfl,b,_,0,.str (qk7 s),rfl,rfl,SqT.of hb,e0,_,_,_,_,true,rfl,rfl,.inl (.str _),rfl,_,rfl,iteF ?_⟩;refine⟨_,rfl,_,rfl,b,_,rfl,SqT.of hb,λz=>absurd z ew,λu hu=>?_⟩;rw[ec];have hu1:upd H u (.tup (vN (qq4 s))) u=some (.tup (vN (qq4 s))):=qa1;have s1:Same H (upd H u (.tup (vN (qq4 s)))):=qb1 hu;generalize upd H u (.tup (vN (qq4 s)))=H1 at hu1 s1;refine⟨u,rfl,⟨_,SqT.of hu1⟩,λD hD=>qe1 hD (λ_ z _=>z=.bl true) (qh4 (K:=K) hu1) (by rw[qb5];exact qd5 (by lia)) (λ_ _ _ _ _ _ h=>h) ?_ ?_⟩
  ·intro j x H2 hj hx s2 Q' hq;obtain⟨m,hm,rfl⟩:=qi0 hx;exact⟨_,rfl,(m:Int),rfl,hq _ _ (Same.refl _) rfl⟩
  ·intro ys H2 s2 jR jK jM;have ey:=xc4 jM;rw[ey] at jR;refine⟨D,_,rfl,jR,_,rfl,?_⟩;rw[qT1];refine iteF ?_;have s12:=s1.trans s2;refine⟨_,rfl,_,rfl,t,n,tp,rows,rfl,hT.mono s12.tups,tok,λH3 a s3 ha st3=>?_⟩;obtain⟨xs,hx,hd⟩:=st3.datas;refine⟨a,xs,_,dS s,rfl,hx,hd,qQ3 ((s12.trans s3) _ _ hb),xr6 s,qC0 _,ZL (qZ6 s) (by decide),?_⟩;rw[xo1];have em:decide (s∈srt (qc1 tp rows))=decide (s∈qc1 tp rows):=by rw[Y4];exact (qo4 _).mem_iff
   rw[em];exact q H3 (s12.trans s3)
theorem xG4:FnScope ["rows", "step"] ["rows", "step"] (qa4 xk8):=qd9
def xr7:Sp:=λvs H Q _=>∃(p b:Addr) (rows:List Row) (s:Stp),vs=[.ref p,.ref b]/\RowsAt H p rows/\qb2 rows/\H b=some (.tup (qg2 s))/\s.at<rows.length/\∀H',Same H H'->Q (.int (nbP rows s:Nat)) H'
theorem xz0 {f:Addr}{fd:FuncData}(F:Fun K "number_behind" "number_behind" xk8 f fd) (T:Cst mg):FnOk P w K mg base CX0 1 f fd ["rows", "step"] xr7:=by
 obtain⟨tf,hf⟩:=T.first;refine F.ok xG4 (λvs H Q E h=>?_) (λcdv A outer s0 H vs Q E hr h=>?_)
 ·obtain⟨p,b,rows,s,rfl,_⟩:=h
  rfl
 ·obtain⟨p,b,rows,s,rfl,hR,ok,hb,hk,q⟩:=h;obtain⟨bs,hp,j9,jA⟩:=id hR;refine seqE ⟨_,⟨qf1 (qc0 q57 (pxN qd1 (pv 1) qa6) qT9 (qb7 _)) (qa8 (qb0 (qb3 qd3 (pxN qd1 (pv 1) qa6) (qd6 (v:=.int 2) (by rfl) hf ⟨_,rfl⟩)))) qb6⟩,?_⟩;refine qh3 ⟨_,⟨qb0 (pxN qd1 (pxN qd1 (pv 0) (pxN qd1 (pv 1) qa6)) qa6)⟩,?_⟩;have e0:atI (qg2 s) 0=some (.str (qk7 s)):=by cases s<;>rfl
  have low:∀(k:Nat),k<rows.length->atI (qg2 s) 1=some (.int (k:Nat))->Q (.int ((rows.getD k []).getD 0 0:Nat)) H->rIxT K (.ref b) (.int 1) H λy H1=>rIxT K (.ref p) y H1 λz H2=>rIxT K z (.int 0) H2 Q:=λk hk' e1 q'=>by
   have hbk:bs[k]?=some (bs[k]'(by lia)):=by simp[show k<bs.length by lia]
   have hg:=qd0 hk';have jQ:=jA k _ _ hbk hg;have r4:=(ok k _ hg).1;have h0:(rows.getD k [])[0]?=some ((rows.getD k []).getD 0 0):=by
    generalize rows.getD k []=r at r4
    match r,r4 with
    |x::_,_=>rfl
   exact⟨b,_,1,.int (k:Nat),rfl,rfl,SqT.of hb,e1,p,_,(k:Int),.ref (bs[k]'(by lia)),rfl,rfl,SqT.of hp,qe0 (by rw[Zb,hbk];rfl),_,_,0,.int ((rows.getD k []).getD 0 0:Nat),rfl,rfl,SqT.of jQ,qe0 (j:=0) (qT0 h0),q'⟩
  refine⟨_,rfl,b,_,0,.str (qk7 s),rfl,rfl,SqT.of hb,e0,?_⟩;have go:=q H (Same.refl _);refine⟨rfl,_,rfl,?_⟩;have n1:¬V.str "gone" = V.str "same":=λz=>absurd (V.str.inj z) (by decide);have n2:¬V.str "plain" = V.str "same":=λz=>absurd (V.str.inj z) (by decide);cases s with
  |gone k=>
   show if decide (V.str "gone" = V.str "same")=true then _ else _
   rw[Zq n1];exact iteF ⟨_,rfl,_,rfl,low k hk rfl go⟩
  |plain k=>
   show if decide (V.str "plain" = V.str "same")=true then _ else _
   rw[Zq n2];exact iteF ⟨_,rfl,_,rfl,low k hk rfl go⟩
  |same k j=>
   show if decide (V.str "same" = V.str "same")=true then _ else _
   rw[Zl rfl];exact iteT ⟨_,rfl,b,_,2,.int (j:Nat),rfl,rfl,SqT.of hb,rfl,_,_,rfl,rfl,go⟩
theorem scRenumL:FnScope ["row", "numbers"] ["row", "numbers"] (qa4 ql8):=qd9
def qZ8:Sp:=λvs H Q _=>∃(b g:Addr) (r:Row) (ns:List Nat),vs=[.ref b,.ref g]/\H b=some (.tup (vN r))/\r.length=4/\H g=some (.lst (vN ns))/\(∀x∈r,x<ns.length) /\
 ∀H' t,Same H H'->H' t=some (.tup (vN (r.map (ns.getD · 0))))->Q (.ref t) H'
theorem xg3 {f:Addr}{fd:FuncData}(F:Fun K "renumbered" "renumbered" ql8 f fd) (B:Blt mg):FnOk P w K mg base CX0 1 f fd ["row", "numbers"] qZ8:=by
 refine F.ok scRenumL (λvs H Q E h=>?_) (λcdv A outer s H vs Q E hr h=>?_)
 ·obtain⟨b,g,r,ns,rfl,_⟩:=h
  rfl
 ·obtain⟨b,g,r,ns,rfl,hb,r4,hg,hx,q⟩:=h;refine⟨_,qa8 (qb0 (qb4 qf4 (by rfl) B.tuple ZG (qa0 (qe9 ["row", "numbers"] (qa4 ql8) rfl rfl rfl scRenumL.nd (qi9 (pv 0)) (λcl C fp s₀ H₀=>pxN (ixL K rfl) (pv 2) (pv 0))) qa2))),?_⟩;refine⟨_,rfl,b,rfl,⟨_,SqT.of hb⟩,λD hD=>qe1 hD (λj z _=>∃x,r[j]?=some x/\z=.int (ns.getD x 0:Nat)) (qh4 (K:=K) hb) (by rw[qb5,r4];decide) (λ_ _ _ _ _ _ h=>h) ?_ ?_⟩
  ·intro j x H3 hj hx' s3 Q' hq;obtain⟨m,hm,rfl⟩:=qi0 hx';have jB:=hx m (Zm hm);have vY:ns[m]?=some (ns.getD m 0):=by rw[Zx,Zc jB];rfl
   exact⟨_,rfl,_,rfl,g,_,(m:Int),.int (ns.getD m 0:Nat),rfl,rfl,SqL.of (s3 _ _ hg),qs3 vY,hq _ _ (Same.refl _) ⟨m,hm,rfl⟩⟩
  ·intro ys H3 s3 k6 jK jM;have ey:ys=vN (r.map (ns.getD · 0)):=by
    refine qh5 (by rw[jK,qb5,qb5,Ze]) λj x hx=>?_;obtain⟨m,hm,rfl⟩:=jM j x hx;exact qT0 (by rw[Zb,hm];rfl)
   subst ey;exact⟨D,_,rfl,.inl ⟨SqL.of k6,λl hl=>q _ l (s3.trans (qb1 hl)) qa1⟩⟩
end
end Pr
namespace L2
open PySem
end L2
namespace Pr
open PySem L2
theorem xo2 {xs:List V}{a:Nat}(h:a<=xs.length):cutV xs (some (a:Int)) none=xs.drop a:=by
 unfold cutV;rw[HT.sIx_nat,HT.sIx_none,Nat.min_eq_left h,YA (by rw[WV];exact Zd _)]
theorem xG5 {xs:List V}{a:Nat}(h:a<=xs.length):cutV xs none (some (a:Int))=xs.take a:=by
 unfold cutV;rw[HT.sIx_nat,HT.sIx_none,Nat.min_eq_left h,List.drop_zero,Nat.sub_zero]
theorem qq5 {H H':Hp}{p:Addr}{o:HO}(h:H'=H\/H p=none/\H'=upd H p o):Same H H':=by
 rcases h with rfl|⟨h,rfl⟩
 ·exact Same.refl _
 ·exact qb1 h
end Pr
namespace L2
open PySem
section
variable {X:Cx}
variable {o e:Expr}{es:List Expr}{to:TE}{t:TA}{name:Str}{apos cpos:Pos}{id:String}{r:V->List V->Hp->VK->Prop}
end
end L2
namespace L2
open PySem PySem.Spec PyProof.Rows
theorem qq6 {prog:Program}{w:World}{A:Around}{E:Value->Shared->Prop}{s:Shared}{t sl:Addr}{items:Array Value}{vl vu:Value}{lo hi:Option Int}{Q:Value->Shared->Prop}(ht:IsTup s.heap t items) (hs:s.heap.IsSliceOf sl vl vu .none) (pl:IsPart vl lo) (pu:IsPart vu hi)
  (h0:HT.sIx items.size 0 lo=0) (h1:HT.sIx items.size items.size hi=items.size) (h:Q (.ref t) s):wpAny (model prog w) A (getItem (.ref t) (.ref sl)) Q E s:=by
 obtain⟨os,kZ,wT,vA⟩:=id hs;have hTs:s.TypeIs (.ref sl) "slice":=⟨os,kZ,wT⟩;unfold getItem
 try with_reducible refine Yg ?_
 first|refine Za (Zg ?_)|skip
 refine Za (wpAny_sequenceKey ht.typeIs (by decide) ?_);refine Za (ZY (name:=Str.ofString "__getitem__") ht.typeIs Yh
  (Yp Yh ht.typeIs entry_tuple_getitem ?_ (args_tuple_getitem _ _)))
 show wpAny _ _ (Builtin.Tuple.tupleItemsOf (.ref t) >>= _) _ _ s;refine Za (tupleItemsOf_ ht ?_);refine Za (WH hTs ?_);rw[Zp (by decide)];refine Za (HT.sliceApplied_gen hs pl pu ?_);show wpAny _ _ (if (((HT.sIx items.size 0 lo:Nat):Int)==0&&(1:Int)==1&&(HT.sIx items.size items.size hi-HT.sIx items.size 0 lo)==items.size)=true then _ else _) _ _ s;rw[Zp (by rw[h0,h1];simp)];refine Za ?_;unfold Builtin.Tuple.tupleIsExact;refine Za (WH ht.typeIs ?_);refine Zg ?_;rw[Zp (by decide)];refine Za (Xk ?_);exact Zg ⟨_,rfl,Zg h⟩
section
variable {X:Cx}
def rSlW (K:PySem.W.Frag):V->Option Int->Option Int->Hp->VK->Prop:=λx lo hi H Q=>∃a xs,x=.ref a/\SqT K H a xs/\HT.sIx xs.length 0 lo=0/\HT.sIx xs.length xs.length hi=xs.length/\Q (.ref a) H
theorem xz1:SlR X (rSlW X.K):=by
 intro j8 s σ H x v vl vu lo hi sl Q I rx hs pl pu h;obtain⟨a,xs,rfl,hx,h0,h1,q⟩:=h;cases rx;obtain⟨its,r,ht,hz⟩:=I.tuple hx;have j9:its.toArray.size=xs.length:=by rw[ZF];exact r.length.symm
 refine⟨"tuple",_,Yh.lookup,ht.typeIs,?_⟩;exact qq6 ht hs pl pu (by rw[j9];exact h0) (by rw[j9];exact h1) ⟨.ref a,H,I,rfl,q⟩
theorem xg4:SlR X (λx lo hi H Q=>∃a xs,x=.ref a/\H a=some (.tup xs)/\∀p H',H' p=some (.tup (cutV xs lo hi))->(H'=H\/H p=none/\H'=upd H p (.tup (cutV xs lo hi)))->Q (.ref p) H'):=by
 intro j8 s σ H x v vl vu lo hi sl Q I rx hs pl pu h;obtain⟨a,xs,ex,ha,q⟩:=h;by_cases hc:HT.sIx xs.length 0 lo=0/\HT.sIx xs.length xs.length hi=xs.length
 ·refine xz1 j8 s σ H x v vl vu lo hi sl Q I rx hs pl pu ⟨a,xs,ex,SqT.of ha,hc.1,hc.2,q a H ?_ (.inl rfl)⟩;have:cutV xs lo hi=xs:=by unfold cutV;rw[hc.1,hc.2];simp
  rw[this];exact ha
 ·exact qU5 j8 s σ H x v vl vu lo hi sl Q I rx hs pl pu ⟨a,xs,ex,SqT.of ha,hc,λp hp=>q p _ qa1 (.inr ⟨hp,rfl⟩)⟩
theorem xo3:OpR X (binaryOp .Add) (λx y H Q=>∃a b ys,x=.ref a/\y=.ref b/\H a=some (.tup [])/\H b=some (.tup ys)/\Q (.ref b) H):=by
 intro j8 s σ H x y v u Q I rx ry h;obtain⟨a,b,ys,rfl,rfl,ha,hb,q⟩:=h;cases rx;cases ry;obtain⟨its,r1,p1,_⟩:=I.tuple (SqT.of ha);obtain⟨its2,r2,p2,_⟩:=I.tuple (SqT.of hb);cases r1;obtain⟨⟨cls,dd,data,sl⟩,ho,hc,n,hd⟩:=id p1;obtain⟨⟨cls2,dd2,data2,sl2⟩,vW,vH,n2,jR⟩:=id p2;simp only at hc hd vH jR;subst hc hd vH jR;exact concat_meets ⟨_,ho,rfl⟩ ⟨_,vW,rfl⟩ noFill_tuple_add seq_tuple_add WG Wz (Wn _ _)
   (tuple_addW0 a b #[] its2.toArray n n2 dd dd2 sl sl2 rfl) ⟨ho,vW,⟨.ref b,H,I,rfl,q⟩⟩
theorem xo4:OpR X (binaryOp .Add) (λx y H Q=>∃a b xs ys,x=.ref a/\y=.ref b/\H a=some (.tup xs)/\H b=some (.tup ys)/\xs.length+ys.length<=sizeLine /\
  ∀p H',H' p=some (.tup (xs++ys))->(H'=H\/H p=none/\H'=upd H p (.tup (xs++ys)))->Q (.ref p) H'):=by
 intro j8 s σ H x y v u Q I rx ry h;obtain⟨a,b,xs,ys,ex,ey,ha,hb,hz,q⟩:=h;by_cases hx:xs=[]
 ·subst hx;exact xo3 j8 s σ H x y v u Q I rx ry ⟨a,b,ys,ex,ey,ha,hb,q b H hb (.inl rfl)⟩
 ·refine xt0 j8 s σ H x y v u Q I rx ry ⟨a,b,xs,ys,ex,ey,SqT.of ha,SqT.of hb,hx,hz,λe=>?_,λ_ p hp=>q p _ qa1 (.inr ⟨hp,rfl⟩)⟩;subst e;exact q a H (by rw[XV];exact ha) (.inl rfl)
end
end L2
namespace Pr
open PySem L2 Qf
theorem xr8 (a b:List Nat):vN a++vN b=vN (a++b):=by unfold vN;rw[ZW]
theorem RowsAt.left {H:Hp}{p:Addr}{rows:List Row}{bs:List Addr}{k:Nat}(jA:∀(i:Nat) b r,bs[i]?=some b->rows[i]?=some r->H b=some (.tup (vN r))) (hl:bs.length=rows.length)
  (hp:H p=some (.tup ((bs.map V.ref).take k++(bs.map V.ref).drop (k+1)))):∃cs:List Addr,H p=some (.tup (cs.map V.ref))/\cs.length=(qm0 k rows).length/\∀(i:Nat) b r,cs[i]?=some b->(qm0 k rows)[i]?=some r->H b=some (.tup (vN r)):=by
 refine⟨bs.take k++bs.drop (k+1),by rw[ZW,List.map_take,List.map_drop];exact hp,by unfold qm0;simp[hl],λi b r e1 e2=>?_⟩;unfold qm0 at e2;by_cases c:i<(bs.take k).length
 ·rw[Zh c] at e1;have c2:i<(rows.take k).length:=by simp at c ⊢;lia
  rw[Zh c2] at e2;have hk:i<k:=by simp at c;lia
  rw[YH hk] at e1 e2;exact jA i b r e1 e2
 ·rw[Zi (by lia)] at e1;have c2:(rows.take k).length=(bs.take k).length:=by simp[hl]
  rw[Zi (by lia),c2] at e2;rw[Vs] at e1 e2;exact jA _ b r e1 e2
section
variable {P:Program}{w:World}{K:PySem.W.Frag}{mg:Str->Option Value}{base:Heap}
abbrev nStp:List Str:=["telling", "step", "n", "top", "rows", "k", "numbers", "left"]
theorem scStepped:FnScope nStp ["telling", "step"] (qa4 qs0):=qd9
def qQ4:Sp:=λvs H Q _=>∃(t b:Addr) (n tp:Nat) (rows:List Row) (s:Stp),vs=[.ref t,.ref b]/\TellAt H t n tp rows/\qg1 n tp rows/\H b=some (.tup (qg2 s))/\s∈qc1 tp rows /\
 ∀H' t',Same H H'->TellAt H' t' n (ren s.at (nbP rows s) tp) (qc5 s.at (nbP rows s) rows)->Q (.ref t') H'
theorem q44 {f fW fI fN fR:Addr}{fd fdW fdI fdN fdR:FuncData}(F:Fun K "stepped" "stepped" qs0 f fd) (B:Blt mg) (T:Cst mg)
  (hW:mg "want_telling" = some (.ref fW)) (FW:Fun K "want_telling" "want_telling" qu8 fW fdW) (bW:Binds K fdW ["telling"] []) (GW:FnOk P w K mg base CX0 6 fW fdW ["telling"] qx5)
  (hI:mg "is_step" = some (.ref fI)) (FI:Fun K "is_step" "is_step" qA4 fI fdI) (bI:Binds K fdI ["telling", "thing"] []) (GI:FnOk P w K mg base CX0 8 fI fdI ["telling", "thing"] qZ7)
  (hN:mg "number_behind" = some (.ref fN)) (FN:Fun K "number_behind" "number_behind" xk8 fN fdN) (bN:Binds K fdN ["rows", "step"] [])
  (hR:mg "renumbered" = some (.ref fR)) (FR:Fun K "renumbered" "renumbered" ql8 fR fdR) (bR:Binds K fdR ["row", "numbers"] []):FnOk P w K mg base CX0 9 f fd ["telling", "step"] qQ4:=by
 have GN:FnOk P w K mg base CX0 1 fN fdN ["rows", "step"] xr7:=xz0 FN T;have GR:FnOk P w K mg base CX0 1 fR fdR ["row", "numbers"] qZ8:=xg3 FR B;obtain⟨tf,hf⟩:=T.first;refine F.ok scStepped (λvs H Q E h=>?_) (λcdv A outer s0 H vs Q E hr h=>?_)
 ·obtain⟨t,b,n,tp,rows,s,rfl,_⟩:=h
  rfl
 ·obtain⟨t,b,n,tp,rows,s,rfl,hT,tok,hb,hs,q⟩:=h;have jF:Room 1 _:=hr.mono (by decide);have hr6:Room 6 _:=hr.mono (by decide);refine seqE ⟨_,⟨qf0 (pcN GW hr6 hW FW.kp bW (qa0 (pv 0) qa2))⟩,?_⟩;refine seqE ⟨_,⟨qf1 (qg9 (qe6 (pcN GI hr hI FI.kp bI (qa0 (pv 0) (qa0 (pv 1) qa2))))) qf7 qb6⟩,?_⟩;refine seqE ⟨_,⟨qo9 (pv 0) (qo8 rfl (qc3 (pgN 2 scStepped.nd) (qc3 (pgN 3 scStepped.nd) (qc3 (pgN 4 scStepped.nd) qj7))))⟩,?_⟩;refine seqE ⟨_,⟨psN 5 scStepped.nd (pxN qd1 (pv 1) qa6)⟩,?_⟩;refine seqE ⟨_,⟨psN 6 scStepped.nd (PEb.go ⟨qb3 qU7 (PEb.go ⟨qb3 qU7 (PEb.go ⟨qb4 (qE0 rfl) (by rfl) B.list Xh (qa0 (qb4 qw0 (by rfl) B.range WC (qa0 (qb3 qd3 (pv 5) (qd6 (v:=.int 2) (by rfl) hf ⟨_,rfl⟩)) qa2)) qa2)⟩)
   (qf6 (qa0 (pcN GN jF hN FN.kp bN (qa0 (pv 4) (qa0 (pv 1) qa2))) qa2))⟩)
   (PEb.go ⟨qb4 (qS9 rfl) (by rfl) B.list Xh (qa0 (qb4 qO1 (by rfl) B.range WC (qa0 (qb3 qd3 (pv 5) (qd6 (v:=.int 2) (by rfl) hf ⟨_,rfl⟩)) (qa0 (qb3 qd3 (qa7 qa9 (by rfl) B.len ZM (qa0 (pv 4) qa2)) qa6) qa2))) qa2)⟩)⟩)⟩,?_⟩
  refine seqE ⟨_,⟨psN 7 scStepped.nd (PEb.go ⟨qb3 xo4 (qq9 xg4 (pv 4) qy5 (qy6 (pv 5))) (qq9 xg4 (pv 4) (qy6 (qb3 qd3 (pv 5) qa6)) qy5)⟩)⟩,?_⟩;refine qh3 ⟨_,⟨qb0 (ql7 (Ars2.go (.cons ⟨pv 2⟩ (.cons ⟨pxN qd7 (pv 6) (pv 3)⟩ (.cons ⟨qb4 qf4 (by rfl) B.tuple ZG (qa0 (qe9 nStp (qa4 qs0) rfl rfl rfl scStepped.nd (qi9 (pv 7)) (λcl C fp s₀ H₀=>pcN GR jF hR FR.kp bR (qa0 (pv 0) (qa0 (pv 7) qa2)))) qa2)⟩ .nil rfl) rfl) rfl)))⟩,?_⟩;refine⟨_,rfl,t,n,tp,rows,rfl,hT,tok,λH1 s1=>?_⟩;refine⟨_,rfl,_,rfl,t,b,n,tp,rows,s,rfl,hT.mono s1.tups,tok,s1 _ _ hb,λH2 s2=>⟨_,rfl,?_⟩⟩;rw[Zl hs];refine iteF ?_;have S2:=s1.trans s2;obtain⟨p,ht,hRw⟩:=id hT;obtain⟨bs,hp,j9,jA⟩:=id hRw;have jI:(bs.map V.ref).length=rows.length:=by rw[Ze];exact j9
  have hk:=xm8 hs;obtain⟨c1,ok,c3,c4,c5⟩:=tok;have e1:atI (qg2 s) 1=some (.int (s.at:Nat)):=by cases s<;>rfl
  refine⟨_,rfl,t,_,rfl,SqT.of (S2 _ _ ht),rfl,_,_,rfl,_,_,rfl,_,_,rfl,rfl,?_⟩;refine⟨_,rfl,b,_,1,.int (s.at:Nat),rfl,rfl,SqT.of (S2 _ _ hb),e1,?_⟩;generalize hkk:s.at=k at hk q e1;generalize hnn:nbP rows s=nb at q;refine⟨_,rfl,_,_,rfl,rfl,_,rfl,λr1 hr1'=>⟨r1,k+2,rfl,qa1,by lia,λl1 hl1=>?_⟩⟩;have S3:=(S2.trans (qb1 (o:=.rng 0 ((k:Int)+2)) hr1')).trans (qb1 (o:=.lst ((List.range (k+2)).map λ(i:Nat)=>V.int (i:Int))) hl1);have h3:upd (upd H2 r1 (.rng 0 ((k:Int)+2))) l1 (.lst ((List.range (k+2)).map λ(i:Nat)=>V.int (i:Int))) l1=some (.lst (vN (List.range (k+2)))):=qa1;refine (λ(go:∀H3,Same H H3->H3 l1=some (.lst (vN (List.range (k+2))))->_)=>go _ S3 h3) ?_;intro H3 S3 h3;refine⟨_,rfl,_,rfl,p,b,rows,s,rfl,hRw.same S3,ok,S3 _ _ hb,by rw[hkk];exact hk,λH4 s4=>⟨(by show 1<=sizeLine;decide),λl2 jW=>?_⟩⟩;rw[hnn];have S5:=(S3.trans s4).trans (qb1 (o:=.lst [.int (nb:Nat)]) jW);have h5:=qc2 (u:=.lst [.int (nb:Nat)]) (s4 _ _ h3) jW;have h5b:upd H4 l2 (.lst [.int (nb:Nat)]) l2=some (.lst (vN [nb])):=qa1;refine (λ(go:∀H5,Same H H5->H5 l1=some (.lst (vN (List.range (k+2))))->H5 l2=some (.lst (vN [nb]))->_)=>go _ S5 h5 h5b) ?_;intro H5 S5 h5 h5b;refine⟨l1,l2,_,_,rfl,rfl,h5,h5b,by rw[qb5,qb5];simp only[Xe,YY];exact Y6 (qd5 (by lia)),λl3 wQ=>?_⟩;rw[xr8];have S6:=S5.trans (qb1 (o:=.lst (vN (List.range (k+2)++[nb]))) wQ);have h6:upd H5 l3 (.lst (vN (List.range (k+2)++[nb]))) l3=some (.lst (vN (List.range (k+2)++[nb]))):=qa1;refine (λ(go:∀H6,Same H H6->H6 l3=some (.lst (vN (List.range (k+2)++[nb])))->_)=>go _ S6 h6) ?_;intro H6 S6 h6;have er:HO.rng ((k:Int)+2) (((bs.map V.ref).length:Int)+1)=HO.rng ((k+2:Nat):Int) ((k+2+(rows.length+1-(k+2)):Nat):Int):=by
   rw[jI];congr 1;lia
  refine⟨_,rfl,_,_,rfl,rfl,_,rfl,p,_,rfl,.inr (SqT.of (S6 _ _ hp)),_,_,rfl,rfl,_,_,rfl,λr2 kH=>?_⟩;rw[er];refine⟨r2,k+2,rows.length+1-(k+2),rfl,qa1,by lia,λl4 hl4=>?_⟩;have e4:((List.range (rows.length+1-(k+2))).map λ(i:Nat)=>V.int ((k+2+i:Nat):Int))=vN ((List.range (rows.length+1-(k+2))).map (k+2+·)):=by unfold vN;rw[Ym];rfl
  rw[e4];have S7:=(S6.trans (qb1 (o:=.rng ((k+2:Nat):Int) ((k+2+(rows.length+1-(k+2)):Nat):Int)) kH)).trans (qb1 (o:=.lst (vN ((List.range (rows.length+1-(k+2))).map (k+2+·)))) hl4);have h7:=qc2 (u:=.lst (vN ((List.range (rows.length+1-(k+2))).map (k+2+·)))) (qc2 (u:=.rng ((k+2:Nat):Int) ((k+2+(rows.length+1-(k+2)):Nat):Int)) h6 kH) hl4;have h7b:upd (upd H6 r2 (.rng ((k+2:Nat):Int) ((k+2+(rows.length+1-(k+2)):Nat):Int))) l4 (.lst (vN ((List.range (rows.length+1-(k+2))).map (k+2+·)))) l4=some (.lst (vN ((List.range (rows.length+1-(k+2))).map (k+2+·)))):=qa1;refine (λ(go:∀H7,Same H H7->H7 l3=some (.lst (vN (List.range (k+2)++[nb])))->H7 l4=some (.lst (vN ((List.range (rows.length+1-(k+2))).map (k+2+·))))->_)=>go _ S7 h7 h7b) ?_;intro H7 S7 h7 h7b;refine⟨l3,l4,_,_,rfl,rfl,h7,h7b,by rw[qb5,qb5];simp only[Zr,Ze,Xe,YY];exact Y6 (qd5 (by lia)),λl5 hl5=>?_⟩;rw[xr8,xx4 hk];have S8:=S7.trans (qb1 (o:=.lst (vN ((List.range (rows.length+2)).map (ren k nb)))) hl5);have h8:upd H7 l5 (.lst (vN ((List.range (rows.length+2)).map (ren k nb)))) l5=some (.lst (vN ((List.range (rows.length+2)).map (ren k nb)))):=qa1;refine (λ(go:∀H8,Same H H8->H8 l5=some (.lst (vN ((List.range (rows.length+2)).map (ren k nb))))->_)=>go _ S8 h8) ?_;intro H8 S8 h8;have get:∀x,x<rows.length+2->((List.range (rows.length+2)).map (ren k nb)).getD x 0=ren k nb x:=λx hx=>by
   rw[Zx,Zb,Yc hx];rfl
  have gat:∀x,x<rows.length+2->((List.range (rows.length+2)).map (ren k nb))[x]?=some (ren k nb x):=λx hx=>by
   rw[Zb,Yc hx];rfl
  refine⟨_,rfl,_,rfl,_,rfl,p,_,rfl,S8 _ _ hp,λu1 H9 hu1 o1=>?_⟩;rw[xG5 (by rw[jI];lia)] at hu1;have S9:=S8.trans (qq5 o1);have h9:=(qq5 o1) _ _ h8;refine⟨_,rfl,_,rfl,_,_,rfl,rfl,_,rfl,p,_,rfl,S9 _ _ hp,λu2 HA kU o2=>?_⟩;have ecut:cutV (bs.map V.ref) (some ((k:Int)+1)) none=(bs.map V.ref).drop (k+1):=by
   have:=xo2 (xs:=bs.map V.ref) (a:=k+1) (by rw[jI];lia)
   rwa [show ((k+1:Nat):Int)=(k:Int)+1 by lia] at this
  rw[ecut] at kU;have SA:=S9.trans (qq5 o2);have hA5:=(qq5 o2) _ _ h9;have hu1A:=(qq5 o2) _ _ hu1;refine⟨u1,u2,_,_,rfl,rfl,hu1A,kU,by rw[ZX,WV,jI];exact Y6 (qd5 (by lia)),λu3 HB vV o3=>?_⟩;have SB:=SA.trans (qq5 o3);have hB5:=(qq5 o3) _ _ hA5;obtain⟨cs,wT,kP,w6⟩:=RowsAt.left (H:=HB) (p:=u3) (rows:=rows) (bs:=bs) (k:=k) (λi c r e1 e2=>SB _ _ (jA i c r e1 e2)) j9 vV;have hll:=qY4 hk;refine⟨_,rfl,_,rfl,_,rfl,l5,_,(tp:Int),.int (ren k nb tp:Nat),rfl,rfl,SqL.of hB5,qs3 (gat tp c4),?_⟩;have xlt:∀(i:Nat) r,(qm0 k rows)[i]?=some r->r.length=4/\∀x∈r,x<rows.length+2:=λi r e=>by
   by_cases c:i<k
   ·rw[qJ4 hk c] at e;have rk:=ok _ _ e;exact⟨rk.1,λx hx=>by have:=rk.2 x hx;lia⟩
   ·rw[qJ5 hk (by lia)] at e;have rk:=ok _ _ e;have hi:=(gS_ e).1;exact⟨rk.1,λx hx=>by have:=rk.2 x hx;lia⟩
  have hclb:(cs.map V.ref).length=(qm0 k rows).length:=by rw[Ze];exact kP
  refine⟨_,rfl,u3,rfl,⟨_,SqT.of wT⟩,λD hD=>qe1 hD (λj z H3=>∃c r,z=.ref c/\(qm0 k rows)[j]?=some r/\H3 c=some (.tup (vN (r.map (ren k nb))))) (qh4 (K:=K) wT) (by rw[hclb,hll];exact qd5 (by lia)) (λj z H1 H2 _ tk ⟨c,r,h1,h2,h3⟩=>⟨c,r,h1,h2,tk _ _ h3⟩) ?_ ?_⟩
  ·intro j x HC hj hx sC Q' hq;rw[Zb] at hx;obtain⟨c,hc,rfl⟩:=Zj.mp hx;have hjl:j<(qm0 k rows).length:=by rw[<- kP];exact (gS_ hc).1
   have hg:(qm0 k rows)[j]?=some (qm0 k rows)[j]:=Zc hjl;obtain⟨x4,xl⟩:=xlt j _ hg;refine⟨_,rfl,_,rfl,c,l5,_,_,rfl,sC _ _ (w6 j c _ hc hg),x4,sC _ _ hB5,λx hx=>by simpa using xl x hx,λHD d sD hd=>hq _ _ sD ⟨d,_,rfl,hg,?_⟩⟩;rw[hd];congr 3;exact Yj λx hx=>get x (xl x hx)
  ·intro ys HC sC hdC jK jM;rw[hclb] at jK;obtain⟨ds,rfl⟩:=xx0 (ys:=ys) λj y hy=>by
    obtain⟨c,r,z,_⟩:=jM j y hy;exact⟨c,z⟩
   refine⟨D,_,rfl,.inl ⟨SqL.of hdC,λl hl=>⟨(by show 3<=sizeLine;decide),λt' ht'=>?_⟩⟩⟩;have SE:=((SB.trans sC).trans (qb1 (o:=.tup (ds.map V.ref)) hl)).trans (qb1 (o:=.tup [.int (n:Nat),.int (ren k nb tp:Nat),.ref l]) ht');refine q _ t' SE ⟨l,qa1,ds,qc2 qa1 ht',?_,λi c r e1 e2=>?_⟩
   ·rw[Ze] at jK;unfold qc5;rw[Ze,jK]
   ·obtain⟨c',r',e3,e4,e5⟩:=jM i (.ref c) (by rw[Zb,e1];rfl);cases e3;rw[qo5,e4] at e2;cases e2;exact qc2 (qc2 e5 hl) ht'
end
end Pr
namespace Qf
open Tr
theorem qZ9 {rows:List Row}{L:List Tr}(h:qw4 L):∀i,qw4 (insG rows L i)
 |0=>h
 |i+1=>xx9 (qZ9 h i) (qp2 _)
end Qf
namespace Pr
open PySem L2 Qf
section
variable {P:Program}{w:World}{K:PySem.W.Frag}{mg:Str->Option Value}{base:Heap}
abbrev xL0:List Str:=["telling", "n", "top", "rows", "book", "numbers"]
theorem scOneT:FnScope xL0 ["telling"] (qa4 xb7):=qd9
def xg5:Sp:=λvs H Q _=>∃(t:Addr) (n tp:Nat) (rows:List Row),vs=[.ref t]/\TellAt H t n tp rows/\qg1 n tp rows /\
 ∀H' t',Same H H'->TellAt H' t' n (cTop (Qf.TR rows tp)) (qn5 (Qf.TR rows tp))->(qn5 (Qf.TR rows tp)).length<=rows.length->Q (.ref t') H'
theorem xz2 {f fW fB fS fNs C:Addr}{fd fdW fdB fdS fdNs:FuncData}(F:Fun K "one_telling" "one_telling" xb7 f fd) (TB:BookIn K mg C)
  (hW:mg "want_telling" = some (.ref fW)) (FW:Fun K "want_telling" "want_telling" qu8 fW fdW) (bW:Binds K fdW ["telling"] []) (GW:FnOk P w K mg base CX0 6 fW fdW ["telling"] qx5)
  (MB:Mk K C fB) (FB:Fun K "__init__" "Book.__init__" qI1 fB fdB) (bB:Binds K fdB ["self"] [])
  (MN:Meth K C "numbers_for" fNs) (FNs:Fun K "numbers_for" "Book.numbers_for" qI2 fNs fdNs) (bNs:Binds K fdNs ["self", "rows"] []) (GN:FnOk P w K mg base CX0 4 fNs fdNs ["self", "rows"] (xy9 C))
  (hS:mg "shape_of" = some (.ref fS)) (FS:Fun K "shape_of" "shape_of" qx0 fS fdS) (bS:Binds K fdS ["n", "top", "rows"] []) (GS:FnOk P w K mg base CX0 15 fS fdS ["n", "top", "rows"] spSO) :
  FnOk P w K mg base CX0 16 f fd ["telling"] xg5:=by
 have GB:FnOk P w K mg base CX0 1 fB fdB ["self"] (xE7 C):=xE8 FB TB;refine F.ok scOneT (λvs H Q E h=>?_) (λcdv A outer s H vs Q E hr h=>?_)
 ·obtain⟨t,n,tp,rows,rfl,_⟩:=h
  rfl
 ·obtain⟨t,n,tp,rows,rfl,hT,tok,q⟩:=h;have kH:Room 2 _:=hr.mono (by decide);have hr4:Room 4 _:=hr.mono (by decide);have hr6:Room 6 _:=hr.mono (by decide);refine seqE ⟨_,⟨qf0 (pcN GW hr6 hW FW.kp bW (qa0 (pv 0) qa2))⟩,?_⟩;refine seqE ⟨_,⟨qo9 (pv 0) (qo8 rfl (qc3 (pgN 1 scOneT.nd) (qc3 (pgN 2 scOneT.nd) (qc3 (pgN 3 scOneT.nd) qj7))))⟩,?_⟩;refine seqE ⟨_,⟨psN 4 scOneT.nd (xi2 MB GB kH (by rfl) TB.mgC bB .nil q74)⟩,?_⟩;refine seqE ⟨_,⟨psN 5 scOneT.nd (q65 (pv 4) TB.cl MN GN hr4 bNs .nil q74 (qa0 (pv 3) qa2))⟩,?_⟩;refine qh3 ⟨_,⟨qb0 (pcN GS hr hS FS.kp bS (Ars2.go (.cons ⟨pv 1⟩ (.cons ⟨pxN qd7 (pv 5) (pv 2)⟩ (.cons ⟨qD2 (pv 4) rfl⟩ .nil rfl) rfl) rfl)))⟩,?_⟩;refine⟨_,rfl,t,n,tp,rows,rfl,hT,tok,λH1 s1=>?_⟩;obtain⟨rp,ht,hR⟩:=hT.mono s1.tups;obtain⟨hn,ok,hl,jO,hd⟩:=tok;refine⟨_,rfl,t,_,rfl,SqT.of ht,rfl,_,_,rfl,_,_,rfl,_,_,rfl,rfl,?_⟩;intro b dx hb vG jH;refine⟨b,dx,rfl,qa1,λkk dd H3 hkk wS hB3 b3=>⟨rfl,?_⟩⟩;have N1:∀x,upd (upd H1 dx (.own b)) b (.ins C dx []) x=none->H1 x=none:=λx e=>by
   have n1:x≠b:=λz=>by rw[z,qa1] at e;cases e
   rw[qa5 n1] at e;have n2:x≠dx:=λz=>by rw[z,qa1] at e;cases e
   rw[qa5 n2] at e;exact e
  have S3:Same H1 H3:=λx o e=>b3 _ _ (by rw[qa5 (qa3 e hb),qa5 (qa3 e vG)];exact e) (qa3 e hb);obtain⟨⟨dx3,hob3⟩,_⟩:=id hB3;have wI:RowsAt H3 rp rows:=hR.mono S3.tups;refine⟨_,rfl,b,dx3,_,rfl,hob3,qY6 _ _ (by decide +kernel) (by decide +kernel),_,rfl,b,kk,dd,rp,[],rows,rfl,hB3,wI,ok,by simp;lia,λH4 g hg B4 hB4 hg4=>?_⟩;have S4:Same H1 H4:=λx o e=>B4 _ _ (S3 _ _ e) (qa3 e (N1 _ hkk)) (qa3 e (N1 _ wS));obtain⟨⟨dxb,wA⟩,hk4,kA,od4⟩:=id hB4;have jJ:Tr.In (insG rows [] rows.length) (Qf.TR rows tp):=qn6 rows.length tp jO;have hgt:(nmsG rows [] rows.length)[tp]?=some (Tr.name (insG rows [] rows.length) (Qf.TR rows tp)):=by
   unfold nmsG;rw[Zb,Yc jO]
   rfl
  obtain⟨e4,vZ,hl4⟩:=qK6 rows [] rows.length;have hlen4:(insG rows [] rows.length).length<=rows.length:=by rw[vZ];simpa using hl4
  have jG:qw4 (insG rows [] rows.length):=qZ9 (λt ht=>by cases ht) rows.length;generalize hLL:insG rows [] rows.length=L at hk4 kA od4 jJ hgt hlen4 jG;refine⟨_,rfl,_,rfl,_,rfl,g,_,(tp:Int),.int (Tr.name L (Qf.TR rows tp):Nat),rfl,rfl,SqL.of hg4,qs3 hgt,?_⟩;refine⟨_,rfl,b,C,dxb,_,_,rfl,wA,TB.cl,TB.nK,qv4 _ _,?_⟩;have hred:Tr.Red (Qf.TR rows tp):=qp2 _;have hdep:Tr.dep (Qf.TR rows tp)<=n:=qZ0 ok jO hd;have hxL:Tr.name L (Qf.TR rows tp)<(Tr.rowsOf L).length+2:=by
   rw[Tr.rowsOf_len];rcases Tr.name_in od4 jJ with ⟨_,e⟩|⟨_,e⟩|⟨i,hi,e⟩
   ·lia
   ·lia
   ·have:=(gS_ hi).1;lia
  have hL900:(Tr.rowsOf L).length<=1190900:=by
   rw[Tr.rowsOf_len];lia
  have hdpL:dp (Tr.rowsOf L) (Tr.name L (Qf.TR rows tp))<=n:=by rw[qv2 od4 _ jJ];exact hdep
  have hokL:=Tr.rowsOf_ok od4;obtain⟨cn2,hT2⟩:=qF1 (n:=n) hn hokL hxL hdpL (qp1 od4 jG) (Tr.rowsOf_nodup od4);have kG:=qo2 (qe7 hokL n [] _ (qg5 _) hxL hdpL).1;obtain⟨bs4,hks,hbl4,k8⟩:=hk4;refine⟨kk,n,_,Tr.rowsOf L,rfl,⟨bs4,.inr hks,hbl4,k8⟩,hokL,hL900,hxL,hn,hdpL,λH5 t5 s5 tell=>?_⟩;obtain⟨g1,g2⟩:=qT5 cn2;have e3:Qf.TR (told (Tr.rowsOf L) (dfs (Tr.rowsOf L) n [] (Tr.name L (Qf.TR rows tp)))) (nm (dfs (Tr.rowsOf L) n [] (Tr.name L (Qf.TR rows tp))) (Tr.name L (Qf.TR rows tp)))=Qf.TR rows tp:=by
   show rd (T _ _)=_;rw[hT2,qw3 od4 _ jJ];exact qP8 hred
  rw[e3] at g1 g2;rw[Tr.rowsOf_len] at kG;have jB:=Yt List.length g2;rw[qe8] at jB;rw[g1,g2] at tell;exact q H5 t5 (s1.trans (S4.trans s5)) tell (by lia)
theorem xr9 {n tp:Nat}{rows:List Row}(h:qg1 n tp rows) (hl:(qn5 (Qf.TR rows tp)).length<=rows.length):qg1 n (cTop (Qf.TR rows tp)) (qn5 (Qf.TR rows tp)):=by
 obtain⟨c1,c2,c3,c4,c5⟩:=h;have c:=xf6 c1 (qp2 (T rows tp)) (qZ0 c2 c4 c5);exact⟨c1,c.rok,ZL hl c3,c.inn,c.deep⟩
end
end Pr
namespace L2
open PySem
theorem xg6 {H:Hp}{n:Nat}{te:TE}{σ:St}{Fin:Hp->Prop}{D:Addr}(Iv:Nat->List V->Hp->Prop) (hsz:n<sizeLine) (i0:Iv 0 [] (upd H D (.lst []))) (hD:∀i xs H2,Iv i xs H2->H2 D=some (.lst xs)/\xs.length<=i)
  (step:∀i xs H2,i<n->Iv i xs H2->∀Q2:VK,(∀v H3,H3 D=some (.lst xs)->Iv (i+1) (xs++[v]) (upd H3 D (.lst (xs++[v])))->Q2 v H3)->te (some (.int (0+(i:Int)))::σ) H2 Q2)
  (fin:∀xs H2,Iv n xs H2->Fin H2) :
  ∃W:Nat->Nat->List V->Hp->Prop,(∃m,W 0 m [] (upd H D (.lst []))) /\
   ∀i m xs H2,W i m xs H2->H2 D=some (.lst xs)/\xs.length<sizeLine/\(((Itr 0 n).stop i H2/\Fin H2)\/((Itr 0 n).go i H2/\∀y H3,(Itr 0 n).yld i H2 y H3->∀os:St,os.length=1 ->
    qg7 0 y (os++σ) H3 λσ4 H4=>q19 σ4 H4 λb H5=>if b=true then te σ4 H5 λv H6=>H6 D=some (.lst xs)/\∃m',m'<m/\W (i+1) m' (xs++[v]) (upd H6 D (.lst (xs++[v]))) else ∃m',m'<m/\W (i+1) m' xs H5)):=by
 obtain⟨W,w0,w⟩:=xl6 (te:=te) (σ:=σ) Iv hsz i0 hD step fin;refine⟨W,w0,λi m xs H2 h=>?_⟩;obtain⟨h1,h2,h3⟩:=w i m xs H2 h;refine⟨h1,h2,h3.imp id λ⟨g,y⟩=>⟨g,λx H3 hx os ho=>?_⟩⟩
 match os,ho with
 |[o],_=>
  show (if (true:Bool)=true then te (some x::σ) H3 (λv H6=>H6 D=some (.lst xs)/\∃m',m'<m/\W (i+1) m' (xs++[v]) (upd H6 D (.lst (xs++[v])))) else ∃m',m'<m/\W (i+1) m' xs H3);rw[Zp rfl];exact y x H3 hx
end L2
namespace Qf
theorem xz3:∀{k:Nat}{boxes:List Row}{r c:Nat},met boxes r c (2^k)=[]->bt k boxes r c=.z
 |0,_,_,_,h=>Zp h
 |_+1,_,_,_,h=>Zp h
theorem xz4:∀{k:Nat}{boxes:List Row}{r c:Nat},met boxes r c (2^k)≠[]->(met boxes r c (2^k)).any (hasB r c (2^k))=true->bt k boxes r c=.o
 |0,_,_,_,h,g=>(Zk h).trans (Zp g)
 |_+1,_,_,_,h,g=>(Zk h).trans (Zp g)
end Qf
namespace Pr
open PySem L2 Qf
section
variable {P:Program}{w:World}{K:PySem.W.Frag}{mg:Str->Option Value}{base:Heap}
abbrev qQ5:List Str:=["_law_rows", "_law_boxes", "_law_row_here", "_law_column", "_law_side"]
abbrev nNum:List Str:=["_law_rows", "_law_boxes", "_law_row_here", "_law_column", "_law_side", "_law_met", "_law_half", "_law_quarters"]
theorem scNum:FnScope nNum qQ5 (qa4 qm9):=qd9
def xo5 (k:Nat):Sp:=λvs H Q _=>∃(e bp:Addr) (boxes:List Row) (r c:Nat) (L:List Tr),vs=[.ref e,.ref bp,.int (r:Nat),.int (c:Nat),.int ((2^k:Nat):Int)]/\RowsL H bp boxes/\(∀b∈boxes,b.length=4)/\boxes.length<=900/\bp≠e/\Tr.Ord L /\
 H e=some (.dT (tK (Tr.rowsOf L)))/\L.length+sz k<=6000000/\∀H',But e H H'->H' e=some (.dT (tK (Tr.rowsOf (Tr.post (bt k boxes r c) L))))->Q (.int (Tr.name (Tr.post (bt k boxes r c) L) (bt k boxes r c):Nat)) H'
theorem xg7 {f fM fH:Addr}{fd fdM fdH:FuncData}(F:Fun K "_law_number" "_law_number" qm9 f fd) (B:Blt mg) (hN:mg "_law_number" = some (.ref f)) (bN:Binds K fd qQ5 [])
  (hM:mg "_law_meets" = some (.ref fM)) (FM:Fun K "_law_meets" "_law_meets" qE5 fM fdM) (bM:Binds K fdM qt6 [])
  (hH:mg "_law_has" = some (.ref fH)) (FH:Fun K "_law_has" "_law_has" lHas fH fdH) (bH:Binds K fdH qt6 []){m:Nat}(hk:m<=12){sp':Sp}(GI:FnOk P w K mg base CX0 (m+1) f fd qQ5 sp') (vK:∀j,m=j+1->sp'=xo5 j):FnOk P w K mg base CX0 (m+2) f fd qQ5 (xo5 m):=by
 have GM:FnOk P w K mg base CX0 1 fM fdM qt6 (qK4 qt5):=xn7 FM;have GH:FnOk P w K mg base CX0 1 fH fdH qt6 (qK4 hasB):=xF9 FH;refine F.ok scNum (λvs H Q E h=>?_) (λcdv A outer s H vs Q E hr h=>?_)
 ·obtain⟨e,bp,boxes,r,c,L,rfl,_⟩:=h
  rfl
 ·obtain⟨e,bp,boxes,r,c,L,rfl,hB,h4,kQ,wG,hO,he,hLs,q⟩:=h;have jF:Room 1 _:=hr.mono (by lia);have hu:A.units+3+1<cLine:=by
   have h2:A.units+3+16*(m+1)+200<cLine:=hr.un;lia
  refine seqE ⟨_,⟨psN 5 scNum.nd (qz8 nNum (qa4 qm9) rfl rfl rfl scNum.nd (qp4 (pv 1))
   (λcl C fp s₀ H₀=>qe6 (pcN GM jF hM FM.kp bM (qa0 (pv 0) (qa0 (pv 3) (qa0 (pv 4) (qa0 (pv 5) qa2)))))) (λcl C fp s₀ H₀=>pv 0))⟩,?_⟩
  refine seqE ⟨_,⟨qf1 (PW.pt (qk1 (qc0 (qV2 hr) (pv 5) (qf6 qa2) (qb7 _)) (qi8 (qe6 (qa7 (qN5 rfl) (by rfl) B.any PyProof.Rows.boot_any (qa0 (qe9 nNum (qa4 qm9) rfl rfl rfl scNum.nd (qp4 (pv 5))
   (λcl C fp s₀ H₀=>pcN GH jF hH FH.kp bH (qa0 (pv 0) (qa0 (pv 3) (qa0 (pv 4) (qa0 (pv 5) qa2)))))) qa2))))))
   (qa8 (qb0 (qb4 q60 (by rfl) B.int PyProof.Rows.boot_int (qa0 (qg3 (qr4 hr) (pv 5) (qf6 qa2) (qb7 _)) qa2)))) qb6⟩,?_⟩
  refine seqE ⟨_,⟨psN 6 scNum.nd (qb3 qk8 (pv 4) qa6)⟩,?_⟩;refine seqE ⟨_,⟨xv9 (i0:=7) nNum (qa4 qm9) rfl rfl rfl scNum.nd rfl rfl (qh6 (by rfl) B.range (qa0 qa6 qa2)) (λcl C fp s₀ H₀=>PEb.go ⟨pcN GI hr hN F.kp bN (Ars2.go (.cons ⟨pv 1⟩ (.cons ⟨pv 6⟩
   (.cons ⟨qb3 qd3 (pv 3) (qb3 qD1 (pv 7) (qb3 qk8 (pv 0) qa6))⟩ (.cons ⟨qb3 qd3 (pv 4) (qb3 qD1 (pv 7) (qb3 qq8 (pv 0) qa6))⟩ (.cons ⟨pv 7⟩ .nil rfl) rfl) rfl) rfl) rfl))⟩)⟩,?_⟩
  refine seqE ⟨_,⟨qf1 (qc0 (xC9 hr) (pv 7) (PEb.go ⟨ql7 (Ars2.go (.cons ⟨qf6 (Ars2.go (.cons qk0 (.cons qk0 (.cons qk0 (.cons qk0 .nil rfl) rfl) rfl) rfl))⟩ (.cons ⟨qf6 (Ars2.go (.cons qk0 (.cons qk0 (.cons qk0 (.cons qk0 .nil rfl) rfl) rfl) rfl))⟩ .nil rfl) rfl))⟩) (by first|rfl|decide|with_unfolding_all rfl))
   (qa8 (qb0 (pxN qd7 (pv 7) qa6))) qb6⟩,?_⟩
  refine seqE ⟨_,⟨qf1 (qx9 (qm3 hu (qb4 (tupO K rfl) (by rfl) B.tuple ZG (qa0 (pv 7) qa2)) (pv 0)))
   (qa8 (qu2 hu (pv 0) (qb4 (tupO K rfl) (by rfl) B.tuple ZG (qa0 (pv 7) qa2)) (qb3 qd3 (qa7 xb1 (by rfl) B.len ZM (qa0 (pv 0) qa2)) qa6) (by rfl))) qb6⟩,?_⟩
  refine qh3 ⟨_,⟨qb0 (qG4 hu (pv 0) (qb4 (tupO K rfl) (by rfl) B.tuple ZG (qa0 (pv 7) qa2)) (λ_ _=>rfl))⟩,?_⟩;obtain⟨bs,hb,j9,jA⟩:=id hB;have jI:(bs.map V.ref).length=bs.length:=Ze ..;refine⟨_,rfl,bp,rfl,⟨_,SqL.of hb⟩,λD hD=>qu6 hD (λi=>qt5 r c (2^m) (boxes.getD i [])) (λi=>.ref (bs.getD i 0)) (qw9 (K:=K) hb) (by rw[jI];exact qm2 (by lia)) ?_ ?_⟩
  ·intro j x H2 hj hx s2 os ho Q1 Q2 q1 q2;rw[Zb] at hx;obtain⟨b,hbj,rfl⟩:=Zj.mp hx;have wD:j<boxes.length:=by rw[jI] at hj;lia
   have hg:boxes[j]?=some (boxes.getD j []):=by rw[Zx,Zc wD];rfl
   have eb:bs.getD j 0=b:=by rw[Zx,hbj];rfl
   rw[eb] at q2
   match os,ho with
   |[o1],_=>
    refine⟨_,rfl,_,rfl,_,rfl,_,rfl,b,boxes.getD j [],r,c,2^m,rfl,s2 _ _ (jA j b _ hbj hg),h4 _ (Zm hg),_,rfl,?_⟩;refine ite2 (λhc=>⟨_,rfl,q2 hc H2 (Same.refl _)⟩) (λhc=>q1 (Yu.mpr hc) H2 (Same.refl _))
  ·intro H2 s2 jY;rw[jI] at jY;have hRm:RowsL H2 D (met boxes r c (2^m)):=RowsL.filter (p:=bp) (qt5 r c (2^m)) j9 jA s2 jY;have v0:(met boxes r c (2^m)).length<=900:=ZL xy5 kQ;have hm4:∀b∈met boxes r c (2^m),b.length=4:=λb hb=>h4 b (ZP.mp hb).1;have jZ:=s2 _ _ he;have nDe:D≠e:=(qa3 he hD).symm;have etree:bt m boxes r c=bt m boxes r c:=rfl;refine⟨_,rfl,(by show 0<=sizeLine;decide),λl hl=>?_⟩;refine⟨_,_,qv0 (hRm.same (qb1 hl)),.lst qa1 .nil,qs6 _,rfl,qq0 _,_,rfl,?_⟩;rw[xc8];have S3:Same H (upd H2 l (.lst [])):=s2.trans (qb1 hl);have wI:=hRm.same (qb1 (o:=.lst []) hl);have vF:=qc2 (u:=.lst []) jZ hl;generalize upd H2 l (.lst [])=H3 at S3 wI vF;cases hmt:met boxes r c (2^m) with
   |nil=>
    have hT:bt m boxes r c=.z:=xz3 hmt;rw[hT] at q;rw[hmt] at wI;refine iteT (iteT ?_);refine⟨_,rfl,(by show 0<=sizeLine;decide),λl2 jW=>?_⟩;refine⟨_,_,qv0 (wI.same (qb1 jW)),.lst qa1 .nil,qs6 _,rfl,qq0 _,.inr ⟨_,rfl,?_⟩⟩;exact q _ (But.of (S3.trans (qb1 jW))) (qc2 vF jW)
   |cons b0 ml=>
    have jH:met boxes r c (2^m)≠[]:=by rw[hmt];exact λz=>nomatch z
    rw[<- hmt];clear hmt;have hie:(met boxes r c (2^m)).isEmpty=false:=by
     cases hq:met boxes r c (2^m) with
     |nil=>exact absurd hq jH
     |cons _ _=>rfl
    rw[hie];refine iteF ?_;obtain⟨ms,wP,hmsl,hmrow⟩:=id wI;have hml2:(ms.map V.ref).length=(met boxes r c (2^m)).length:=by rw[Ze,hmsl]
    refine⟨_,rfl,D,rfl,⟨_,SqL.of wP⟩,λD2 hDD=>qe1 hDD (λi y _=>y=.bl (hasB r c (2^m) ((met boxes r c (2^m)).getD i []))) (qw9 (K:=K) wP) (by rw[hml2];exact qm2 (by lia)) (λ_ _ _ _ _ _ h=>h) ?_ ?_⟩
    ·intro j x H4 hj hx s4 Q' hq;rw[Zb] at hx;obtain⟨b,hbj,rfl⟩:=Zj.mp hx;have wD:j<(met boxes r c (2^m)).length:=by rw[hml2] at hj;exact hj
     have hg:(met boxes r c (2^m))[j]?=some ((met boxes r c (2^m)).getD j []):=by rw[Zx,Zc wD];rfl
     exact⟨_,rfl,_,rfl,_,rfl,_,rfl,b,_,r,c,2^m,rfl,s4 _ _ (hmrow j b _ hbj hg),hm4 _ (Zm hg),hq _ _ (Same.refl _) rfl⟩
    ·intro ys H4 s4 kA jK jM;have ey:ys=((met boxes r c (2^m)).map (hasB r c (2^m))).map V.bl:=by
      refine qh5 (by rw[jK,hml2,Ze,Ze]) λj x hx=>?_;have wD:j<(met boxes r c (2^m)).length:=by
       have:=(gS_ hx).1;rw[jK,hml2] at this;exact this
      rw[jM j x hx,Zb,Zb,Zc wD,Zx,Zc wD]
      rfl
     subst ey;refine⟨D2,_,rfl,kA,_,rfl,?_⟩;have eany:((met boxes r c (2^m)).map (hasB r c (2^m))).any id=(met boxes r c (2^m)).any (hasB r c (2^m)):=by rw[List.any_map];rfl
     rw[eany];have S4:=S3.trans s4;have hR4:=wI.same s4;have vZ:=s4 _ _ vF;cases hh:(met boxes r c (2^m)).any (hasB r c (2^m)) with
     |true=>
      have hT:bt m boxes r c=.o:=xz4 jH hh;rw[hT] at q;refine iteT ?_;refine⟨_,rfl,(by show 0<=sizeLine;decide),λl2 jW=>?_⟩;refine⟨_,_,qv0 (hR4.same (qb1 jW)),.lst qa1 .nil,qs6 _,rfl,qq0 _,.inr ⟨_,rfl,?_⟩⟩;rw[xc8,hie];exact q _ (But.of (S4.trans (qb1 jW))) (qc2 vZ jW)
     |false=>
      obtain⟨k,rfl⟩:∃k,m=k+1:=by
       rcases m with _|k
       ·simp only[Nat.pow_zero] at jH hh;rw[xy6 jH] at hh;cases hh
       ·exact⟨k,rfl⟩
      cases vK k rfl;refine iteF ?_;have hT:=xK8 k boxes r c jH hh;obtain⟨p1,p2⟩:=qt4 (show k<=12 by lia);obtain⟨p3,p4⟩:=qt4 hk;have ehalf:(((2^(k+1):Nat):Int))/2=((2^k:Nat):Int):=by
       rw[YK];lia
      clear hie wP hmsl hmrow hml2 kA jK jM eany hRm wI jY S3 s4 jI;generalize met boxes r c (2^(k+1))=m at hT hR4 v0 hm4 jH hh;refine⟨_,rfl,_,_,rfl,rfl,⟨by decide,by decide⟩,?_⟩;refine⟨_,rfl,by decide,by decide,λD4 kN=>?_⟩;have nD4e:D4≠e:=(qa3 vZ kN).symm;refine xg6 (λi xs H5=>But e H4 H5/\H5 D4=some (.lst xs)/\xs=vN (names k m r c L i)/\H5 e=some (.dT (tK (Tr.rowsOf (qL k m r c L i))))) (by decide) ⟨But.of (qb1 kN),qa1,rfl,qc2 vZ kN⟩ (λi xs H5 h=>⟨h.2.1,by rw[h.2.2.1,qb5];simp[names]⟩) ?_ ?_
      ·rintro i xs H5 hi ⟨b5,kW,rfl,v7⟩ Q2 q2;have hi4:i<4:=hi;have veq:[V.ref e,V.ref D,V.int ((r:Int)+((2^(k+1):Nat):Int)/2*((0+(i:Int))/2)),V.int ((c:Int)+((2^(k+1):Nat):Int)/2*((0+(i:Int))%2)),V.int (((2^(k+1):Nat):Int)/2)]=[V.ref e,V.ref D,V.int ((r+2^k*(i/2):Nat):Int),V.int ((c+2^k*(i%2):Nat):Int),V.int ((2^k:Nat):Int)]:=by
        rw[ehalf,Int.zero_add,Int.natCast_add,Int.natCast_mul,WY,Int.natCast_add,Int.natCast_mul,Int.natCast_emod]
        rfl
       refine⟨_,rfl,_,rfl,_,rfl,_,rfl,_,rfl,_,_,rfl,rfl,⟨by decide,by decide⟩,_,_,rfl,rfl,.inl ⟨by lia,by lia⟩,_,_,rfl,rfl,_,rfl,_,rfl,_,rfl,_,_,rfl,rfl,(by show (0:Int)<2;decide),_,_,rfl,rfl,.inl ⟨by lia,by lia⟩,_,_,rfl,rfl,_,rfl,
        e,D,m,r+2^k*(i/2),c+2^k*(i%2),qL k m r c L i,veq,hR4.but b5 nDe vZ (λu z=>by cases z),hm4,v0,nDe,qQ1 hO i,v7,?_,λH6 b6 he6=>?_⟩
       ·have h1:=xf9 (k:=k) (m:=m) (r:=r) (c:=c) (L:=L) i;have h2:sz (k+1)=4*sz k+1:=rfl;have h3:i*sz k<=3*sz k:=Nat.mul_le_mul_right _ (by lia);lia
       ·refine q2 _ _ (b6 _ _ kW nD4e) ⟨?_,qa1,?_,?_⟩
        ·intro b o z nb;rw[qa5 (qa3 z kN)];exact b6 _ _ (b5 _ _ z nb) nb
        ·rw[q42 hO];unfold vN;rw[ZW]
         rfl
        ·rw[qa5 (Yx nD4e)];exact he6
      ·rintro xs H5 ⟨b5,kW,rfl,v7⟩;have kW:H5 D4=some (.lst (vN (names k m r c L 4))):=kW;have v7:H5 e=some (.dT (tK (Tr.rowsOf (qL k m r c L 4)))):=v7;have O4:=qQ1 (k:=k) (m:=m) (r:=r) (c:=c) hO 4;have in0:=q41 (k:=k) (m:=m) (r:=r) (c:=c) hO (j:=0) 4 (by decide);have in1:=q41 (k:=k) (m:=m) (r:=r) (c:=c) hO (j:=1) 4 (by decide);have in2:=q41 (k:=k) (m:=m) (r:=r) (c:=c) hO (j:=2) 4 (by decide);have in3:=q41 (k:=k) (m:=m) (r:=r) (c:=c) hO (j:=3) 4 (by decide);have hl4:=xf9 (k:=k) (m:=m) (r:=r) (c:=c) (L:=L) 4;have hs4:sz (k+1)=4*sz k+1:=rfl;have e4:qL k m r c L 4=Tr.post (qt k m r c 3) (Tr.post (qt k m r c 2) (Tr.post (qt k m r c 1) (Tr.post (qt k m r c 0) L))):=rfl;have en:names k m r c L 4=[Tr.name (qL k m r c L 4) (qt k m r c 0),Tr.name (qL k m r c L 4) (qt k m r c 1),Tr.name (qL k m r c L 4) (qt k m r c 2),Tr.name (qL k m r c L 4) (qt k m r c 3)]:=rfl;rw[en] at kW;rw[hT] at q;generalize qL k m r c L 4=L4 at v7 O4 in0 in1 in2 in3 hl4 e4 kW;generalize qt k m r c 0=t0,qt k m r c 1=t1,qt k m r c 2=t2,qt k m r c 3=t3 at in0 in1 in2 in3 e4 kW q;have B5:But e H H5:=(But.of S4).trans b5;refine⟨_,rfl,(by show 4<=sizeLine;decide),λa ha=>⟨(by show 4<=sizeLine;decide),λb hb'=>⟨(by show 2<=sizeLine;decide),λt ht=>?_⟩⟩⟩;have S6:Same H5 (upd (upd (upd H5 a (.lst [.int 0,.int 0,.int 0,.int 0])) b (.lst [.int 1,.int 1,.int 1,.int 1])) t (.tup [.ref a,.ref b])):=((qb1 ha).trans (qb1 hb')).trans (qb1 ht);have da:DataAt (upd (upd (upd H5 a (.lst [.int 0,.int 0,.int 0,.int 0])) b (.lst [.int 1,.int 1,.int 1,.int 1])) t (.tup [.ref a,.ref b])) (.ref a) (dL [0,0,0,0]):=.lst (qc2 (qc2 qa1 hb') ht) (DatasAt.ints [0,0,0,0]);have db:DataAt (upd (upd (upd H5 a (.lst [.int 0,.int 0,.int 0,.int 0])) b (.lst [.int 1,.int 1,.int 1,.int 1])) t (.tup [.ref a,.ref b])) (.ref b) (dL [1,1,1,1]):=.lst (qc2 qa1 ht) (DatasAt.ints [1,1,1,1]);have kO:=S6 _ _ kW;have he6:=S6 _ _ v7;have ht6:upd (upd (upd H5 a (.lst [.int 0,.int 0,.int 0,.int 0])) b (.lst [.int 1,.int 1,.int 1,.int 1])) t (.tup [.ref a,.ref b]) t=some (.tup [.ref a,.ref b]):=qa1;generalize upd (upd (upd H5 a (.lst [.int 0,.int 0,.int 0,.int 0])) b (.lst [.int 1,.int 1,.int 1,.int 1])) t (.tup [.ref a,.ref b])=H6 at S6 da db kO he6 ht6 ⊢;refine⟨t,[.ref a,.ref b],[dL [0,0,0,0],dL [1,1,1,1]],dL ([Tr.name L4 t0,Tr.name L4 t1,Tr.name L4 t2,Tr.name L4 t3].map λx:Nat=>(x:Int)),rfl,ht6,.cons da (.cons db .nil),.lst (kO.trans (Yt (λz=>some (HO.lst z)) (qw1 _))) (DatasAt.ints _),qV4 _,(by simp[PyData.canLayAll0,qV4]),ZL (qX6 _) (by decide),?_⟩;rw[XC,XC,List.any_nil,q88,q88,Bool.or_false];have B6:But e H H6:=B5.trans (But.of S6);refine⟨_,rfl,?_⟩;have hk:∀s∈Tr.kids (.nd t0 t1 t2 t3),Tr.In L4 s:=λs hs=>by
        have:s=t0\/s=t1\/s=t2\/s=t3:=by simpa [Tr.kids] using hs
        rcases this with rfl|rfl|rfl|rfl<;>assumption
       refine ite2 (λhc=>?_) (λhc=>?_)
       ·rcases VR _ _▸hc with z|z
        ·have z':=ZI z;simp only[ZC,WJ,YW,Vy] at z';have g0:=Qf.qe5 (L:=L4) (t:=t0) (by lia);have g1:=Qf.qe5 (L:=L4) (t:=t1) (by lia);have g2:=Qf.qe5 (L:=L4) (t:=t2) (by lia);have g3:=Qf.qe5 (L:=L4) (t:=t3) (by lia);subst g0 g1 g2 g3;have eL:L4=L:=e4;subst eL;exact⟨_,rfl,D4,_,0,.int (0:Nat),rfl,rfl,SqL.of kO,rfl,q H6 B6 he6⟩
        ·have z':=ZI z;simp only[ZC,WJ,YW,Vy] at z';have g0:=Qf.qf9 (L:=L4) (t:=t0) (by lia);have g1:=Qf.qf9 (L:=L4) (t:=t1) (by lia);have g2:=Qf.qf9 (L:=L4) (t:=t2) (by lia);have g3:=Qf.qf9 (L:=L4) (t:=t3) (by lia);subst g0 g1 g2 g3;have eL:L4=L:=e4;subst eL;exact⟨_,rfl,D4,_,0,.int (1:Nat),rfl,rfl,SqL.of kO,rfl,q H6 B6 he6⟩
       ·have vI:Qf.mk t0 t1 t2 t3=.nd t0 t1 t2 t3:=by
         unfold Qf.mk;rw[Zk,Zk]
         ·rintro⟨rfl,rfl,rfl,rfl⟩;exact hc (by rw[VR];exact .inr (Zl rfl))
         ·rintro⟨rfl,rfl,rfl,rfl⟩;exact hc (by rw[VR];exact .inl (Zl rfl))
        rw[vI] at q;have k8:(Tr.kids (.nd t0 t1 t2 t3)).map (Tr.name L4)=[Tr.name L4 t0,Tr.name L4 t1,Tr.name L4 t2,Tr.name L4 t3]:=rfl;have jU:=xe1 O4 hk;rw[k8] at jU;refine⟨_,rfl,D4,_,rfl,.inl ⟨SqL.of kO,λu hu=>?_⟩⟩;have S7:=qb1 (o:=.tup (vN [Tr.name L4 t0,Tr.name L4 t1,Tr.name L4 t2,Tr.name L4 t3])) hu;have he7:=S7 _ _ he6;have hu7:upd H6 u (.tup (vN [Tr.name L4 t0,Tr.name L4 t1,Tr.name L4 t2,Tr.name L4 t3])) u=some (.tup ((keyN [Tr.name L4 t0,Tr.name L4 t1,Tr.name L4 t2,Tr.name L4 t3]).map kV)):=by rw[qa1,qs4]
        have w5:=S7 _ _ kO;have B7:=B6.trans (But.of (e:=e) S7);generalize upd H6 u (.tup (vN [Tr.name L4 t0,Tr.name L4 t1,Tr.name L4 t2,Tr.name L4 t3]))=H7 at S7 he7 hu7 w5 B7 ⊢;refine⟨_,rfl,e,_,rfl,DGet.t he7 hu7,_,rfl,?_⟩;rw[xc9];by_cases hm:[Tr.name L4 t0,Tr.name L4 t1,Tr.name L4 t2,Tr.name L4 t3]∈Tr.rowsOf L4
        ·rw[Zp hm];refine iteF ?_;have hT4:=jU.mp hm;have hTL:Tr.nd t0 t1 t2 t3∈L:=by
          by_cases zz:Tr.nd t0 t1 t2 t3∈L
          ·exact zz
          ·exact absurd (e4▸hT4) (Tr.not_below zz)
         obtain⟨i,hi,ei⟩:=ZK.mp hTL;have kin:=λs hs=>(Tr.kid_in hO (i:=i) (t:=.nd t0 t1 t2 t3) (by rw[Zc hi,ei]) (s:=s) hs).1;have eL:L4=L:=by
          rw[e4,qB3 (kin t0 (by simp[Tr.kids])),qB3 (kin t1 (by simp[Tr.kids])),qB3 (kin t2 (by simp[Tr.kids])),qB3 (kin t3 (by simp[Tr.kids]))]
         rw[qB3 (.inr (.inr hTL))] at q;subst eL;refine⟨_,rfl,_,rfl,D4,_,rfl,.inl ⟨SqL.of w5,λu2 kU=>⟨e,_,rfl,qY5 O4 hTL (qc2 he7 kU) qa1,?_⟩⟩⟩;exact q _ (B7.trans (But.of (qb1 kU))) (qc2 he7 kU)
        ·rw[Zk hm];refine iteT ?_;have hT4:Tr.nd t0 t1 t2 t3∉L4:=λz=>hm (jU.mpr z);have hTL:Tr.nd t0 t1 t2 t3∉L:=λz=>hT4 (by
          rw[e4];obtain⟨s1,h1⟩:=Tr.post_ext t0 L;obtain⟨s2,h2⟩:=Tr.post_ext t1 (Tr.post t0 L);obtain⟨s3,h3⟩:=Tr.post_ext t2 (Tr.post t1 (Tr.post t0 L));obtain⟨s4,h4⟩:=Tr.post_ext t3 (Tr.post t2 (Tr.post t1 (Tr.post t0 L)));rw[h4,h3,h2,h1];simp[z])
         have ep:Tr.post (.nd t0 t1 t2 t3) L=L4++[.nd t0 t1 t2 t3]:=by
          rw[e4];show (if Tr.nd t0 t1 t2 t3∈L then L else _)=_;rw[Zk hTL]
         have O5:=(Tr.post_ord (.nd t0 t1 t2 t3) L hO).1;rw[ep] at q O5;have er:=qF2 O4 hk;rw[k8] at er;have jB:(tK (Tr.rowsOf L4)).length=L4.length:=by unfold tK;rw[ql2,Tr.rowsOf_len]
         have hli:L4.length+1<=6000000:=by lia
         refine⟨_,rfl,e,_,rfl,he7,_,_,rfl,rfl,_,rfl,_,rfl,D4,_,rfl,.inl ⟨SqL.of w5,λu2 kU=>?_⟩⟩;have he8:=qc2 (u:=.tup (vN [Tr.name L4 t0,Tr.name L4 t1,Tr.name L4 t2,Tr.name L4 t3])) he7 kU;refine⟨e,_,rfl,DPut.t he8 (by rw[qa1,qs4]) (by rw[jB];exact Y2 (show L4.length<=6000000 by lia) (by decide)),?_⟩;have eput:putK (tK (Tr.rowsOf L4)) (keyN [Tr.name L4 t0,Tr.name L4 t1,Tr.name L4 t2,Tr.name L4 t3]) (.int (((tK (Tr.rowsOf L4)).length:Int)+2))=tK (Tr.rowsOf (L4++[.nd t0 t1 t2 t3])):=by
          have h1:=qJ0 (key:=keyN) (k:=2) (λa b=>qo3) hm;rw[er,jB];unfold tK;rw[<- h1,Tr.rowsOf_len];congr 2;lia
         rw[eput];have hd8:upd (upd H7 u2 (.tup (vN [Tr.name L4 t0,Tr.name L4 t1,Tr.name L4 t2,Tr.name L4 t3]))) e (.dT (tK (Tr.rowsOf (L4++[.nd t0 t1 t2 t3])))) D4=some (.lst (vN [Tr.name L4 t0,Tr.name L4 t1,Tr.name L4 t2,Tr.name L4 t3])):=by
          rw[qa5 nD4e];exact qc2 w5 kU
         have he9:upd (upd H7 u2 (.tup (vN [Tr.name L4 t0,Tr.name L4 t1,Tr.name L4 t2,Tr.name L4 t3]))) e (.dT (tK (Tr.rowsOf (L4++[.nd t0 t1 t2 t3])))) e=some (.dT (tK (Tr.rowsOf (L4++[.nd t0 t1 t2 t3])))):=qa1;have B8:But e H (upd (upd H7 u2 (.tup (vN [Tr.name L4 t0,Tr.name L4 t1,Tr.name L4 t2,Tr.name L4 t3]))) e (.dT (tK (Tr.rowsOf (L4++[.nd t0 t1 t2 t3]))))):=(B7.trans (But.of (qb1 kU))).trans But.upd;generalize upd (upd H7 u2 (.tup (vN [Tr.name L4 t0,Tr.name L4 t1,Tr.name L4 t2,Tr.name L4 t3]))) e (.dT (tK (Tr.rowsOf (L4++[.nd t0 t1 t2 t3]))))=H8 at hd8 he9 B8 ⊢;have enm:∀s,Tr.In L4 s->Tr.name (L4++[.nd t0 t1 t2 t3]) s=Tr.name L4 s:=λs hs=>Tr.name_app hs O4;refine⟨_,rfl,_,rfl,D4,_,rfl,.inl ⟨SqL.of hd8,λu3 vV=>⟨e,_,rfl,qY5 (a:=t0) (b:=t1) (c:=t2) (d:=t3) O5 (by simp) (qc2 he9 vV) (by rw[qa1,enm t0 in0,enm t1 in1,enm t2 in2,enm t3 in3]),?_⟩⟩⟩;exact q _ (B8.trans (But.of (qb1 vV))) (qc2 he9 vV)
theorem xs0 {f fM fH:Addr}{fd fdM fdH:FuncData}(F:Fun K "_law_number" "_law_number" qm9 f fd) (B:Blt mg) (hN:mg "_law_number" = some (.ref f)) (bN:Binds K fd qQ5 [])
  (hM:mg "_law_meets" = some (.ref fM)) (FM:Fun K "_law_meets" "_law_meets" qE5 fM fdM) (bM:Binds K fdM qt6 [])
  (hH:mg "_law_has" = some (.ref fH)) (FH:Fun K "_law_has" "_law_has" lHas fH fdH) (bH:Binds K fdH qt6 []):∀k,k<=12->FnOk P w K mg base CX0 (k+2) f fd qQ5 (xo5 k)
 |0,h=>xg7 F B hN bN hM FM bM hH FH bH h (sp':=λ_ _ _ _=>False) ⟨λ_ _ _ _ h=>h.elim,λ_ _ _ _ _ _ _ _ _ _ _ _ _ h=>h.elim⟩ (λj e=>nomatch e)
 |k+1,h=>xg7 F B hN bN hM FM bM hH FH bH h (xs0 F B hN bN hM FM bM hH FH bH k (by lia)) (λj e=>by cases e;rfl)
end
def bTop (n:Nat) (boxes:List Row):Nat:=Tr.name (Tr.post (bt n boxes 0 0) []) (bt n boxes 0 0)
def qC1 (n:Nat) (boxes:List Row):List Row:=Tr.rowsOf (Tr.post (bt n boxes 0 0) [])
theorem xz5 {n:Nat}{boxes:List Row}(hn:n<=12):Canon n (bTop n boxes) (qC1 n boxes):=qF0 hn (qF4 n boxes 0 0) (qQ0 n boxes 0 0)
theorem xL1 {n:Nat}{boxes:List Row}(hn:n<=12) (h:xn6 n boxes):(qC1 n boxes).length<=485:=by
 unfold qC1;rw[Tr.rowsOf_len];have h1:=qv6 (bt n boxes 0 0) [];have h2:=xf8 hn h;simp at h1;lia
section
variable {P:Program}{w:World}{K:PySem.W.Frag}{mg:Str->Option Value}{base:Heap}
abbrev nBSh:List Str:=["_law_n", "_law_boxes", "_law_rows", "_law_top"]
theorem scBSh:FnScope nBSh ["_law_n", "_law_boxes"] (qa4 qX3):=qd9
def xG6:Sp:=λvs H Q _=>∃(bp:Addr) (n:Nat) (boxes:List Row),vs=[.int (n:Nat),.ref bp]/\RowsL H bp boxes/\xn6 n boxes/\n<=12/\∀(H':Hp) (t:Addr),Same H H'->xw7 H' t n (bTop n boxes) (qC1 n boxes)->Q (.ref t) H'
theorem xG7 {f fN fM fH:Addr}{fd fdN fdM fdH:FuncData}(F:Fun K "_law_shape" "_law_shape" qX3 f fd) (B:Blt mg) (hN:mg "_law_number" = some (.ref fN)) (FN:Fun K "_law_number" "_law_number" qm9 fN fdN) (bN:Binds K fdN qQ5 [])
  (hM:mg "_law_meets" = some (.ref fM)) (FM:Fun K "_law_meets" "_law_meets" qE5 fM fdM) (bM:Binds K fdM qt6 [])
  (hH:mg "_law_has" = some (.ref fH)) (FH:Fun K "_law_has" "_law_has" lHas fH fdH) (bH:Binds K fdH qt6 []):FnOk P w K mg base CX0 15 f fd ["_law_n", "_law_boxes"] xG6:=by
 have GN:∀k,k<=12->FnOk P w K mg base CX0 (k+2) fN fdN qQ5 (xo5 k):=xs0 FN B hN bN hM FM bM hH FH bH;refine F.ok scBSh (λvs H Q E h=>?_) (λcdv A outer s H vs Q E hr h=>?_)
 ·obtain⟨bp,n,boxes,rfl,_⟩:=h
  rfl
 ·obtain⟨bp,n,boxes,rfl,hR,hBx,hn,q⟩:=h;have hrN:Room (n+2) _:=hr.mono (by lia);refine seqE ⟨_,⟨psN 2 scBSh.nd qG5⟩,?_⟩;refine seqE ⟨_,⟨psN 3 scBSh.nd (q64 (GN n hn) hrN (by rfl) hN FN.kp bN .nil q74 (Ars2.go (.cons ⟨pv 2⟩ (.cons ⟨pv 1⟩ (.cons qk0 (.cons qk0 (.cons ⟨qb3 q53 qa6 (pv 0)⟩ .nil rfl) rfl) rfl) rfl) rfl)))⟩,?_⟩;refine qh3 ⟨_,⟨qb0 (ql7 (Ars2.go (.cons ⟨pv 0⟩ (.cons ⟨pv 3⟩ (.cons ⟨qb4 (qO0 rfl) (by rfl) B.tuple ZG (qa0 (pv 2) qa2)⟩ .nil rfl) rfl) rfl)))⟩,?_⟩;intro e he;have nbe:bp≠e:=by obtain⟨bs,hb,_⟩:=hR;exact qa3 hb he
  have h4:∀b∈boxes,b.length=4:=λb hb=>by
   obtain⟨r,c,h,w',rfl,_⟩:=hBx.1 b hb
   rfl
  have kQ:boxes.length<=900:=by
   rcases hBx.2 with ⟨_,h⟩|⟨h,_⟩<;>lia
  have hsz:sz n<=6000000:=ZL (xG0 hn) (by decide);have veq:[V.ref e,V.ref bp,V.int 0,V.int 0,V.int (1*2^((n:Int)).toNat)]=[V.ref e,V.ref bp,V.int ((0:Nat):Int),V.int ((0:Nat):Int),V.int ((2^n:Nat):Int)]:=by rw[qT6];rfl
  refine⟨_,rfl,_,rfl,_,rfl,_,_,rfl,rfl,⟨by lia,by lia,by decide⟩,e,bp,boxes,0,0,[],veq,hR.same (qb1 he),h4,kQ,nbe,Tr.ord_nil,qa1,by simpa using hsz,λH1 b1 he1=>?_⟩;have S1:Same H H1:=λb o z=>b1 _ _ (qc2 z he) (qa3 z he);refine⟨_,rfl,_,rfl,_,rfl,e,_,rfl,he1,λl bs hl hbl2 hbs=>⟨(by show 3<=sizeLine;decide),λt ht=>?_⟩⟩;refine q _ t ((S1.trans (qb1 hl)).trans (qb1 ht)) ⟨⟨l,qa1,bs,qc2 qa1 ht,?_,?_⟩,xz5 hn,?_⟩
  ·rw[hbl2];unfold tK;rw[ql2]
   rfl
  ·intro i b r e1 e2;have hi:=(gS_ e2).1;have jB:(tK (qC1 n boxes)).length=(qC1 n boxes).length:=by unfold tK;rw[ql2]
   have hkv:(tK (qC1 n boxes))[i]?=some ((tK (qC1 n boxes))[i]'(by lia)):=Zc (by lia);have vQ:((tK (qC1 n boxes))[i]'(by lia)).1=keyN r:=by
    have h0:=hkv;unfold tK tabl at h0;rw[Zb] at h0;obtain⟨p,hp,ep⟩:=Zj.mp h0;rw[W4] at hp;obtain⟨r',hr',rfl⟩:=Zj.mp hp;rw[e2] at hr';cases hr';exact (Yt Prod.fst ep).symm
   have:=hbs i b _ e1 hkv;rw[vQ,qs4] at this;exact qc2 (qc2 this hl) ht
  ·exact ZL (xL1 hn hBx) (by decide)
end
theorem atS {f:St->Hp->Prop}{σ σ':St}{H:Hp}(e:σ=σ') (h:f σ' H):f σ H:=by rw[e];exact h
theorem RowsL.of {H:Hp}{p:Addr}{ys:List V}{rs:List Row}(hp:H p=some (.lst ys)) (hl:ys.length=rs.length) (h:∀(i:Nat) y r,ys[i]?=some y->rs[i]?=some r->∃b,y=.ref b/\H b=some (.tup (vN r))):RowsL H p rs:=by
 obtain⟨ds,rfl⟩:=xx0 (ys:=ys) λj y hy=>by
  have hj:=(gS_ hy).1;obtain⟨b,e,_⟩:=h j y _ hy (Zc (by lia));exact⟨b,e⟩
 rw[Ze] at hl;refine⟨ds,hp,hl,λi b r e1 e2=>?_⟩;obtain⟨c,e3,e4⟩:=h i (.ref b) r (by rw[Zb,e1];rfl) e2;cases e3;exact e4
section
variable {P:Program}{w:World}{K:PySem.W.Frag}{mg:Str->Option Value}{base:Heap}
abbrev nIsF:List Str:=["_law_telling_here", "_law_row_here", "_law_column", "_law_n", "_law_number_here", "_law_rows", "_law_half", "_law_place"]
abbrev xo6:List Str:=["_law_telling_here", "_law_row_here", "_law_column"]
theorem scIsF:FnScope nIsF xo6 (qa4 qI3):=qd9
def xG8:Sp:=λvs H Q _=>∃(t:Addr) (n tp r c:Nat) (rows:List Row),vs=[.ref t,.int (r:Nat),.int (c:Nat)]/\TellAt H t n tp rows/\qg1 n tp rows/\r<4096/\c<4096/\Q (.bl (qi4 n (Qf.T rows tp) r c)) H
def xs1 (H:Hp) (t rp:Addr) (rows:List Row) (n tp r c:Nat) (m:Nat) (σ:St) (H2:Hp):Prop:=H2=H/\m<=n/\∃(x:Nat) (v:Option V),
 σ=[some (.ref t),some (.int (r:Nat)),some (.int (c:Nat)),some (.int (n:Nat)),some (.int (x:Nat)),some (.ref rp),some (.int ((2^m:Nat):Int)),v]/\x<rows.length+2/\dp rows x<=m/\qi4 m (Qf.T rows x) r c=qi4 n (Qf.T rows tp) r c
theorem xG9 {f:Addr}{fd:FuncData}(F:Fun K "_law_is_full" "_law_is_full" qI3 f fd):FnOk P w K mg base CX0 1 f fd xo6 xG8:=by
 refine F.ok scIsF (λvs H Q E h=>?_) (λcdv A outer s H vs Q E hr h=>?_)
 ·obtain⟨t,n,tp,r,c,rows,rfl,_⟩:=h
  rfl
 ·obtain⟨t,n,tp,r,c,rows,rfl,hT,⟨hn,ok,hl,jO,hd⟩,hr4,hc4,q⟩:=h;refine seqE ⟨_,⟨qo9 (pv 0) (qo8 rfl (qc3 (pgN 3 scIsF.nd) (qc3 (pgN 4 scIsF.nd) (qc3 (pgN 5 scIsF.nd) qj7))))⟩,?_⟩;refine seqE ⟨_,⟨psN 6 scIsF.nd (qb3 q53 qa6 (pv 3))⟩,?_⟩;refine seqE ⟨_,⟨xh6 Z2 (qc0 xh7 (pv 4) qa6 (qb7 _))
   (StB.go (.cons ⟨psN 6 scIsF.nd (qb3 qk8 (pv 6) qa6)⟩
   (.cons ⟨psN 7 scIsF.nd (PEb.go ⟨qb3 qd3 (PEb.go ⟨qb3 qD1 qa6 (PEb.go ⟨qb3 qq8 (qb3 qk8 (pv 1) (pv 6)) qa6⟩)⟩) (PEb.go ⟨qb3 qq8 (qb3 qk8 (pv 2) (pv 6)) qa6⟩)⟩)⟩
   (.one ⟨psN 4 scIsF.nd (pxN qd1 (pxN qd1 (pv 5) (qb3 ql6 (pv 4) qa6)) (pv 7))⟩))))⟩,?_⟩
  refine qh3 ⟨_,⟨qb0 (qg3 q57 (pv 4) qa6 (qb7 _))⟩,?_⟩;obtain⟨rp,ht,bs,kS,kQ,jA⟩:=id hT;obtain⟨p1,p2⟩:=qt4 hn;refine⟨_,rfl,t,_,rfl,SqT.of ht,rfl,_,_,rfl,_,_,rfl,_,_,rfl,rfl,?_⟩;refine⟨_,rfl,_,_,rfl,rfl,⟨by lia,by lia,by decide⟩,?_⟩;refine⟨xs1 H t rp rows n tp r c,⟨n,rfl,Zd _,tp,none,?_,jO,hd,rfl⟩,?_⟩
  ·rw[<- qT6];rfl
  rintro m σ H2 ⟨rfl,hm,x,v,rfl,hx,vG,jC⟩;refine⟨_,rfl,_,_,rfl,rfl,_,rfl,?_⟩;refine ite2 (λhc=>?_) (λhc=>?_)
  ·have x2:¬x<2:=by have:=ZI hc;lia
   obtain⟨k,rfl⟩:∃k,m=k+1:=by
    rcases m with _|k
    ·exact absurd (qw2 ok hx vG) x2
    ·exact⟨k,rfl⟩
   refine⟨λσ' H'=>xs1 H2 t rp rows n tp r c k σ' H',λσ' H' h=>⟨k,Yy k,h⟩,?_⟩;obtain⟨p,a,b,c',d,rfl,hp⟩:=qp0 ok hx x2;obtain⟨l1,l2,l3,l4⟩:=xF1 ok hp;obtain⟨h1,h2,h3,h4⟩:=xe6 ok hp vG;obtain⟨hk3,hk2⟩:=qt4 (show k<=12 by lia);have eh:((2^(k+1):Nat):Int)/2=((2^k:Nat):Int):=by rw[YK];lia
   refine⟨_,rfl,_,_,rfl,rfl,⟨by lia,by lia⟩,?_⟩;refine atS (σ':=[some (.ref t),some (.int (r:Nat)),some (.int (c:Nat)),some (.int (n:Nat)),some (.int ((p+2:Nat):Int)),some (.ref rp),some (.int ((2^k:Nat):Int)),v]) (by rw[<- eh];rfl) ?_;have e1:(2:Int)*((r:Int)/((2^k:Nat):Int)%2)+(c:Int)/((2^k:Nat):Int)%2=((2*(r/2^k%2)+c/2^k%2:Nat):Int):=by
    rw[<- WY,<- WY];lia
   refine⟨_,rfl,_,rfl,_,_,rfl,rfl,⟨by lia,by lia⟩,_,_,rfl,rfl,(by show (0:Int)<2;decide),_,_,rfl,rfl,.inl ⟨by lia,by lia⟩,_,rfl,_,rfl,_,_,rfl,rfl,⟨by lia,by lia⟩,_,_,rfl,rfl,(by show (0:Int)<2;decide),_,_,rfl,rfl,?_⟩;refine atS (σ':=[some (.ref t),some (.int (r:Nat)),some (.int (c:Nat)),some (.int (n:Nat)),some (.int ((p+2:Nat):Int)),some (.ref rp),some (.int ((2^k:Nat):Int)),some (.int ((2*(r/2^k%2)+c/2^k%2:Nat):Int))]) (by rw[<- e1];rfl) ?_;have hi:2*(r/2^k%2)+c/2^k%2<4:=by lia
   have kP:qi4 (k+1) (Qf.T rows (p+2)) r c=qi4 k (qr (2*(r/2^k%2)+c/2^k%2) (Qf.T rows (p+2))) r c:=rfl;rw[kP,qs8 ok hp] at jC;generalize 2*(r/2^k%2)+c/2^k%2=i at hi jC;have jS:=(gS_ hp).1;have kK:bs[p]?=some (bs[p]'(by lia)):=by simp[show p<bs.length by lia]
   have jQ:=jA p _ _ kK hp;generalize bs[p]'(by lia)=bb at kK jQ;obtain⟨y,hy,hyl,hyd,hyT⟩:∃y,[a,b,c',d][i]?=some y/\y<rows.length+2/\dp rows y<=k/\Qf.T rows y=qr i (.nd (Qf.T rows a) (Qf.T rows b) (Qf.T rows c') (Qf.T rows d)):=by
    match i,hi with
    |0,_=>exact⟨a,rfl,l1,h1,rfl⟩
    |1,_=>exact⟨b,rfl,l2,h2,rfl⟩
    |2,_=>exact⟨c',rfl,l3,h3,rfl⟩
    |3,_=>exact⟨d,rfl,l4,h4,rfl⟩
   refine⟨_,rfl,_,rfl,_,_,rfl,rfl,rp,_,((p:Nat):Int),.ref bb,rfl,Yt V.int (show ((p+2:Nat):Int)-2=(p:Nat) by lia),SqT.of kS,qe0 (by rw[Zb,kK];rfl),_,rfl,bb,_,(i:Int),.int (y:Nat),rfl,rfl,SqT.of jQ,qs3 hy,?_⟩;exact⟨rfl,by lia,y,_,rfl,hyl,hyd,by rw[hyT];exact jC⟩
  ·have x2:x<2:=by
    by_cases z:x<2
    ·exact z
    ·exact absurd (Zl (show (x:Int)>1 by lia)) hc
   refine⟨_,rfl,rfl,?_⟩;rw[<- jC] at q
   match x,x2 with
   |0,_=>rw[qj3,xe8] at q;exact q
   |1,_=>rw[qq1,xe7] at q;exact q
abbrev nFC:List Str:=["_law_telling_here", "_law_side"]
theorem scFC:FnScope nFC ["_law_telling_here"] (qa4 qO3):=qd9
def spFC:Sp:=λvs H Q _=>∃(t:Addr) (n tp:Nat) (rows:List Row),vs=[.ref t]/\TellAt H t n tp rows/\qg1 n tp rows/\n<4/\∀H' l,Same H H'->H l=none->RowsL H' l (ql5 n (Qf.TR rows tp))->Q (.ref l) H'
theorem xL2 {f fI:Addr}{fd fdI:FuncData}(F:Fun K "_law_full_cells" "_law_full_cells" qO3 f fd) (B:Blt mg)
  (hI:mg "_law_is_full" = some (.ref fI)) (FI:Fun K "_law_is_full" "_law_is_full" qI3 fI fdI) (bI:Binds K fdI xo6 []):FnOk P w K mg base CX0 2 f fd ["_law_telling_here"] spFC:=by
 have GI:FnOk P w K mg base CX0 1 fI fdI xo6 xG8:=xG9 FI;refine F.ok scFC (λvs H Q E h=>?_) (λcdv A outer s H vs Q E hr h=>?_)
 ·obtain⟨t,n,tp,rows,rfl,_⟩:=h
  rfl
 ·obtain⟨t,n,tp,rows,rfl,hT,tok,hn,q⟩:=h;refine seqE ⟨_,⟨psN 1 scFC.nd (qb3 q53 qa6 (pxN qd1 (pv 0) qa6))⟩,?_⟩;refine qh3 ⟨_,⟨qb0 (qz8 nFC (qa4 qO3) rfl rfl rfl scFC.nd (qh6 (by rfl) B.range (qa0 (qb3 qD1 (pv 1) (pv 1)) qa2))
   (λcl C fp s₀ H₀=>qe6 (PEb.go ⟨pcN GI hr hI FI.kp bI (Ars2.go (.cons ⟨pv 1⟩ (.cons ⟨qb3 qk8 (pv 0) (pv 2)⟩ (.cons ⟨qb3 qq8 (pv 0) (pv 2)⟩ .nil rfl) rfl) rfl))⟩))
   (λcl C fp s₀ H₀=>PEb.go ⟨ql7 (Ars2.go (.cons ⟨qb3 qk8 (pv 0) (pv 2)⟩ (.cons ⟨qb3 qq8 (pv 0) (pv 2)⟩ (.cons ⟨qa6⟩ (.cons ⟨qa6⟩ .nil rfl) rfl) rfl) rfl))⟩))⟩,?_⟩
  obtain⟨rp,ht,hR⟩:=id hT;obtain⟨hn12,ok,hl,jO,hd⟩:=id tok;obtain⟨p1,p2⟩:=qt4 hn12;have p8:2^n<=8:=by
   have:=W5 (n:=2) (by decide) (show n<=3 by lia);simpa using this
  have es:=qT6 n;refine⟨_,rfl,t,_,0,.int (n:Nat),rfl,rfl,SqT.of ht,rfl,_,_,rfl,rfl,⟨by lia,by lia,by decide⟩,?_⟩;refine atS (σ':=[some (.ref t),some (.int ((2^n:Nat):Int))]) (by rw[<- es];rfl) ?_;have hsz:(2^n*2^n:Nat)<=64:=by
   have:=We p8 p8;lia
  have esq:((2^n:Nat):Int)*((2^n:Nat):Int)=((2^n*2^n:Nat):Int):=by push_cast;rfl
  have etn:(((2^n:Nat):Int)*((2^n:Nat):Int)).toNat=2^n*2^n:=by rw[esq,Xb]
  refine⟨_,rfl,_,rfl,_,_,rfl,rfl,.inl ⟨by lia,by lia⟩,_,rfl,by lia,by lia,λD hDn=>?_⟩;rw[etn];refine qq3 hDn (λk=>qi4 n (Qf.TR rows tp) (k/2^n) (k%2^n)) (λj z H3=>∃b,z=.ref b/\H3 b=some (.tup (vN [j/2^n,j%2^n,1,1]))) qX1 (qd5 (by lia)) (λi y H1 H2 t ⟨b,h1,h2⟩=>⟨b,h1,t _ _ h2⟩) ?_ ?_
  ·rintro i x H3 hi rfl s3 os ho Q1 Q2 q1 q2
   match os,ho with
   |[o1],_=>
    have f1:(i:Int)/((2^n:Nat):Int)=((i/2^n:Nat):Int):=(WY _ _).symm;have f2:(i:Int)%((2^n:Nat):Int)=((i%2^n:Nat):Int):=(Int.natCast_emod _ _).symm;have ecl:qi4 n (Qf.TR rows tp) (i/2^n) (i%2^n)=qi4 n (Qf.T rows tp) (i/2^n) (i%2^n):=qB9 n _ _ _ (xF5 ok n tp jO hd);rw[ecl] at q1 q2;have kM:i/2^n<4096:=Y2 (Nat.div_le_self _ _) (by lia);have kE:i%2^n<4096:=Y2 (Nat.mod_le _ _) (by lia);refine⟨_,rfl,_,rfl,_,rfl,_,_,rfl,rfl,⟨by lia,by lia⟩,_,rfl,_,rfl,_,_,rfl,rfl,by lia,t,n,tp,i/2^n,i%2^n,rows,by rw[<- f1,<- f2];rfl,hT.mono s3.tups,tok,kM,kE,_,rfl,?_⟩;refine ite2 (λhc=>?_) (λhc=>?_)
    ·refine⟨_,rfl,_,rfl,_,_,rfl,rfl,⟨by lia,by lia⟩,_,rfl,_,rfl,_,_,rfl,rfl,by lia,(by show 4<=sizeLine;decide),λb hb=>q2 hc _ _ (qb1 hb) ⟨b,rfl,?_⟩⟩;rw[qa1];show some (HO.tup [V.int ((i:Int)/((2^n:Nat):Int)),V.int ((i:Int)%((2^n:Nat):Int)),V.int 1,V.int 1])=_;rw[f1,f2]
     rfl
    ·exact q1 (Bool.not_eq_true _▸hc) H3 (Same.refl _)
  ·intro ys H3 s3 k6 jK jM;refine q H3 D s3 hDn (RowsL.of k6 (by unfold ql5;rw[Ze];exact jK) λi y r h1 h2=>?_);unfold ql5 at h2;rw[Zb] at h2;obtain⟨j,hj,rfl⟩:=Zj.mp h2;exact jM i y j h1 hj
end
theorem qx7 (ds:List PyData):PyData.eqv (.list ds) (.list [])=decide (ds=[]):=by
 cases ds with
 |nil=>rfl
 |cons a l=>simp[PyData.eqv,PyData.eqvAll]
theorem RowsL.push {H:Hp}{p k:Addr}{rows:List Row}{r:Row}{bs:List Addr}(h0:H p=some (.lst (bs.map V.ref))) (h1:bs.length=rows.length) (h2:∀(i:Nat) b r,bs[i]?=some b->rows[i]?=some r->H b=some (.tup (vN r))) (hk:H k=none):RowsL (upd (upd H k (.tup (vN r))) p (.lst (bs.map V.ref++[.ref k]))) p (rows++[r]):=by
 have npk:p≠k:=qa3 h0 hk;have tp:∀{b:Addr}{x:List V},H b=some (.tup x)->upd (upd H k (.tup (vN r))) p (.lst (bs.map V.ref++[.ref k])) b=some (.tup x):=λ{b x} e=>by
  rw[qa5 (λz=>by rw[z,h0] at e;cases e),qa5 (qa3 e hk)];exact e
 refine⟨bs++[k],by rw[qa1,ZW];rfl,by rw[Zr,Zr,h1];rfl,λi b x e1 e2=>?_⟩;by_cases hi:i<bs.length
 ·rw[Zh hi] at e1;rw[Zh (by lia)] at e2;exact tp (h2 i b x e1 e2)
 ·rw[Zi (by lia)] at e1;rw[Zi (by lia),<- h1] at e2;have vX:i-bs.length=0:=by
   have:=(gS_ e1).1;simp at this;lia
  rw[vX] at e1 e2;cases e1;cases e2;rw[qa5 (Yx npk),qa1]
theorem xH0 {es:List Nat}{q:Nat}(h:InE es q):(valV (fK es) (Sum.inl (q:Int))).getD (.int (q:Nat))=.int (nm es q:Nat):=by
 by_cases z:q<2
 ·have:valV (fK es) (Sum.inl (q:Int))=none:=by
   cases e:valV (fK es) (Sum.inl (q:Int)) with
   |none=>rfl
   |some v=>
    unfold valV at e;obtain⟨kv,h1,h2⟩:=Zj.mp e;have hm:=List.mem_of_find?_eq_some h1;have hk:kv.1=Sum.inl (q:Int):=by simpa using List.find?_some h1
    obtain⟨i,hi⟩:=List.mem_iff_getElem?.mp hm;obtain⟨p,_,hp⟩:=xD7 hi;rw[hp] at hk;have:((p+2:Nat):Int)=(q:Int):=X7 hk;lia
  rw[this,qj2 z]
  rfl
 ·have hm:=h.resolve_left z;have ek:(Sum.inl (q:Int):Key)=fKey (q-2):=by
   show (Sum.inl (q:Int):Key)=Sum.inl ((q-2+2:Nat):Int);rw[show q-2+2=q by lia]
  rw[ek,qg6 z];show (valV (tabl fKey es 2) _).getD _=_;rw[ql3 qs5,Zp hm];show V.int _=V.int _;congr 1;lia
section
variable {P:Program}{w:World}{K:PySem.W.Frag}{mg:Str->Option Value}{base:Heap}
theorem scEnds:FnScope ["_law_rows", "_law_number_here", "_law_found", "_law_quarter"] ["_law_rows", "_law_number_here", "_law_found"] (qa4 xk9):=qd9
def xs2 (d:Nat):Sp:=λvs H Q _=>∃(kp e:Addr) (x:Nat) (ks:List Row) (es:List Nat),vs=[.ref kp,.int (x:Nat),.ref e]/\RowsAt H kp ks/\qb2 ks/\ks.length<=1190900/\x<ks.length+2/\dp ks x<=d/\Post ks es /\
 H e=some (.dK (fK es))/\∀H',But e H H'->H' e=some (.dK (fK (dfs ks d es x)))->Q .non H'
theorem xz6 {f:Addr}{fd:FuncData}(F:Fun K "_law_ends" "_law_ends" xk9 f fd) (B:Blt mg) (hE:mg "_law_ends" = some (.ref f)) (bE:Binds K fd ["_law_rows", "_law_number_here", "_law_found"] []):∀d,FnOk P w K mg base CX0 (d+1) f fd ["_law_rows", "_law_number_here", "_law_found"] (xs2 d):=by
 intro d
 induction d with
 |zero=>
  refine F.ok scEnds (λvs H Q E h=>?_) (λcdv A outer s H vs Q E hr h=>?_)
  ·obtain⟨kp,e,x,ks,es,rfl,_⟩:=h
   rfl
  ·obtain⟨kp,e,x,ks,es,rfl,hR,ok,hn,hx,hd,pe,he,q⟩:=h;have hu:A.units+3+1<cLine:=by
    have h2:A.units+3+16*0+200<cLine:=hr.un;lia
   have x2:=qw2 ok hx hd;refine⟨_,qa8 (qf1 (PW.pt (qU0 (qc0 xh7 (pv 1) qa6 (qb7 _)) (qG0 (qx9 (qm3 hu (pv 1) (pv 2)))))) qf7 qb6),?_⟩;refine⟨_,rfl,_,_,rfl,rfl,_,rfl,?_⟩;rw[Zq (show ¬(1:Int)<(x:Int) by lia)];exact iteF (iteF (q H (But.refl e H) he))
 |succ d ih=>
  refine F.ok scEnds (λvs H Q E h=>?_) (λcdv A outer s H vs Q E hr h=>?_)
  ·obtain⟨kp,e,x,ks,es,rfl,_⟩:=h
   rfl
  ·obtain⟨kp,e,x,ks,es,rfl,hR,ok,hn,hx,hd,pe,he,q⟩:=h;have hu:A.units+3+1<cLine:=by
    have h2:A.units+3+16*(d+1)+200<cLine:=hr.un;lia
   refine⟨_,qa8 (qf1 (PW.pt (qU0 (qc0 xh7 (pv 1) qa6 (qb7 _)) (qG0 (qx9 (qm3 hu (pv 1) (pv 2))))))
    (qb9 (qj0 Z2 rfl (qi9 (pxN qd1 (pv 0) (qb3 ql6 (pv 1) qa6))) (pgN 3 scEnds.nd)
     (qa8 (qf0 (pcN ih hr hE F.kp bE (qa0 (pv 0) (qa0 (pv 3) (qa0 (pv 2) qa2)))))))
    (qa8 (qu2 hu (pv 2) (pv 1) (qb3 qd3 (qa7 q79 (by rfl) B.len ZM (qa0 (pv 2) qa2)) qa6) (by rfl)))) qb6),?_⟩
   refine⟨_,rfl,_,_,rfl,rfl,_,rfl,?_⟩;have hx':=hx;have uf:dfs ks (d+1) es x=if x<2\/x-2∈es then es else (ks.getD (x-2) []).foldl (dfs ks d) es++[x-2]:=rfl
   refine ite2 (λhc=>?_) (λhc=>?_)
   ·have x2:¬x<2:=λz=>by have:=ZI hc;lia
    have ek:(Sum.inl (x:Int):Key)=fKey (x-2):=by
     show (Sum.inl (x:Int):Key)=Sum.inl ((x-2+2:Nat):Int);rw[show x-2+2=x by lia]
    have dg:DGet H e (.int (x:Int)) (valV (fK es) (Sum.inl (x:Int))):=DGet.k (k:=Sum.inl (x:Int)) he;refine⟨_,rfl,_,rfl,e,_,rfl,dg,_,rfl,?_⟩;unfold fK;rw[ek,ql3 qs5];by_cases hm:x-2∈es
    ·rw[Zp hm];rw[uf,Zp (.inr hm)] at q;exact iteF (q H (But.refl e H) he)
    ·rw[Zk hm];rw[uf,Zk (by rintro (z|z);exact x2 z;exact hm z)] at q;refine iteT ?_;have jB:x-2<ks.length:=by lia
     have hg:=qd0 jB;have eg0:ks.getD (x-2) []=ks.getD (x-2) []:=rfl;generalize hr0:ks.getD (x-2) []=r at q hg;obtain⟨bs,hkp,j9,jA⟩:=id hR;have vG:dp ks (x-2+2)<=d+1:=by rw[show x-2+2=x by lia];exact hd
     have kK:bs[x-2]?=some (bs[x-2]'(by lia)):=by simp[show x-2<bs.length by lia]
     have jQ:=jA (x-2) _ r kK hg;refine⟨_,rfl,_,rfl,_,_,rfl,rfl,kp,_,((x-2:Nat):Int),.ref (bs[x-2]'(by lia)),rfl,Yt V.int (show (x:Int)-2=((x-2:Nat):Int) by lia),SqT.of hkp,qe0 (by rw[Zb,kK];rfl),_,rfl,⟨_,SqT.of jQ⟩,
      qp5 (K:=K) (xs:=vN r) (λi σ H2=>But e H H2/\H2 e=some (.dK (fK ((r.take i).foldl (dfs ks d) es)))/\∃v3,σ=[some (.ref kp),some (.int (x:Nat)),some (.ref e),v3])
      ⟨But.refl e H,he,none,rfl⟩ (λi σ H2 _ ⟨s2,_⟩=>SqT.of (s2.tups he (λu z=>by cases z) _ _ jQ)) ?_ ?_⟩
     ·rintro i y σ H2 hy ⟨s2,jZ,v3,rfl⟩;obtain⟨m,hm',rfl⟩:=qi0 hy;obtain⟨b1,b2⟩:=qh2 ok hg vG (Zm hm');refine⟨_,rfl,_,rfl,_,rfl,kp,e,m,ks,(r.take i).foldl (dfs ks d) es,rfl,hR.mono (s2.tups he (λu z=>by cases z)),ok,hn,b1,b2,qn0 ok hg vG _ es (λz hz=>W2 hz) pe,jZ,λH3 s3 vF=>⟨s2.trans s3,?_,_,rfl⟩⟩;have v0:=(gS_ hm').1;have hme:=(gS_ hm').2;rw[<- YI v0,VD,hme];exact vF
     ·rintro σ H2 ⟨s2,jZ,v3,rfl⟩;rw[qb5,YS] at jZ;have pf:=qn0 ok hg vG r es (λz hz=>hz) pe;have fin:=(qe7 ok (d+1) es x pe hx' hd).1;rw[uf,Zk (by rintro (z|z);exact x2 z;exact hm z),hr0] at fin;have hni:x-2∉r.foldl (dfs ks d) es:=λz=>(Xz.mp fin.nd).2.2 (x-2) z (x-2) (by simp) rfl;have jS:=qo2 pf;have el:((fK (r.foldl (dfs ks d) es)).length:Int)+2=((2+(r.foldl (dfs ks d) es).length:Nat):Int):=by
       unfold fK;rw[ql2];lia
      have dq:DPut H2 e (.int (x:Int)) (.int (((fK (r.foldl (dfs ks d) es)).length:Int)+2)) (upd H2 e (.dK (fK (r.foldl (dfs ks d) es++[x-2])))):=by
       rw[el];have ep:fK (r.foldl (dfs ks d) es++[x-2])=putK (fK (r.foldl (dfs ks d) es)) (Sum.inl (x:Int)) (.int (2+(r.foldl (dfs ks d) es).length:Nat)):=by
        rw[ek];exact (qJ0 qs5 hni).symm
       rw[ep];refine DPut.k (k:=Sum.inl (x:Int)) jZ ?_;unfold fK;rw[ql2];exact qd5 (by lia)
      exact⟨_,rfl,e,_,rfl,jZ,_,_,rfl,rfl,_,rfl,_,rfl,e,_,rfl,dq,q _ (s2.trans But.upd) qa1⟩
   ·have x2:x<2:=by
     by_cases z:x<2
     ·exact z
     ·exact absurd (Zl (show (1:Int)<(x:Int) by lia)) hc
    rw[uf,Zp (.inl x2)] at q;exact iteF (q H (But.refl e H) he)
abbrev nIO:List Str:=["_law_telling_here", "_law_n", "_law_top", "_law_rows", "_law_found", "_law_told", "_law_number_here"]
theorem scIO:FnScope nIO ["_law_telling_here"] (qa4 qs2):=qd9
def spIO:Sp:=λvs H Q _=>∃(t:Addr) (n tp:Nat) (rows:List Row),vs=[.ref t]/\TellAt H t n tp rows/\qg1 n tp rows /\
 ∀H' t',Same H H'->TellAt H' t' n (nm (dfs rows n [] tp) tp) (told rows (dfs rows n [] tp))->Q (.ref t') H'
theorem xL3 {f fE:Addr}{fd fdE:FuncData}(F:Fun K "_law_in_order" "_law_in_order" qs2 f fd) (B:Blt mg)
  (hE:mg "_law_ends" = some (.ref fE)) (FE:Fun K "_law_ends" "_law_ends" xk9 fE fdE) (bE:Binds K fdE ["_law_rows", "_law_number_here", "_law_found"] []):FnOk P w K mg base CX0 14 f fd ["_law_telling_here"] spIO:=by
 have GE:∀d,FnOk P w K mg base CX0 (d+1) fE fdE ["_law_rows", "_law_number_here", "_law_found"] (xs2 d):=xz6 FE B hE bE;refine F.ok scIO (λvs H Q E h=>?_) (λcdv A outer s H vs Q E hr h=>?_)
 ·obtain⟨t,n,tp,rows,rfl,_⟩:=h
  rfl
 ·obtain⟨t,n,tp,rows,rfl,hT,⟨hn,ok,hl,jO,hd⟩,q⟩:=h;have hu:A.units+3+1<cLine:=by
   have h2:A.units+3+16*13+200<cLine:=hr.un;lia
  have hrE:Room (n+1) _:=hr.mono (by lia);refine seqE ⟨_,⟨qo9 (pv 0) (qo8 rfl (qc3 (pgN 1 scIO.nd) (qc3 (pgN 2 scIO.nd) (qc3 (pgN 3 scIO.nd) qj7))))⟩,?_⟩;refine seqE ⟨_,⟨psN 4 scIO.nd qX0⟩,?_⟩;refine seqE ⟨_,⟨qf0 (pcN (GE n) hrE hE FE.kp bE (qa0 (pv 3) (qa0 (pv 2) (qa0 (pv 4) qa2))))⟩,?_⟩;refine seqE ⟨_,⟨psN 5 scIO.nd (qf6 qa2)⟩,?_⟩;refine seqE ⟨_,⟨qj0 Z2 rfl (qp4 (qb4 (qD9 rfl) (by rfl) B.list Xh (qa0 (pv 4) qa2))) (pgN 6 scIO.nd)
   (qa8 (qf0 (PEb.go (qE8 Z0 Z4 Z5 qf2 ⟨pv 5⟩ (.cons ⟨qb4 (tupO K rfl) (by rfl) B.tuple ZG (qa0 (qe9 nIO (qa4 qs2) rfl rfl rfl scIO.nd (qi9 (pxN qd1 (pv 3) (qb3 ql6 (pv 6) qa6))) (λcl C fp s₀ H₀=>qU9 hu (pv 5) (pv 0) (pv 0) ⟨rfl,rfl,rfl,rfl⟩)) qa2)⟩ .nil rfl)))))⟩,?_⟩
  refine qh3 ⟨_,⟨qb0 (ql7 (Ars2.go (.cons ⟨pv 1⟩ (.cons ⟨qU9 hu (pv 4) (pv 2) (pv 2) ⟨rfl,rfl,rfl,rfl⟩⟩ (.cons ⟨qb4 (tupO K rfl) (by rfl) B.tuple ZG (qa0 (pv 5) qa2)⟩ .nil rfl) rfl) rfl)))⟩,?_⟩;obtain⟨rp,ht,hR⟩:=id hT;obtain⟨bs,kS,kQ,jA⟩:=id hR;refine⟨_,rfl,t,_,rfl,SqT.of ht,rfl,_,_,rfl,_,_,rfl,_,_,rfl,rfl,?_⟩;refine λe he=>⟨_,rfl,_,rfl,_,rfl,rp,e,tp,rows,[],rfl,hR.mono (qb1 he).tups,ok,by lia,jO,hd,qg5 rows,qa1,λH2 s2 jZ=>?_⟩;have S2:Same H H2:=λb o z=>s2 b o (qc2 z he) (qa3 z he);obtain⟨pe,hxE⟩:=qe7 ok n [] tp (qg5 rows) jO hd;generalize dfs rows n [] tp=es at jZ pe hxE q;have kG:=qo2 pe;refine⟨(by show 0<=sizeLine;decide),λD hD=>?_⟩;have S3:Same H (upd H2 D (.lst [])):=S2.trans (qb1 hD);have vF:=qc2 (u:=.lst []) jZ hD;have kX:upd H2 D (.lst []) D=some (.lst []):=qa1;have neD:e≠D:=qa3 jZ hD;have hDH:H D=none:=by
   cases z:H D with
   |none=>rfl
   |some o=>rw[S2 _ _ z] at hD;cases hD
  generalize upd H2 D (.lst [])=H3 at S3 vF kX;refine⟨_,rfl,e,_,rfl,vF,λLE vD=>?_⟩;have ekv:(fK es).map (λkv=>kV kv.1)=vN (es.map (·+2)):=by
   unfold fK tabl vN;rw[Ym,Ym];refine Xc λi=>?_;rw[Zb,Zb,W4];cases es[i]?<;>rfl
  rw[ekv];have nLe:LE≠e:=(qa3 vF vD).symm;have nLD:LE≠D:=(qa3 kX vD).symm;have S4:=S3.trans (qb1 (o:=.lst (vN (es.map (·+2)))) vD);have vZ:=qc2 (u:=.lst (vN (es.map (·+2)))) vF vD;have kN:=qc2 (u:=.lst (vN (es.map (·+2)))) kX vD;have hL4:upd H3 LE (.lst (vN (es.map (·+2)))) LE=some (.lst (vN (es.map (·+2)))):=qa1;generalize upd H3 LE (.lst (vN (es.map (·+2))))=H4 at S4 vZ kN hL4;refine⟨LE,rfl,⟨_,SqL.of hL4⟩,qq7 (K:=K) (a:=LE) (xs:=vN (es.map (·+2))) (λi σ H2=>Same H H2/\H2 LE=some (.lst (vN (es.map (·+2))))/\H2 e=some (.dK (fK es))/\RowsL H2 D ((told rows es).take i) /\
    ∃v6,σ=[some (.ref t),some (.int (n:Nat)),some (.int (tp:Nat)),some (.ref rp),some (.ref e),some (.ref D),v6])
   ⟨S4,hL4,vZ,⟨[],kN,rfl,λi b r e=>by simp at e⟩,none,rfl⟩ (λi σ H2 _ h=>SqL.of h.2.1) ?_ ?_⟩
  ·rintro i y σ H5 hy ⟨s5,hL5,v7,⟨cs,wK,kP,w6⟩,v6,rfl⟩;obtain⟨m2,vP,rfl⟩:=qi0 hy;rw[Zb] at vP;obtain⟨m,hm,rfl⟩:=Zj.mp vP;have hie:=(gS_ hm).1;have v0:=pe.lt m (Zm hm);have vY:=Qf.qd0 v0;have hti:=qm8 (rows:=rows) hm;have h4:=(ok m _ vY).1;have jJ:∀x∈rows.getD m [],InE es x:=λx hx=>by
    rcases pe.ch i m hm x hx with z|⟨j,hj,ej⟩
    ·exact .inl z
    ·exact .inr (Zm ej)
   generalize rows.getD m []=r at vY hti h4 jJ;have wU:bs[m]?=some (bs[m]'(by lia)):=Zc (by lia);have jQ:=s5 _ _ (jA m _ r wU vY);generalize bs[m]'(by lia)=bb at wU jQ;refine⟨_,rfl,.inl ⟨rfl,_,SqL.of wK⟩,_,rfl,_,rfl,_,_,rfl,rfl,rp,_,((m:Nat):Int),.ref bb,rfl,Yt V.int (show ((m+2:Nat):Int)-2=(m:Nat) by lia),SqT.of (s5 _ _ kS),qe0 (by rw[Zb,wU];rfl),bb,rfl,⟨_,SqT.of jQ⟩,λD2 jY=>qe1 jY (λi z _=>∃x:Nat,r[i]?=some x/\z=.int (nm es x:Nat)) (qh4 (K:=K) jQ) (by rw[qb5,h4];decide) (λ_ _ _ _ _ _ h=>h) ?_ ?_⟩
   ·intro j x H6 hj hx s6 Q' hq;obtain⟨y,hy',rfl⟩:=qi0 hx;refine⟨_,rfl,e,rfl,.inl ⟨_,Rd.of (s6 _ _ v7)⟩,_,rfl,_,rfl,_,DGet.k (k:=Sum.inl (y:Int)) (s6 _ _ v7),?_⟩;exact hq _ _ (Same.refl _) ⟨y,hy',xH0 (jJ y (Zm hy'))⟩
   ·intro ys H6 s6 kO jK jM;have ey:ys=vN (r.map (nm es)):=by
     refine qh5 (by rw[jK,qb5,qb5,Ze]) λi x hx=>?_;obtain⟨m',hm',rfl⟩:=jM i x hx;exact qT0 (by rw[Zb,hm'];rfl)
    subst ey;refine⟨D2,_,rfl,.inl ⟨SqL.of kO,λk hk=>?_⟩⟩;have hD6:=s6 _ _ wK;have hci:cs.length=i:=by rw[kP,ZX,qe8];lia
    have hD7:=qc2 (u:=.tup (vN (r.map (nm es)))) hD6 hk;refine⟨D,_,.ref k,rfl,rfl,hD7,by rw[Ze,hci];exact qd5 (by lia),?_⟩;have hpush:=RowsL.push (r:=r.map (nm es)) (rows:=(told rows es).take i) hD6 kP (λi b r e1 e2=>s6 _ _ (w6 i b r e1 e2)) hk;have htk:(told rows es).take (i+1)=(told rows es).take i++[r.map (nm es)]:=by rw[VZ,hti];rfl
    rw[<- htk] at hpush;refine⟨λb o z=>?_,?_,?_,hpush,_,rfl⟩
    ·rw[qa5 (qa3 z hDH)];exact qc2 (s6 _ _ (s5 _ _ z)) hk
    ·rw[qa5 nLD];exact qc2 (s6 _ _ hL5) hk
    ·rw[qa5 neD];exact qc2 (s6 _ _ v7) hk
  ·rintro σ H5 ⟨s5,hL5,v7,hRL,v6,rfl⟩;have htl:(told rows es).take (vN (es.map (·+2))).length=told rows es:=by rw[qb5,Ze,<- qe8 rows es,YS]
   rw[htl] at hRL;obtain⟨cs,wK,kP,w6⟩:=hRL;refine⟨_,rfl,_,rfl,e,rfl,.inl ⟨_,Rd.of v7⟩,_,rfl,_,rfl,_,DGet.k (k:=Sum.inl (tp:Int)) v7,?_⟩;rw[xH0 hxE];refine⟨_,rfl,D,_,rfl,.inl ⟨SqL.of wK,λl hl=>⟨(by show 3<=sizeLine;decide),λt' ht'=>?_⟩⟩⟩;refine q _ t' ((s5.trans (qb1 hl)).trans (qb1 ht')) ⟨l,qa1,cs,qc2 qa1 ht',kP,λi c r e1 e2=>qc2 (qc2 (w6 i c r e1 e2) hl) ht'⟩
end
theorem q45:(List.range 1000).all (λx=>decide ((PyData.shown (.int ((x:Nat):Int))).length<=3))=true:=by decide +kernel
theorem qK8 {x:Nat}(h:x<1000):(PyData.shown (.int ((x:Nat):Int))).length<=3:=ZI (YQ.mp q45 x (ZH.mpr h))
theorem qK9 {x:Nat}(h:x<1000):((x:Nat):Int).natAbs.log2<1920:=by
 rw[Int.natAbs_natCast];have:x.log2<=x:=Nat.log2_le_self x;lia
theorem qQ6:∀(r:Row),(∀x∈r,x<1000)->((PyData.shownAll ((r.map λx:Nat=>(x:Int)).map PyData.int)).map (·.length)).sum<=3*r.length/\(PyData.shownAll ((r.map λx:Nat=>(x:Int)).map PyData.int)).length=r.length
 |[],_=>⟨Zd _,rfl⟩
 |x::r,h=>by
  obtain⟨h1,h2⟩:=qQ6 r λy hy=>h y (Zn _ hy);have h3:=qK8 (h x Zu);constructor
  ·show (PyData.shown (.int ((x:Nat):Int))).length+((PyData.shownAll ((r.map λx:Nat=>(x:Int)).map PyData.int)).map (·.length)).sum<=3*(r.length+1);lia
  ·show (PyData.shownAll ((r.map λx:Nat=>(x:Int)).map PyData.int)).length+1=r.length+1;rw[h2]
theorem qF5:∀(rows:List Row),(∀r∈rows,r.length=4/\∀x∈r,x<1000)->((PyData.shownAll (ql9 rows)).map (·.length)).sum<=23*rows.length/\(PyData.shownAll (ql9 rows)).length=rows.length
 |[],_=>⟨Zd _,rfl⟩
 |r::rows,h=>by
  obtain⟨h1,h2⟩:=qF5 rows λy hy=>h y (Zn _ hy);obtain⟨h4,hx⟩:=h r Zu;obtain⟨h5,h6⟩:=qQ6 r hx;have h7:(PyData.shown (dT (r.map λx:Nat=>(x:Int)))).length<=23:=by
   have:=tupleText_len_le (PyData.shownAll ((r.map λx:Nat=>(x:Int)).map PyData.int));show (tupleText (PyData.shownAll ((r.map λx:Nat=>(x:Int)).map PyData.int))).length<=23;rw[h6] at this;lia
  constructor
  ·show (PyData.shown (dT (r.map λx:Nat=>(x:Int)))).length+((PyData.shownAll (ql9 rows)).map (·.length)).sum<=23*(rows.length+1);lia
  ·show (PyData.shownAll (ql9 rows)).length+1=rows.length+1;rw[h2]
theorem q00:∀(r:Row),(∀x∈r,x<1000)->PyData.showableAll ((r.map λx:Nat=>(x:Int)).map PyData.int)=true
 |[],_=>rfl
 |x::r,h=>by
  show (decide (((x:Nat):Int).natAbs.log2<1920)&&PyData.showableAll ((r.map λx:Nat=>(x:Int)).map PyData.int))=true;rw[q00 r λy hy=>h y (Zn _ hy),Zl (qK9 (h x Zu))]
  rfl
theorem qQ7:∀(rows:List Row),(∀r∈rows,∀x∈r,x<1000)->PyData.showableAll (ql9 rows)=true
 |[],_=>rfl
 |r::rows,h=>by
  show (PyData.showableAll ((r.map λx:Nat=>(x:Int)).map PyData.int)&&PyData.showableAll (ql9 rows))=true;rw[qQ7 rows λy hy=>h y (Zn _ hy),q00 r (h r Zu)]
  rfl
theorem qF6:∀(r:List Int),PyData.hasDictAll (r.map PyData.int)=false
 |[]=>rfl
 |x::r=>by
  show (false||PyData.hasDictAll (r.map PyData.int))=false;rw[qF6 r];rfl
theorem qC2:∀(rows:List Row),PyData.hasDictAll (ql9 rows)=false
 |[]=>rfl
 |r::rows=>by
  show (PyData.hasDictAll ((r.map λx:Nat=>(x:Int)).map PyData.int)||PyData.hasDictAll (ql9 rows))=false;rw[qF6,qC2 rows];rfl
theorem qC3 (n top:Nat) (rows:List Row):(qp9 n top rows).hasDict=false:=by
 show (false||(false||(PyData.hasDictAll (ql9 rows)||false)))=false;rw[qC2];rfl
theorem xH1 {n tp:Nat}{rows:List Row}(c:qg1 n tp rows):n<1000/\tp<1000/\∀r∈rows,r.length=4/\∀x∈r,x<1000:=by
 obtain⟨c1,c2,c3,c4,c5⟩:=c;refine⟨by lia,by lia,λr hm=>?_⟩;obtain⟨i,hi,e⟩:=ZK.mp hm;obtain⟨h4,hx⟩:=c2 i r (by rw[Zc hi,e]);exact⟨h4,λx hm=>by have:=hx x hm;lia⟩
theorem qC4 {n top:Nat}{rows:List Row}(c:qg1 n top rows):(qp9 n top rows).shown.length<=sizeLine:=by
 obtain⟨hn,jJ,hr⟩:=xH1 c;have hl:=c.2.2.1;obtain⟨h1,h2⟩:=qF5 rows hr;have h3:=tupleText_len_le (PyData.shownAll (ql9 rows));have h4:=tupleText_len_le [PyData.shown (.int ((n:Nat):Int)),PyData.shown (.int ((top:Nat):Int)),tupleText (PyData.shownAll (ql9 rows))];have h5:=qK8 hn;have h6:=qK8 jJ;rw[h2] at h3;show (tupleText [PyData.shown (.int ((n:Nat):Int)),PyData.shown (.int ((top:Nat):Int)),tupleText (PyData.shownAll (ql9 rows))]).length<=sizeLine;have e:sizeLine=16777216:=by decide
 simp only[ZC,WJ,List.sum_cons,List.sum_nil,ZJ,VP] at h4;lia
theorem qF7 {n top:Nat}{rows:List Row}(c:qg1 n top rows):(qp9 n top rows).showable=true:=by
 obtain⟨hn,jJ,hr⟩:=xH1 c;show (decide (((n:Nat):Int).natAbs.log2<1920)&&(decide (((top:Nat):Int).natAbs.log2<1920)&&(PyData.showableAll (ql9 rows)&&true)))=true;rw[qQ7 rows (λr hm=>(hr r hm).2),Zl (qK9 hn),Zl (qK9 jJ)]
 rfl
def dSs (ss:List Stp):PyData:=.list (ss.map dS)
theorem xz7 (ss:List Stp):(dSs ss).canLay0=true:=qC0 ss
theorem q01:∀ss:List Stp,PyData.depthAll (ss.map dS)<=3
 |[]=>by simp[PyData.depthAll]
 |s::ss=>by
  have a:=q01 ss;have b:=qZ6 s;simp only[ZC,PyData.depthAll];lia
theorem qL0 (ss:List Stp):(dSs ss).depth<=60:=by
 have:=q01 ss;unfold dSs;simp only[PyData.depth];lia
theorem StepsL.data {H:Hp}{p:Addr}{ss:List Stp}(h:StepsL H p ss):DataAt H (.ref p) (dSs ss):=by
 obtain⟨xs,h1,h2⟩:=h.datas;exact .lst h1 h2
theorem xg8 {n tp:Nat}{rows:List Row}{s:Stp}(c:qg1 n tp rows) (h:s∈qc1 tp rows):qg1 n (ren s.at (nbP rows s) tp) (qc5 s.at (nbP rows s) rows):=by
 obtain⟨c1,c2,c3,c4,c5⟩:=c;have hk:=xm8 h;obtain⟨b1,b2⟩:=xq8 c2 h;exact⟨c1,qJ7 c2 hk b1,by rw[qJ6 hk];lia,xm5 hk b1 c4,ZL (xx2 c2 hk b1 b2 tp c4) c5⟩
section
variable {P:Program}{w:World}{K:PySem.W.Frag}{mg:Str->Option Value}{base:Heap}
theorem scLDeps:FnScope ["_law_rows", "_law_found", "_law_row_here"] ["_law_rows"] (qa4 xb8):=qd9
theorem RowsL.s {H:Hp}{p:Addr}{rows:List Row}(h:RowsL H p rows):RowsS H p rows:=let ⟨bs,a,b,c⟩:=h;⟨bs,.inr a,b,c⟩
def xg9:Sp:=λvs H Q _=>∃(p:Addr) (rows:List Row),vs=[.ref p]/\RowsS H p rows/\qb2 rows/\rows.length<=1190900/\∀H' D,Same H H'->H' D=some (.lst (vN (deps rows)))->Q (.ref D) H'
theorem xo7 {f:Addr}{fd:FuncData}(F:Fun K "_law_depths" "_law_depths" xb8 f fd) (B:Blt mg):FnOk P w K mg base CX0 1 f fd ["_law_rows"] xg9:=by
 refine F.ok scLDeps (λvs H Q E h=>?_) (λcdv A outer s H vs Q E hr h=>?_)
 ·obtain⟨p,rows,rfl,_⟩:=h
  rfl
 ·obtain⟨p,rows,rfl,hR,ok,hn,q⟩:=h;refine⟨_,qb9 (psN 1 scLDeps.nd (qf6 (qa0 qa6 (qa0 qa6 qa2))))
   (qb9 (qj0 Z2 rfl (xE1 (pv 0)) (pgN 2 scLDeps.nd)
    (qa8 (qf0 (q14 Z0 Z4 Z5 qf2 (pv 1) (qa0 (qb3 qd3 qa6 (qa7 (qN6 rfl) (by rfl) B.max XZ
     (qa0 (qe9 ["_law_rows", "_law_found", "_law_row_here"] (qa4 xb8) rfl rfl rfl scLDeps.nd (qi9 (pv 2)) (λcl C fp s₀ H₀=>pxN (ixL K rfl) (pv 2) (pv 0))) qa2))) qa2)))))
   (qa8 (qb0 (pv 1)))),?_⟩
  refine⟨(by show 2<=sizeLine;decide),λD hD=>?_⟩;obtain⟨bs,hp,j9,jA⟩:=id hR;have jI:(bs.map V.ref).length=rows.length:=by rw[Ze];exact j9
  refine⟨_,rfl,p,rfl,xl7 (K:=K) (a:=p) (xs:=bs.map V.ref) (λi σ H2=>Same H H2/\H2 D=some (.lst (vN (deps (rows.take i))))/\∃v2,σ=[some (.ref p),some (.ref D),v2])
   (hp.elim (λh=>.inr λi σ H2 ⟨s2,_⟩=>SqT.of (s2 _ _ h)) (λh=>.inl λi σ H2 ⟨s2,_⟩=>SqL.of (s2 _ _ h)))
   ⟨qb1 hD,qa1,none,rfl⟩ ?_ ?_⟩
  ·rintro i y σ H2 hy ⟨s2,jR,v2,rfl⟩;have hi:i<rows.length:=by rw[<- jI];exact (gS_ hy).1
   rw[Zb] at hy;obtain⟨b,hb,rfl⟩:=Zj.mp hy;have jF:rows[i]?=some rows[i]:=by simp[hi]
   have jQ:=s2 _ _ (jA i b rows[i] hb jF);have rk:=ok i _ jF;have tl:(rows.take i).length=i:=by rw[ZX];lia
   have vA:∀x,x<i+2->(deps (rows.take i))[x]?=some (dp (rows.take i) x):=λx hx=>qO5 (by rw[tl];exact hx);generalize rows[i]=r at jF jQ rk;refine⟨_,rfl,.inl ⟨rfl,_,SqL.of jR⟩,_,rfl,b,rfl,⟨_,SqT.of jQ⟩,λD2 jY=>qe1 jY (λj z _=>∃x,r[j]?=some x/\z=.int (dp (rows.take i) x:Nat)) (qh4 (K:=K) jQ) (by rw[qb5,rk.1];decide) (λ_ _ _ _ _ _ h=>h) ?_ ?_⟩
   ·intro j x H3 hj hx s3 Q' hq;obtain⟨m,hm,rfl⟩:=qi0 hx;have jB:=rk.2 m (Zm hm);exact⟨_,rfl,_,rfl,D,_,(m:Int),.int (dp (rows.take i) m:Nat),rfl,rfl,SqL.of (s3 _ _ jR),qs3 (vA m jB),hq _ _ (Same.refl _) ⟨m,hm,rfl⟩⟩
   ·intro ys H3 s3 k6 jK jM;have ey:ys=(r.map (dp (rows.take i))).map (λn:Nat=>V.int (n:Int)):=by
     refine qh5 (by rw[jK,qb5,Ze,Ze]) λj x hx=>?_;obtain⟨m,hm,rfl⟩:=jM j x hx;rw[Zb,Zb,hm];rfl
    have e2:ys=((r.map (dp (rows.take i))).map (λn:Nat=>(n:Int))).map V.int:=ey.trans (qw1 _);have jH:r.map (dp (rows.take i))≠[]:=λz=>by
     have:=Yt List.length z;rw[Ze,rk.1] at this;cases this
    refine⟨D2,(r.map (dp (rows.take i))).map (λn:Nat=>(n:Int)),rfl,e2▸k6,λz=>jH (YU.mp z),_,_,rfl,rfl,?_⟩;rw[qX5 jH];have kA:=s3 _ _ jR;refine⟨D,_,_,rfl,rfl,kA,?_,?_⟩
    ·rw[qb5,qi2,tl];exact qd5 (by lia)
    ·have nD:∀b o,H b=some o->b≠D:=λb o e=>qa3 e hD;refine⟨λb o e=>by rw[qa5 (nD b o e)];exact s3 _ _ (s2 _ _ e),?_,_,rfl⟩;rw[qa1,qO4 jF];unfold vN;rw[ZW]
     rfl
  ·rintro σ H2 ⟨s2,jR,v2,rfl⟩;refine⟨_,rfl,q H2 D s2 ?_⟩;rw[jI,YS] at jR;exact jR
theorem PurseAt.keep {H:Hp}{p a:Addr}{o:HO}(h:PurseAt H p) (ha:H a=none):PurseAt (upd H a o) p:=h.same (qb1 ha)
theorem qt7 (rows:List Row):(PyData.list (rows.map λr=>dT (r.map λx:Nat=>(x:Int)))).canLay0=true:=by
 show PyData.canLayAll0 _=true
 induction rows with
 |nil=>simp[PyData.canLayAll0]
 |cons r rows ih=>
  show (PyData.canLay0 (dT _)&&PyData.canLayAll0 _)=true;rw[ih,qV3];rfl
theorem qF8 (rows:List Row):(PyData.list (rows.map λr=>dT (r.map λx:Nat=>(x:Int)))).depth<=60:=by
 have key:PyData.depthAll (rows.map λr=>dT (r.map λx:Nat=>(x:Int)))<=2:=by
  induction rows with
  |nil=>simp[PyData.depthAll]
  |cons r rows ih=>
   have:=xl2 (r.map λx:Nat=>(x:Int));simp only[ZC,PyData.depthAll];lia
 simp only[PyData.depth];lia
theorem scRowDr:FnScope ["_law_pot_here", "_law_rows", "_law_way"] ["_law_pot_here", "_law_rows"] (qa4 qE4):=qd9
def xh0:Sp:=λvs H Q _=>∃(pp rp:Addr) (rows:List Row),vs=[.ref pp,.ref rp]/\PurseAt H pp/\RowsL H rp rows/\rp≠pp/\qb2 rows/\rows.length<=900/\∀H' b r,But pp H H'->PurseAt H' pp->H' b=some (.tup (vN r))->xv6 rows.length r->Q (.ref b) H'
theorem xo8 {f fD:Addr}{fd fdD:FuncData}(F:Fun K "_law_row" "_law_row" qE4 f fd) (B:Blt mg) (hD:mg "_law_digit" = some (.ref fD)) (FD:Fun K "_law_digit" "_law_digit" qA5 fD fdD) (bD:Binds K fdD ["_law_pot_here", "_law_many"] []):FnOk P w K mg base CX0 2 f fd ["_law_pot_here", "_law_rows"] xh0:=by
 have GD:FnOk P w K mg base CX0 1 fD fdD ["_law_pot_here", "_law_many"] qA9:=qx3 FD;refine F.ok scRowDr (λvs H Q E h=>?_) (λcdv A outer s H vs Q E hr h=>?_)
 ·obtain⟨pp,rp,rows,rfl,_⟩:=h
  rfl
 ·obtain⟨pp,rp,rows,rfl,hp,hR,kS,ok,hn,q⟩:=h;refine seqE ⟨_,⟨psN 2 scRowDr.nd (pcN GD hr hD FD.kp bD (qa0 (pv 0) (qa0 qa6 qa2)))⟩,?_⟩;refine seqE ⟨_,⟨qf1 (PW.pt (qU0 (qc0 q57 (pv 2) qa6 (qb7 _)) (qG0 (qc0 (qr4 hr) (pv 1) (qf6 qa2) (qb7 _))))) (qa8 (qb0 (pxN qd7 (pv 1) (pcN GD hr hD FD.kp bD (qa0 (pv 0) (qa0 (qa7 qa9 (by rfl) B.len ZM (qa0 (pv 1) qa2)) qa2)))))) qb6⟩,?_⟩;refine seqE ⟨_,⟨qf1 (qc0 q57 (pv 2) qa6 (qb7 _)) (qa8 (qb0 (qb3 xa5 (ql7 (qa0 (pcN GD hr hD FD.kp bD (qa0 (pv 0) (qa0 qa6 qa2))) qa2)) qa6))) qb6⟩,?_⟩;refine seqE ⟨_,⟨qf1 (qc0 qu1 (pv 2) qa6 (qb7 _)) (qa8 (qb0 (qb4 qf4 (by rfl) B.tuple ZG (qa0 (qe9 ["_law_pot_here", "_law_rows", "_law_way"] (qa4 qE4) rfl rfl rfl scRowDr.nd (qh6 (by rfl) B.range (qa0 qa6 qa2)) (λcl C fp s₀ H₀=>pcN GD hr hD FD.kp bD (qa0 (pv 1) (qa0 qa6 qa2)))) qa2)))) qb6⟩,?_⟩;refine qh3 ⟨_,⟨qb0 (qb4 qf4 (by rfl) B.tuple ZG (qa0 (qe9 ["_law_pot_here", "_law_rows", "_law_way"] (qa4 qE4) rfl rfl rfl scRowDr.nd (qh6 (by rfl) B.range (qa0 qa6 qa2)) (λcl C fp s₀ H₀=>pcN GD hr hD FD.kp bD (qa0 (pv 1) (qa0 (qb3 qd3 (qa7 (lenS K rfl) (by rfl) B.len ZM (qa0 (pv 2) qa2)) qa6) qa2)))) qa2))⟩,?_⟩;refine⟨_,rfl,pp,7,rfl,hp,by decide,by decide,λd H1 hd b1 jV=>?_⟩;have jS:∃a b:Int,H pp=some (.lst [.int a,.int b]):=by obtain⟨a,b,e,_⟩:=hp;exact⟨a,b,e⟩
  obtain⟨pa,pb,kC⟩:=jS;have hR1:=hR.but b1 kS kC (λu z=>nomatch z);obtain⟨bs,vL,j9,jA⟩:=id hR1;have jI:(bs.map V.ref).length=rows.length:=by rw[Ze];exact j9
  refine⟨_,rfl,rfl,_,rfl,?_⟩;refine ite2 (λhc=>?ya) (λhc=>?yb)
  case' yb=>refine iteF ?_
  case' ya=>
   refine⟨_,rfl,(by show 0<=sizeLine;decide),λD0 kR=>?_⟩;have hrD:=qc2 (u:=.lst []) vL kR;have dr:DatasAt (upd H1 D0 (.lst [])) (bs.map V.ref) (rows.map λr=>dT (r.map λx:Nat=>(x:Int))):=qk6 j9 λi b r e1 e2=>qc2 (jA i b r e1 e2) kR;refine⟨_,_,.lst hrD dr,.lst qa1 .nil,qt7 rows,by simp[PyData.canLay0,PyData.canLayAll0],qF8 rows,_,rfl,?_⟩;rw[qx7];by_cases hz:rows=[]
   case neg=>
    rw[Zq (λz=>hz (YU.mp z))];refine iteT ?_;have hpos:0<rows.length:=XJ.mpr hz;refine⟨_,rfl,_,rfl,_,rfl,rp,_,rfl,.inl (SqL.of hrD),pp,rows.length,by rw[jI];rfl,jV.keep kR,hpos,by lia,λx H2 hx b2 k9=>?_⟩;have kK:bs[x]?=some (bs[x]'(by lia)):=by simp[show x<bs.length by lia]
    have hg:rows[x]?=some rows[x]:=by simp[hx]
    have kH:=b2 _ _ hrD kS;have vU:=jA x _ _ kK hg;have nbp:bs[x]'(by lia)≠pp:=by
     obtain⟨a,b,e,_⟩:=jV;exact qp3 vU e (λz=>nomatch z)
    refine⟨rp,_,(x:Int),.ref (bs[x]'(by lia)),rfl,rfl,SqL.of kH,qe0 (by rw[Zb,kK];rfl),?_⟩;have rk:=ok x _ hg;exact q _ _ rows[x] (λb o e nb=>b2 _ _ (qc2 (b1 _ _ e nb) kR) nb) k9 (b2 _ _ (qc2 vU kR) nbp) ⟨rk.1,λy hy=>by have:=rk.2 y hy;lia⟩
   subst hz;rw[Zl (by rfl)];refine iteF ?_;have b1':But pp H (upd H1 D0 (.lst [])):=λb o e nb=>qc2 (b1 _ _ e nb) kR;have hp1':=jV.keep (o:=.lst []) kR;generalize upd H1 D0 (.lst [])=H9 at b1' hp1' hrD;clear b1 jV vL hR1 jA kR dr;have b1:=b1';have jV:=hp1';have vL:=hrD;have rows0:True:=trivial;obtain⟨rows,hrows⟩:∃rows:List Row,rows=[]:=⟨_,rfl⟩;rw[<- hrows] at q jI hn
  all_goals
   refine⟨_,rfl,rfl,_,rfl,?_⟩;refine ite2 (λhc=>?_) (λhc=>?_)
   ·refine⟨_,rfl,pp,2,rfl,jV,by decide,by decide,λx H2 hx b2 k9=>⟨(by show 1<=sizeLine;decide),λu hu=>⟨u,4,.int (x:Nat),rfl,rfl,qa1,by decide,by decide,λv hv=>?_⟩⟩⟩;refine q _ v [x,x,x,x] (λb o e nb=>qc2 (qc2 (b2 _ _ (b1 _ _ e nb) nb) hu) hv) ((k9.keep hu).keep hv) qa1 ⟨rfl,λy hy=>?_⟩;have:y=x:=by simpa using hy
    lia
   ·refine⟨_,rfl,_,_,rfl,rfl,_,rfl,?_⟩;refine ite2 (λvH=>?_) (λvH=>?_)
    ·refine⟨_,rfl,by decide,by decide,?_⟩;intro D kX;have npD:pp≠D:=by obtain⟨a,b,e,_⟩:=jV;exact qa3 e kX
     have nrD:rp≠D:=qa3 vL kX;refine qO8 (p:=pp) kX npD (λH5=>PurseAt H5 pp/\H5 rp=some (.lst (bs.map V.ref))) (λ_ y=>∃x:Nat,y=.int (x:Nat)/\x<rows.length+2) (by decide) (λH5 o ⟨⟨a,b,e,r⟩,e2⟩=>⟨⟨a,b,by rw[qa5 npD];exact e,r⟩,by rw[qa5 nrD];exact e2⟩) ⟨jV,vL⟩ ?_ ?_
     ·intro j H5 hj b5 i5 Q' hq;exact⟨_,rfl,pp,2,rfl,i5.1,by decide,by decide,λx H6 hx b6 vM=>hq _ _ b6 ⟨vM,b6 _ _ i5.2 kS⟩ ⟨x,rfl,by lia⟩⟩
     ·intro ys H5 b5 i5 kW jK jM;obtain⟨r,rfl,hrr⟩:=qT2 jM;rw[qb5] at jK;refine⟨D,_,rfl,.inl ⟨SqL.of kW,λt ht=>q _ t r (λb o e nb=>qc2 (b5 _ _ (b1 _ _ e nb) nb) ht) (i5.1.keep ht) qa1 ⟨jK,λx hx=>hrr x hx⟩⟩⟩
    ·refine⟨_,rfl,by decide,by decide,?_⟩;intro D kX;have npD:pp≠D:=by obtain⟨a,b,e,_⟩:=jV;exact qa3 e kX
     have nrD:rp≠D:=qa3 vL kX;refine qO8 (p:=pp) kX npD (λH5=>PurseAt H5 pp/\H5 rp=some (.lst (bs.map V.ref))) (λ_ y=>∃x:Nat,y=.int (x:Nat)/\x<rows.length+2) (by decide) (λH5 o ⟨⟨a,b,e,r⟩,e2⟩=>⟨⟨a,b,by rw[qa5 npD];exact e,r⟩,by rw[qa5 nrD];exact e2⟩) ⟨jV,vL⟩ ?_ ?_
     ·intro j H5 hj b5 i5 Q' hq;exact⟨_,rfl,_,rfl,rp,_,rfl,.inl (SqL.of i5.2),_,_,rfl,rfl,pp,rows.length+2,by rw[jI];rfl,i5.1,by lia,by lia,λx H6 hx b6 vM=>hq _ _ b6 ⟨vM,b6 _ _ i5.2 kS⟩ ⟨x,rfl,hx⟩⟩
     ·intro ys H5 b5 i5 kW jK jM;obtain⟨r,rfl,hrr⟩:=qT2 jM;rw[qb5] at jK;refine⟨D,_,rfl,.inl ⟨SqL.of kW,λt ht=>q _ t r (λb o e nb=>qc2 (b5 _ _ (b1 _ _ e nb) nb) ht) (i5.1.keep ht) qa1 ⟨jK,λx hx=>hrr x hx⟩⟩⟩
end
end Pr
namespace L2
open PySem PySem.Spec PyProof.Rows
section
variable {X:Cx}
theorem q46 {i0:Nat}{x0:Str}{px0 spos:Pos}{x y:Str}{p1 p2 tpos pos:Pos}{k:Nat}{elt iter c:Expr}{scope:Scope}{wi:TI}{tt:TT}{te:TE}(N:List Str) (sc:Scope) (vC:X.N=N) (kY:X.env.scope=sc) (hc:X.calm=true) (hN:X.N.Nodup) (vX:X.N[i0]?=some x0) (hx0:X.env.scope.names.lookup x0=some .local) (hi:PI X (.Tuple [.Name x p1,.Name y p2] k tpos) iter wi)
  (ht:∀cl C fp s₀ H₀,PT (qc4 X scope cl C [x,y] fp s₀ H₀) c tt) (he:∀cl C fp s₀ H₀,PE (qc4 X scope cl C [x,y] fp s₀ H₀) elt te) (wL:x≠y:=by decide)
  (jE:scope.kind=.function:=by rfl) (jC:scope.names.all (λy=>y.2 != .cell)=true:=by decide +kernel) (jD:scope.names.all (λy=>y.2 != .local||scope.names.lookup y.1==some .local)=true:=by decide +kernel)
  (hx:scope.names.lookup x=some .local:=by rfl) (hy:scope.names.lookup y=some .local:=by rfl) (jL:N.all (λy=>scope.names.lookup y != some .local)=true:=by decide +kernel)
  (kB:scope.names.all (λp=>p.2 != .free||(sc.names.lookup p.1==some .cell||sc.names.lookup p.1==some .free))=true:=by decide +kernel)
  (hs:∀x,foldedSetIterable iter X.env x=pure x:=by intro _;rfl) (hsw:swapsWith (.ListComp elt [⟨.Tuple [.Name x p1,.Name y p2] k tpos,iter,[c],0⟩] scope pos) (some (.Name x0 px0)) spos.line X.env=pure true:=by rfl) :
  PS X (.Assign [.Name x0 px0] (.ListComp elt [⟨.Tuple [.Name x p1,.Name y p2] k tpos,iter,[c],0⟩] scope pos) spos) (tAsg (qr7 2 wi (gTup X.K 2 (qu0 (qg7 0) (qu0 (qg7 1) gNil))) tt te) (qg7 i0)):=by
 obtain⟨s1,s2,s3,s4⟩:=qk5 vC kY jC jD jL kB;exact qW9 (nn:=[x,y]) (λenv=>isTrue c env (eval c env)) hc hi (λit acc env=>qH7 elt _ iter c scope pos it acc env) (λcl C fp s₀ H₀=>xv3 hc hN wL s3 hx hy) (λy os σ H R ho h=>loc2 ho h) (λcl C fp s₀ H₀ j8 s σ H Q I h=>ht cl C fp s₀ H₀ j8 s σ H Q I h) he jE s1 s2 s3 s4 hs hN vX hx0 hsw
end
end L2
namespace Pr
open PySem L2 Qf
section
variable {P:Program}{w:World}{K:PySem.W.Frag}{mg:Str->Option Value}{base:Heap}
abbrev nTl:List Str:=["_law_pot_here", "_law_n", "_law_most", "_law_rows", "_law_k", "_law_tops", "_law_top"]
theorem scTl:FnScope nTl ["_law_pot_here", "_law_n", "_law_most"] (qa4 qs1):=qd9
def spTl:Sp:=λvs H Q _=>∃(pp:Addr) (n most:Nat),vs=[.ref pp,.int (n:Nat),.int (most:Nat)]/\PurseAt H pp/\n<=12/\0<most/\most<=100 /\
 ∀H' t tp rows,But pp H H'->PurseAt H' pp->TellAt H' t n tp rows->qg1 n tp rows->rows.length<most->Q (.ref t) H'
theorem xL4 {f fD fR fX:Addr}{fd fdD fdR fdX:FuncData}(F:Fun K "_law_telling" "_law_telling" qs1 f fd) (B:Blt mg)
  (hD:mg "_law_digit" = some (.ref fD)) (FD:Fun K "_law_digit" "_law_digit" qA5 fD fdD) (bD:Binds K fdD ["_law_pot_here", "_law_many"] [])
  (hR:mg "_law_row" = some (.ref fR)) (FR:Fun K "_law_row" "_law_row" qE4 fR fdR) (bR:Binds K fdR ["_law_pot_here", "_law_rows"] [])
  (hX:mg "_law_depths" = some (.ref fX)) (FX:Fun K "_law_depths" "_law_depths" xb8 fX fdX) (bX:Binds K fdX ["_law_rows"] []):FnOk P w K mg base CX0 3 f fd ["_law_pot_here", "_law_n", "_law_most"] spTl:=by
 have GD:FnOk P w K mg base CX0 1 fD fdD ["_law_pot_here", "_law_many"] qA9:=qx3 FD;have GR:FnOk P w K mg base CX0 2 fR fdR ["_law_pot_here", "_law_rows"] xh0:=xo8 FR B hD FD bD;have GX:FnOk P w K mg base CX0 1 fX fdX ["_law_rows"] xg9:=xo7 FX B;refine F.ok scTl (λvs H Q E h=>?_) (λcdv A outer s H vs Q E hr h=>?_)
 ·obtain⟨pp,n,most,rfl,_⟩:=h
  rfl
 ·obtain⟨pp,n,most,rfl,hp,hn,hm0,hm,q⟩:=h;have jF:Room 1 _:=hr.mono (by decide);refine seqE ⟨_,⟨psN 3 scTl.nd (qf6 qa2)⟩,?_⟩;refine seqE ⟨_,⟨qj0 Z2 rfl (qh6 (by rfl) B.range (qa0 (pcN GD jF hD FD.kp bD (qa0 (pv 0) (qa0 (pv 2) qa2))) qa2)) (pgN 4 scTl.nd)
   (qa8 (qf0 (q14 Z0 Z4 Z5 qf2 (pv 3) (qa0 (pcN GR hr hR FR.kp bR (qa0 (pv 0) (qa0 (pv 3) qa2))) qa2))))⟩,?_⟩
  refine seqE ⟨_,⟨q46 (i0:=5) nTl (qa4 qs1) rfl rfl rfl scTl.nd rfl rfl (xk7 (by rfl) B.enum (qa0 (pcN GX jF hX FX.kp bX (qa0 (pv 3) qa2)) qa2)) (λcl C fp s₀ H₀=>qc0 qC5 (pv 1) (pv 3) (qb7 _)) (λcl C fp s₀ H₀=>pv 0)⟩,?_⟩;refine seqE ⟨_,⟨psN 6 scTl.nd (PEb.go ⟨pxN qd7 (pv 5) (PEb.go ⟨qb3 ql6 (qb3 ql6 (qa7 qa9 (by rfl) B.len ZM (qa0 (pv 5) qa2)) qa6) (PEb.go ⟨pcN GD jF hD FD.kp bD (qa0 (pv 0) (qa0 (pxN qd7 (qf6 (qa0 qa6 (qa0 (qa7 qa9 (by rfl) B.len ZM (qa0 (pv 5) qa2)) qa2))) (pcN GD jF hD FD.kp bD (qa0 (pv 0) (qa0 qa6 qa2)))) qa2))⟩)⟩)⟩)⟩,?_⟩;refine qh3 ⟨_,⟨qb0 (ql7 (Ars2.go (.cons ⟨pv 1⟩ (.cons ⟨pv 6⟩ (.cons ⟨qb4 qf4 (by rfl) B.tuple ZG (qa0 (pv 3) qa2)⟩ .nil rfl) rfl) rfl)))⟩,?_⟩;refine⟨(by show 0<=sizeLine;decide),λl hl=>?_⟩;have sl:Same H (upd H l (.lst [])):=qb1 hl;have npl:pp≠l:=by obtain⟨a,b,e,_⟩:=hp;exact qa3 e hl
  refine⟨_,rfl,_,rfl,pp,most,rfl,hp.same sl,hm0,by lia,λd H1 hd b1 jV=>?_⟩;refine⟨_,rfl,by lia,by lia,qy2 (lo:=0) (n:=(d:Int).toNat) (λi σ H2=>∃(rows:List Row) (v4:Option V),σ=[some (.ref pp),some (.int (n:Nat)),some (.int (most:Nat)),some (.ref l),v4,none,none]/\But pp H H2/\PurseAt H2 pp/\RowsL H2 l rows/\qb2 rows/\rows.length=i) ?_ ?_ ?_⟩
  ·exact⟨[],none,rfl,(But.of sl).trans b1,jV,⟨[],b1 _ _ qa1 npl.symm,rfl,λi b r e=>by simp at e⟩,λi r e=>by simp at e,rfl⟩
  ·rintro i σ H2 hi ⟨rows,v4,rfl,b2,k9,wJ,ok2,jW⟩;obtain⟨bs,jI,j9,jA⟩:=id wJ;refine⟨_,rfl,.inl ⟨rfl,_,SqL.of jI⟩,_,rfl,_,rfl,pp,l,rows,rfl,k9,wJ,npl.symm,ok2,by lia,λH3 b r b3 wN wH rk=>?_⟩;have wQ:=b3 _ _ jI npl.symm;refine⟨l,_,_,rfl,rfl,wQ,by rw[Ze,j9];exact qd5 (by lia),?_⟩;have kC:∃a b:Int,H2 pp=some (.lst [.int a,.int b]):=by obtain⟨a,b,e,_⟩:=k9;exact⟨a,b,e⟩
   obtain⟨pa,pb,kC⟩:=kC;have nbl:b≠l:=qp3 wH wQ (λz=>nomatch z);refine⟨rows++[r],_,rfl,λc o e nc=>?_,?_,⟨bs++[b],by rw[qa1,ZW];rfl,by simp[j9],λj c r' e1 e2=>?_⟩,λj r' e=>?_,by simp[jW]⟩
   ·rw[qa5 (qa3 e hl)];exact b3 _ _ (b2 _ _ e nc) nc
   ·obtain⟨a,c,e,r⟩:=wN;exact⟨a,c,by rw[qa5 npl];exact e,r⟩
   ·by_cases hj:j<bs.length
    ·rw[Zh hj] at e1;rw[Zh (by lia)] at e2;have h2:=jA j c r' e1 e2;have ncp:c≠pp:=qp3 h2 kC (λz=>nomatch z);have h3:=b3 _ _ h2 ncp;rw[qa5 (qp3 h3 wQ (λz=>nomatch z))];exact h3
    ·rw[Zi (by lia)] at e1;rw[Zi (by lia),<- j9] at e2;have vR:j-bs.length=0:=by
      have:=(gS_ e1).1;simp at this;lia
     rw[vR] at e1 e2;cases e1;cases e2;rw[qa5 nbl];exact wH
   ·by_cases hj:j<rows.length
    ·rw[Zh hj] at e;exact ok2 j r' e
    ·rw[Zi (by lia)] at e;have vR:j-rows.length=0:=by
      have:=(gS_ e).1;simp at this;lia
     rw[vR] at e;cases e;rw[show j=rows.length by lia];exact rk
  ·rintro σ H2 ⟨rows,v4,rfl,b2,k9,wJ,ok2,jW⟩;have vL:rows.length<most:=by rw[jW];lia
   refine⟨_,rfl,l,rows,rfl,wJ.s,ok2,by lia,λH3 D s3 k6=>?_⟩;refine⟨D,rfl,⟨_,SqL.of k6⟩,λD2 jY=>qu6 jY (λi=>decide (dp rows i<=n)) (λi=>.int (i:Nat)) (q28 (K:=K) k6) (by rw[qb5,qi2];exact qd5 (by lia)) ?_ ?_⟩
   ·rintro i x H4 hi ⟨t,y,rfl,hy,ht⟩ s4 os ho Q1 Q2 q1 q2
    match os,ho with
    |[o1,o2],_=>
     obtain⟨m,hm',rfl⟩:=qi0 hy;have vE:i<rows.length+2:=by rw[qb5,qi2] at hi;lia
     have em:m=dp rows i:=by
      have:=qO5 vE;rw[this] at hm';exact (Zv hm').symm
     subst em;refine⟨t,_,rfl,SqT.of ht,rfl,_,_,rfl,_,_,rfl,rfl,?_⟩;refine⟨_,rfl,_,rfl,_,_,rfl,rfl,_,rfl,?_⟩;have e:decide (((dp rows i:Nat):Int)<=(n:Int))=decide (dp rows i<=n):=by
      rw[Y4];lia
     rw[e];refine ite2 (λhc=>?_) (λhc=>?_)
     ·exact⟨_,rfl,q2 hc H4 (Same.refl _)⟩
     ·exact q1 (Yu.mpr hc) H4 (Same.refl _)
   ·intro H4 s4 kA;have ems:(((List.range (vN (deps rows)).length).filter λi=>decide (dp rows i<=n)).map λi=>V.int (i:Nat))=vN ((List.range (rows.length+2)).filter λi=>decide (dp rows i<=n)):=by
     rw[qb5,qi2];rfl
    rw[ems] at kA;generalize wP:(List.range (rows.length+2)).filter (λi=>decide (dp rows i<=n))=ms at kA;have jJ:∀x∈ms,x<rows.length+2/\dp rows x<=n:=λx hx=>by
     rw[<- wP] at hx;obtain⟨h1,h2⟩:=ZP.mp hx;exact⟨ZH.mp h1,ZI h2⟩
    have h0m:0∈ms:=by
     rw[<- wP];refine ZP.mpr ⟨ZH.mpr (by lia),Zl ?_⟩;rw[qE1 (by decide)];exact ZE _
    have v0:0<ms.length:=XJ.mpr λz=>by rw[z] at h0m;cases h0m
    have hmsl:ms.length<=rows.length+2:=by
     rw[<- wP];exact ZL (Yr _ _) (by simp)
    have hp4:=(k9.same s3).same s4;have hR4:=(wJ.same s3).same s4;have b4:But pp H H4:=λc o e nc=>s4 _ _ (s3 _ _ (b2 _ _ e nc));have nDp:D2≠pp:=by
     obtain⟨a,b,e,_⟩:=k9.same s3;exact (qa3 e jY).symm
    refine⟨_,rfl,_,rfl,D2,_,rfl,.inl (SqL.of kA),_,_,rfl,rfl,_,rfl,_,rfl,D2,_,rfl,.inl (SqL.of kA),(by show 2<=sizeLine;decide),λl2 hl2'=>?_⟩;have hp5:=hp4.keep (o:=.lst [.int 1,.int ((vN ms).length:Nat)]) hl2';have kW:=qc2 (u:=.lst [.int 1,.int ((vN ms).length:Nat)]) kA hl2';have n2p:l2≠pp:=by obtain⟨a,b,e,_⟩:=hp4;exact (qa3 e hl2').symm
    refine⟨_,rfl,pp,2,rfl,hp5,by decide,by decide,λd2 H6 jR b6 vM=>?_⟩;have hl6:=b6 _ _ (qa1 (H:=H4) (a:=l2) (o:=.lst [.int 1,.int ((vN ms).length:Nat)])) n2p;have kO:=b6 _ _ kW nDp;have fin:∀(m:Nat),0<m->m<=ms.length->∀σ':St,σ'=[some (.ref pp),some (.int (n:Nat)),some (.int (most:Nat)),some (.ref l),v4,some (.ref D2),none]->∀(d3:Nat) (H7:Hp),d3<m->But pp H6 H7->PurseAt H7 pp->∃(tp:Nat),atI (vN ms) (((vN ms).length:Int)-1-(d3:Int))=some (.int (tp:Nat))/\tp∈ms/\H7 D2=some (.lst (vN ms))/\But pp H H7/\RowsL H7 l rows:=λm m0 m1 σ' _ d3 H7 hd3' b7 wM=>by
     have hix:ms.length-1-d3<ms.length:=by lia
     refine⟨ms[ms.length-1-d3],?_,YR hix,b7 _ _ kO nDp,?_,?_⟩
     ·have:=qs3 (r:=ms) (i:=ms.length-1-d3) (n:=ms[ms.length-1-d3]) (by simp[hix]);rw[qb5]
      rwa [show ((ms.length-1-d3:Nat):Int)=(ms.length:Int)-1-(d3:Int) by lia] at this
     ·exact λc o e nc=>b7 _ _ (b6 _ _ (qc2 (b4 _ _ e nc) hl2') nc) nc
     ·obtain⟨pa,pb,kC,_⟩:=hp5;obtain⟨pa6,pb6,hpe6,_⟩:=vM;exact ((hR4.same (qb1 hl2')).but b6 npl.symm kC (λu z=>nomatch z)).but b7 npl.symm hpe6 (λu z=>nomatch z)
    have last:∀(tp:Nat) (H7:Hp),tp∈ms->But pp H H7->PurseAt H7 pp->RowsL H7 l rows->∃bs:List Addr,H7 l=some (.lst (bs.map V.ref))/\∀c,H7 c=none->∀t,upd H7 c (.tup (bs.map V.ref)) t=none->Q (.ref t) (upd (upd H7 c (.tup (bs.map V.ref))) t (.tup [.int (n:Nat),.int (tp:Nat),.ref c])):=λtp H7 jO b7 wM hR7=>by
     obtain⟨bs,hl7,j9,jA⟩:=hR7;refine⟨bs,hl7,λc hc t ht=>?_⟩;obtain⟨g1,g2⟩:=jJ tp jO;refine q _ t tp rows (λb o e nb=>qc2 (qc2 (b7 _ _ e nb) hc) ht) ((wM.keep hc).keep ht) ⟨c,qa1,bs,qc2 qa1 ht,j9,λi b r e1 e2=>qc2 (qc2 (jA i b r e1 e2) hc) ht⟩ ⟨hn,ok2,by lia,g1,g2⟩ vL
    have step:∀(m:Nat),atI [V.int 1,V.int ((vN ms).length:Nat)] (d2:Int)=some (.int (m:Nat))->0<m->m<=ms.length->rIxL K (.ref l2) (.int (d2:Int)) H6 λx H1=>True:=λm e _ _=>⟨l2,_,(d2:Int),.int (m:Nat),rfl,rfl,SqL.of hl6,e,trivial⟩;obtain⟨m,em,m0,m1⟩:∃m:Nat,atI [V.int 1,V.int ((vN ms).length:Nat)] (d2:Int)=some (.int (m:Nat))/\0<m/\m<=ms.length:=by
     have:d2=0\/d2=1:=by lia
     rcases this with rfl|rfl
     ·exact⟨1,rfl,by decide,v0⟩
     ·exact⟨ms.length,by rw[qb5];rfl,v0,Zd _⟩
    refine⟨l2,_,(d2:Int),.int (m:Nat),rfl,rfl,SqL.of hl6,em,pp,m,rfl,vM,m0,by lia,λd3 H7 hd3' b7 wM=>?_⟩;obtain⟨tp,et,jO,w5,b7',hR7⟩:=fin m m0 m1 _ rfl d3 H7 hd3' b7 wM;refine⟨_,_,rfl,rfl,D2,_,_,.int (tp:Nat),rfl,rfl,SqL.of w5,et,?_⟩;obtain⟨bs,hl7,lst⟩:=last tp H7 jO b7' wM hR7;exact⟨_,rfl,_,rfl,_,rfl,l,_,rfl,.inl ⟨SqL.of hl7,λc hc=>⟨(by show 3<=sizeLine;decide),λt ht=>lst c hc t ht⟩⟩⟩
end
theorem qt8 {H H1 H2:Hp}{p:Addr}(s:Same H H1) (hp:H p=none) (b:But p H1 H2):Same H H2:=λc o e=>b _ _ (s _ _ e) (qa3 e hp)
theorem TellAt.but {H H':Hp}{t p:Addr}{n tp:Nat}{rows:List Row}{o:HO}(h:TellAt H t n tp rows) (b:But p H H') (hp:H p=some o) (no:∀u,o≠.tup u):TellAt H' t n tp rows:=h.mono (b.tups hp no)
theorem none_of {H H1:Hp}{a:Addr}(s:Same H H1) (h:H1 a=none):H a=none:=by
 cases e:H a with
 |none=>rfl
 |some o=>rw[s _ _ e] at h;cases h
def TellsL (H:Hp) (l:Addr) (n:Nat) (ts:List (Nat×List Row)):Prop:=∃bs:List Addr,H l=some (.lst (bs.map V.ref))/\bs.length=ts.length/\∀(i:Nat) b x,bs[i]?=some b->ts[i]?=some x->TellAt H b n x.1 x.2
theorem TellsL.but {H H':Hp}{l p:Addr}{n:Nat}{ts:List (Nat×List Row)}{o:HO}(h:TellsL H l n ts) (b:But p H H') (hlp:l≠p) (hp:H p=some o) (no:∀u,o≠.tup u):TellsL H' l n ts:=by
 obtain⟨bs,h1,h2,h3⟩:=h;exact⟨bs,b _ _ h1 hlp,h2,λi c x e1 e2=>(h3 i c x e1 e2).but b hp no⟩
theorem TellsL.same {H H':Hp}{l:Addr}{n:Nat}{ts:List (Nat×List Row)}(h:TellsL H l n ts) (s:Same H H'):TellsL H' l n ts:=by
 obtain⟨bs,h1,h2,h3⟩:=h;exact⟨bs,s _ _ h1,h2,λi c x e1 e2=>(h3 i c x e1 e2).mono s.tups⟩
theorem q02 {H:Hp}{l:Addr}{xs ys:List V}(h:H l=some (.lst xs)):Tups H (upd H l (.lst ys)):=λb u e=>by
 rw[qa5 (qp3 e h (λz=>nomatch z))];exact e
theorem TellsL.push {H:Hp}{l b:Addr}{n tp:Nat}{rows:List Row}{ts:List (Nat×List Row)}{xs:List V}(h:TellsL H l n ts) (hl:H l=some (.lst xs)) (hT:TellAt H b n tp rows):TellsL (upd H l (.lst (xs++[.ref b]))) l n (ts++[(tp,rows)]):=by
 obtain⟨bs,h1,h2,h3⟩:=h;have tk:=q02 (ys:=xs++[.ref b]) hl;have ex:xs=bs.map V.ref:=by
  rw[h1] at hl;injection hl with z
  injection z with z
  exact z.symm
 refine⟨bs++[b],by rw[qa1,ex,qJ2],by rw[Zr,Zr,h2];rfl,λi c x e1 e2=>?_⟩;by_cases hi:i<bs.length
 ·rw[Zh hi] at e1;rw[Zh (by lia)] at e2;exact (h3 i c x e1 e2).mono tk
 ·rw[Zi (by lia)] at e1;rw[Zi (by lia)] at e2;have h0:i-bs.length=0:=by
   have:=(gS_ e1).1;simp at this;lia
  rw[h0] at e1;rw[<- h2,h0] at e2;have ec:c=b:=by simpa using e1.symm
  have eq:x=(tp,rows):=by simpa using e2.symm
  rw[ec,eq];exact hT.mono tk
structure Wlk (H:Hp) (pp fl:Addr) (n tp:Nat) (rows:List Row) (i:Nat) (h:Addr) (ts:List (Nat×List Row)) (tp':Nat) (rows':List Row) (H2:Hp):Prop where
 but:But pp H H2
 pot:PurseAt H2 pp
 tl:TellsL H2 fl n ts
 hd:ts[0]?=some (tp,rows)
 la:ts[ts.length-1]?=some (tp',rows')
 ln:ts.length<=i+1
 all:∀x∈ts,qg1 n x.1 x.2/\Qf.TR x.2 x.1=Qf.TR rows tp/\x.2.length<=rows.length
 at_:TellAt H2 h n tp' rows'
 fin:qc1 tp' rows'=[]\/rows'.length+i=rows.length
theorem Wlk.on {H H2 H3:Hp}{pp fl h:Addr}{n tp i tp':Nat}{rows rows':List Row}{ts:List (Nat×List Row)}(w:Wlk H pp fl n tp rows i h ts tp' rows' H2) (s:Same H2 H3):Wlk H pp fl n tp rows i h ts tp' rows' H3:=
 ⟨w.but.trans (But.of s),w.pot.same s,w.tl.same s,w.hd,w.la,w.ln,w.all,w.at_.mono s.tups,w.fin⟩
theorem Wlk.stay {H H2:Hp}{pp fl h:Addr}{n tp i tp':Nat}{rows rows':List Row}{ts:List (Nat×List Row)}(w:Wlk H pp fl n tp rows i h ts tp' rows' H2) (e:qc1 tp' rows'=[]):Wlk H pp fl n tp rows (i+1) h ts tp' rows' H2:=
 ⟨w.but,w.pot,w.tl,w.hd,w.la,VC w.ln,w.all,w.at_,.inl e⟩
theorem Wlk.ok {H H2:Hp}{pp fl h:Addr}{n tp i tp':Nat}{rows rows':List Row}{ts:List (Nat×List Row)}(w:Wlk H pp fl n tp rows i h ts tp' rows' H2):qg1 n tp' rows'/\Qf.TR rows' tp'=Qf.TR rows tp/\rows'.length<=rows.length:=w.all (tp',rows') (Zm w.la)
theorem Wlk.more {H H2 H3:Hp}{pp fl h h':Addr}{n tp i tp':Nat}{rows rows':List Row}{ts:List (Nat×List Row)}{s:Stp}{xs:List V}(w:Wlk H pp fl n tp rows i h ts tp' rows' H2) (hfH:H fl=none) (npf:fl≠pp) (hs:s∈qc1 tp' rows') (b:But pp H2 H3) (hp:PurseAt H3 pp)
  (hT:TellAt H3 h' n (ren s.at (nbP rows' s) tp') (qc5 s.at (nbP rows' s) rows')) (hx:H3 fl=some (.lst xs)) :
  Wlk H pp fl n tp rows (i+1) h' (ts++[(ren s.at (nbP rows' s) tp',qc5 s.at (nbP rows' s) rows')]) (ren s.at (nbP rows' s) tp') (qc5 s.at (nbP rows' s) rows') (upd H3 fl (.lst (xs++[.ref h']))):=by
 obtain⟨o1,o2,o3⟩:=w.ok;have wB:=xm8 hs;have hsl:=qJ6 (nb:=nbP rows' s) wB;have hpos:0<ts.length:=(gS_ w.hd).1;obtain⟨pa,pb,kC,hpr⟩:=id w.pot;refine⟨λc o e nc=>?_,?_,((w.tl.but b npf kC (λu z=>nomatch z)).push hx hT),?_,?_,?_,λx hx=>?_,hT.mono (q02 hx),?_⟩
 ·rw[qa5 (qa3 e hfH)];exact b _ _ (w.but _ _ e nc) nc
 ·obtain⟨a',b',e,r⟩:=hp;exact⟨a',b',by rw[qa5 (Yx npf)];exact e,r⟩
 ·rw[Zh hpos];exact w.hd
 ·rw[Zr,YY,Wx,Zi (Zd _),Wh];rfl
 ·rw[Zr,YY];have:=w.ln;lia
 ·rcases Z6.mp hx with z|z
  ·exact w.all x z
  ·have:x=(ren s.at (nbP rows' s) tp',qc5 s.at (nbP rows' s) rows'):=by simpa using z
   rw[this];exact⟨xg8 o1 hs,(xf7 o1.2.1 o1.2.2.2.1 hs).trans o2,by show (qc5 s.at (nbP rows' s) rows').length<=_;lia⟩
 ·rcases w.fin with z|z
  ·rw[z] at hs;cases hs
  ·exact .inr (by lia)
section
variable {P:Program}{w:World}{K:PySem.W.Frag}{mg:Str->Option Value}{base:Heap}
abbrev nWk:List Str:=["_law_pot_here", "_law_telling_here", "_law_here", "_law_found", "_law_turn", "_law_some"]
theorem scWk:FnScope nWk ["_law_pot_here", "_law_telling_here"] (qa4 qI4):=qd9
def xh1 (n tp:Nat) (rows:List Row) (ts:List (Nat×List Row)):Prop:=ts[0]?=some (tp,rows)/\ts.length<=rows.length+2/\(∀x∈ts,qg1 n x.1 x.2/\Qf.TR x.2 x.1=Qf.TR rows tp/\x.2.length<=rows.length)/\∃x,ts[ts.length-1]?=some x/\qc1 x.1 x.2=[]
def spWk:Sp:=λvs H Q _=>∃(pp t:Addr) (n tp:Nat) (rows:List Row),vs=[.ref pp,.ref t]/\PurseAt H pp/\TellAt H t n tp rows/\qg1 n tp rows/\rows.length<=23 /\
 ∀H' l ts,But pp H H'->PurseAt H' pp->H l=none->TellsL H' l n ts->xh1 n tp rows ts->Q (.ref l) H'
theorem xL5 {f fD fS fE:Addr}{fd fdD fdS fdE:FuncData}(F:Fun K "_law_walked" "_law_walked" qI4 f fd) (B:Blt mg)
  (hD:mg "_law_digit" = some (.ref fD)) (FD:Fun K "_law_digit" "_law_digit" qA5 fD fdD) (bD:Binds K fdD ["_law_pot_here", "_law_many"] [])
  (hS:mg "steps_of" = some (.ref fS)) (FS:Fun K "steps_of" "steps_of" qo1 fS fdS) (bS:Binds K fdS ["telling"] []) (GS:FnOk P w K mg base CX0 7 fS fdS ["telling"] qt0)
  (hE:mg "stepped" = some (.ref fE)) (FE:Fun K "stepped" "stepped" qs0 fE fdE) (bE:Binds K fdE ["telling", "step"] []) (GE:FnOk P w K mg base CX0 9 fE fdE ["telling", "step"] qQ4) :
  FnOk P w K mg base CX0 10 f fd ["_law_pot_here", "_law_telling_here"] spWk:=by
 have GD:FnOk P w K mg base CX0 1 fD fdD ["_law_pot_here", "_law_many"] qA9:=qx3 FD;refine F.ok scWk (λvs H Q E h=>?_) (λcdv A outer s H vs Q E hr h=>?_)
 ·obtain⟨pp,t,n,tp,rows,rfl,_⟩:=h
  rfl
 ·obtain⟨pp,t,n,tp,rows,rfl,hp,hT,tok,h23,q⟩:=h;have jF:Room 1 _:=hr.mono (by decide);have hr7:Room 7 _:=hr.mono (by decide);refine seqE ⟨_,⟨psN 2 scWk.nd (pv 1)⟩,?_⟩;refine seqE ⟨_,⟨psN 3 scWk.nd (qf6 (qa0 (pv 1) qa2))⟩,?_⟩;refine seqE ⟨_,⟨qj0 Z2 rfl (qh6 (by rfl) B.range (qa0 (qb3 qd3 (qa7 qa9 (by rfl) B.len ZM (qa0 (pxN qd1 (pv 1) qa6) qa2)) qa6) qa2)) (pgN 4 scWk.nd)
   (StB.go (.cons ⟨psN 5 scWk.nd (pcN GS hr7 hS FS.kp bS (qa0 (pv 2) qa2))⟩
   (.one ⟨qf1 (qc0 (qr4 hr) (pv 5) (qf6 qa2) (qb7 _))
    (StB.go (.cons ⟨psN 2 scWk.nd (pcN GE hr hE FE.kp bE (qa0 (pv 2) (qa0 (PEb.go ⟨pxN qd7 (pv 5) (PEb.go ⟨pcN GD jF hD FD.kp bD (qa0 (pv 0) (qa0 (qa7 qa9 (by rfl) B.len ZM (qa0 (pv 5) qa2)) qa2))⟩)⟩) qa2)))⟩
    (.one ⟨qf0 (PEb.go (qE8 Z0 Z4 Z5 qf2 ⟨pv 3⟩ (.cons ⟨pv 2⟩ .nil rfl)))⟩))) qb6⟩)))⟩,?_⟩
  refine qh3 ⟨_,⟨qb0 (pv 3)⟩,?_⟩;obtain⟨rp,ht,bs,kS,kQ,jA⟩:=id hT;refine⟨_,rfl,?_⟩;refine⟨_,rfl,(by show 1<=sizeLine;decide),λfl hfl=>?_⟩;have U:=qb1 (o:=.lst [.ref t]) hfl;have npf:fl≠pp:=by
   obtain⟨a',b',e,_⟩:=hp;exact (qa3 e hfl).symm
  have jI:(bs.map V.ref).length=rows.length:=by rw[Ze];exact kQ
  have w0:Wlk H pp fl n tp rows 0 t [(tp,rows)] tp rows (upd H fl (.lst [.ref t])):=by
   refine⟨But.of U,hp.same U,⟨[t],qa1,rfl,λi b x e1 e2=>?_⟩,rfl,rfl,Zd _,λx hx=>?_,hT.mono U.tups,.inr rfl⟩
   ·match i,e1,e2 with
    |0,e1,e2=>
     cases e1;cases e2;exact hT.mono U.tups
   ·have:x=(tp,rows):=by simpa using hx
    rw[this];exact⟨tok,rfl,Zd _⟩
  refine⟨_,rfl,t,_,2,.ref rp,rfl,rfl,SqT.of (U _ _ ht),rfl,rp,_,rfl,.inr (SqT.of (U _ _ kS)),_,_,rfl,rfl,_,rfl,by lia,by lia,?_⟩;have en:(((bs.map V.ref).length:Int)+1).toNat=rows.length+1:=by rw[jI];lia
  rw[en];refine qy2 (λi σ H2=>∃(h:Addr) (ts:List (Nat×List Row)) (tp':Nat) (rows':List Row) (v4 v5:Option V),Wlk H pp fl n tp rows i h ts tp' rows' H2/\σ=[some (.ref pp),some (.ref t),some (.ref h),some (.ref fl),v4,v5]) ⟨t,_,_,_,none,none,w0,rfl⟩ ?_ ?_
  ·rintro i σ H2 hi ⟨h,ts,tp',rows',v4,v5,wk,rfl⟩;obtain⟨o1,o2,o3⟩:=wk.ok;refine⟨_,rfl,h,n,tp',rows',rfl,wk.at_,o1,λH3 qa s3 hqn st3=>?_⟩;have wk3:=wk.on s3;refine⟨_,rfl,(by show 0<=sizeLine;decide),λD0 kR=>?_⟩;have S4:=qb1 (o:=.lst []) kR;have st4:=st3.same S4;have hcnt:(srt (qc1 tp' rows')).length<=1000:=by
    rw[(qo4 _).length_eq];unfold qc1;rw[Zr,Zr];have a1:=qY1 rows';have a2:=qP4 rows';have a3:=qY2 tp' rows';have a4:rows'.length*rows'.length<=23*23:=We (by lia) (by lia);lia
   have jU:∀s∈srt (qc1 tp' rows'),s∈qc1 tp' rows':=λs hs=>(qo4 _).mem_iff.mp hs;have hnil:srt (qc1 tp' rows')=[]->qc1 tp' rows'=[]:=λz=>by
    have:=(qo4 (qc1 tp' rows')).length_eq;rw[z] at this;exact W7 this.symm
   have wk4:=wk3.on S4;have kN:upd H3 D0 (.lst []) D0=some (.lst []):=qa1;have hqp:qa≠pp:=by
    obtain⟨a',b',e,_⟩:=wk.pot;exact (qa3 e hqn).symm
   generalize upd H3 D0 (.lst [])=H4 at st4 wk4 kN;generalize srt (qc1 tp' rows')=ss at st4 hcnt jU hnil;refine⟨.list (ss.map dS),.list [],st4.data,.lst kN .nil,xz7 ss,by simp[PyData.canLay0,PyData.canLayAll0],qL0 ss,_,rfl,?_⟩;rw[qx7];by_cases hz:ss=[]
   ·rw[hz,Zl (by rfl)];exact iteF ⟨h,ts,tp',rows',_,_,wk4.stay (hnil hz),rfl⟩
   ·have hpos:0<ss.length:=XJ.mpr hz;rw[Zq (λz=>hz (YU.mp z))];refine iteT ?_;obtain⟨bq,hq4,lq,rq⟩:=id st4;refine⟨_,rfl,_,rfl,_,rfl,_,rfl,qa,_,rfl,.inl (SqL.of hq4),pp,ss.length,by rw[Ze,lq];rfl,wk4.pot,hpos,by lia,λd HA hd bA hpA=>?_⟩;have hbd:bq[d]?=some (bq[d]'(by lia)):=by simp[show d<bq.length by lia]
    have hsd:ss[d]?=some ss[d]:=by simp[hd]
    have wA:=rq d _ _ hbd hsd;obtain⟨pa,pb,kC,_⟩:=id wk4.pot;have hbA:=bA _ _ wA (qp3 wA kC (λz=>nomatch z));have hTA:=wk4.at_.but bA kC (λu z=>nomatch z);have hs:=jU ss[d] (YR hd);refine⟨qa,_,(d:Int),.ref (bq[d]'(by lia)),rfl,rfl,SqL.of (bA _ _ hq4 hqp),qe0 (by rw[Zb,hbd];rfl),?_⟩;generalize bq[d]'(by lia)=b at hbA;generalize ss[d]=s at hbA hs;refine⟨h,b,n,tp',rows',s,rfl,hTA,o1,hbA,hs,λHB t' sB hTB=>?_⟩;obtain⟨bf,hf4,lf,rf⟩:=id wk4.tl;have hfB:=sB _ _ (bA _ _ hf4 npf);refine⟨_,rfl,.inl ⟨rfl,_,SqL.of hfB⟩,_,rfl,fl,_,.ref t',rfl,rfl,hfB,by rw[Ze,lf];exact qd5 (by have:=wk4.ln;lia),?_⟩;exact⟨t',_,_,_,_,_,wk4.more hfl npf hs (bA.trans (But.of sB)) (hpA.same sB) hTB hfB,rfl⟩
  ·rintro σ H2 ⟨h,ts,tp',rows',v4,v5,wk,rfl⟩;refine⟨_,rfl,q H2 fl ts wk.but wk.pot hfl wk.tl ⟨wk.hd,wk.ln,wk.all,_,wk.la,?_⟩⟩;rcases wk.fin with z|z
   ·exact z
   ·lia
end
def dRs (rs:List Row):PyData:=.list (rs.map λr=>dT (r.map λx:Nat=>(x:Int)))
theorem RowsL.data {H:Hp}{p:Addr}{rs:List Row}(h:RowsL H p rs):DataAt H (.ref p) (dRs rs):=by
 obtain⟨bs,h1,h2,h3⟩:=h;exact .lst h1 (qk6 h2 h3)
theorem TellsL.get {H:Hp}{l:Addr}{n:Nat}{ts:List (Nat×List Row)}(h:TellsL H l n ts){i:Nat}{x:Nat×List Row}(hx:ts[i]?=some x):∃(bs:List Addr) (b:Addr),H l=some (.lst (bs.map V.ref))/\bs.length=ts.length/\bs[i]?=some b/\TellAt H b n x.1 x.2:=by
 obtain⟨bs,h1,h2,h3⟩:=h;have hi:=(gS_ hx).1;have hb:bs[i]?=some (bs[i]'(by lia)):=Zc (by lia);exact⟨bs,_,h1,h2,hb,h3 i _ x hb hx⟩
section
variable {P:Program}{w:World}{K:PySem.W.Frag}{mg:Str->Option Value}{base:Heap}
abbrev nSty:List Str:=["_law_walked_here", "_law_cells", "_law_here"]
theorem scSty:FnScope nSty ["_law_walked_here"] (qa4 xl0):=qd9
def xH2:Sp:=λvs H Q _=>∃(l:Addr) (n tp:Nat) (rows:List Row) (ts:List (Nat×List Row)),vs=[.ref l]/\TellsL H l n ts/\xh1 n tp rows ts/\n<4/\∀H',Same H H'->Q (.bl true) H'
theorem xH3 {f fF fO fS:Addr}{fd fdF fdO fdS:FuncData}(F:Fun K "_law_cells_stay" "_law_cells_stay" xl0 f fd) (C:Blt2 mg)
  (hF:mg "_law_full_cells" = some (.ref fF)) (FF:Fun K "_law_full_cells" "_law_full_cells" qO3 fF fdF) (bF:Binds K fdF ["_law_telling_here"] []) (GF:FnOk P w K mg base CX0 2 fF fdF ["_law_telling_here"] spFC)
  (hO:mg "one_telling" = some (.ref fO)) (FO:Fun K "one_telling" "one_telling" xb7 fO fdO) (bO:Binds K fdO ["telling"] []) (GO:FnOk P w K mg base CX0 16 fO fdO ["telling"] xg5)
  (hS:mg "_law_shape" = some (.ref fS)) (FS:Fun K "_law_shape" "_law_shape" qX3 fS fdS) (bS:Binds K fdS ["_law_n", "_law_boxes"] []) (GS:FnOk P w K mg base CX0 15 fS fdS ["_law_n", "_law_boxes"] xG6) :
  FnOk P w K mg base CX0 17 f fd ["_law_walked_here"] xH2:=by
 refine F.ok scSty (λvs H Q E h=>?_) (λcdv A outer s H vs Q E hr h=>?_)
 ·obtain⟨l,n,tp,rows,ts,rfl,_⟩:=h
  rfl
 ·obtain⟨l,n,tp,rows,ts,rfl,hL,⟨hd,hln,jG,x,hla,kF⟩,hn,q⟩:=h;have kH:Room 2 _:=hr.mono (by decide);have hr15:Room 15 _:=hr.mono (by decide);refine seqE ⟨_,⟨psN 1 scSty.nd (pcN GF kH hF FF.kp bF (qa0 (pxN qd7 (pv 0) qa6) qa2))⟩,?_⟩;refine seqE ⟨_,⟨qj0 Z2 rfl (qp4 (pv 0)) (pgN 2 scSty.nd)
   (qa8 (qf1 (qc0 (qr4 hr) (PEb.go ⟨pcN GF kH hF FF.kp bF (qa0 (pv 2) qa2)⟩) (pv 1) (qb7 _)) qf7 qb6))⟩,?_⟩
  refine qh3 ⟨_,⟨qb0 (qg3 q57 (PEb.go ⟨qa7 (qD7 hr) (by rfl) C.repr PyProof.Rows.boot_repr (qa0 (PEb.go ⟨pcN GO hr hO FO.kp bO (qa0 (pxN qd7 (pv 0) qa6) qa2)⟩) qa2)⟩)
   (PEb.go ⟨qa7 (qD7 hr) (by rfl) C.repr PyProof.Rows.boot_repr (qa0 (PEb.go ⟨pcN GS hr15 hS FS.kp bS (qa0 (pxN qd1 (pxN qd7 (pv 0) qa6) qa6) (qa0 (pv 1) qa2))⟩) qa2)⟩) (qb7 _))⟩,?_⟩
  obtain⟨bs,b0,hl,kQ,vU,hT0⟩:=hL.get hd;have tok:=(jG _ (Zm hd)).1;have hT0':TellAt H b0 n tp rows:=hT0;refine⟨_,rfl,l,_,0,.ref b0,rfl,rfl,SqL.of hl,qe0 (by rw[Zb,vU];rfl),b0,n,tp,rows,rfl,hT0',tok,hn,λH1 c s1 hcn hc1=>?_⟩;refine⟨_,rfl,l,rfl,⟨_,SqL.of (s1 _ _ hl)⟩,qq7 (K:=K) (a:=l) (xs:=bs.map V.ref) (λi σ H2=>Same H H2/\RowsL H2 c (ql5 n (Qf.TR rows tp))/\∃v,σ=[some (.ref l),some (.ref c),v]) ⟨s1,hc1,none,rfl⟩ (λi σ H2 _ h=>SqL.of (h.1 _ _ hl)) ?_ ?_⟩
  ·rintro i y σ H2 hy ⟨s2,vH,v,rfl⟩;rw[Zb] at hy;obtain⟨b,hb,rfl⟩:=Zj.mp hy;have hi:i<ts.length:=by have:=(gS_ hb).1;lia
   have hx:ts[i]?=some ts[i]:=Zc hi;obtain⟨bs',h1',h2',h3'⟩:=id hL;have ebs:bs'=bs:=by
    rw[hl] at h1';injection h1' with z
    injection z with z
    exact (Vx (λa b e=>by injection e)).mp z.symm
   rw[ebs] at h3';have hTi:=h3' i b _ hb hx;obtain⟨a1,a2,a3⟩:=jG _ (Zm hx);refine⟨_,rfl,b,n,_,_,rfl,hTi.mono s2.tups,a1,hn,λH3 c3 s3 hc3n hc3=>?_⟩;rw[a2] at hc3;refine⟨_,rfl,dRs (ql5 n (Qf.TR rows tp)),dRs (ql5 n (Qf.TR rows tp)),hc3.data,(vH.same s3).data,qt7 _,qt7 _,qF8 _,_,rfl,?_⟩;rw[PySem.SeqAt.eqv_refl (dRs (ql5 n (Qf.TR rows tp))) (qt7 (ql5 n (Qf.TR rows tp)))];exact iteF ⟨s2.trans s3,vH.same s3,_,rfl⟩
  ·rintro σ H2 ⟨s2,vH,v,rfl⟩;refine⟨_,rfl,l,_,0,.ref b0,rfl,rfl,SqL.of (s2 _ _ hl),qe0 (by rw[Zb,vU];rfl),b0,n,tp,rows,rfl,hT0'.mono s2.tups,tok,λH3 t3 s3 hT3 wQ=>?_⟩;have dok:=xr9 tok wQ;refine⟨t3,qp9 n (cTop (Qf.TR rows tp)) (qn5 (Qf.TR rows tp)),rfl,qf8 hT3,qF7 dok,qC3 _ _ _,qi6 _ _ _,qC4 dok,?_⟩;have S3:=s2.trans s3;obtain⟨p0,ht0,_⟩:=hT0';refine⟨_,rfl,l,_,0,.ref b0,rfl,rfl,SqL.of (S3 _ _ hl),qe0 (by rw[Zb,vU];rfl),b0,_,0,.int (n:Nat),rfl,rfl,SqT.of (S3 _ _ ht0),rfl,?_⟩;obtain⟨k1,k2,k3,k4,k5⟩:=id tok;refine⟨_,rfl,c,n,ql5 n (Qf.TR rows tp),rfl,vH.same s3,qT7 hn,k1,λH4 t4 s4 hT4=>?_⟩;have ebt:bt n (ql5 n (Qf.TR rows tp)) 0 0=Qf.TR rows tp:=xn8 (qp2 _) (qZ0 k2 k4 k5);have et:bTop n (ql5 n (Qf.TR rows tp))=cTop (Qf.TR rows tp):=by unfold bTop cTop;rw[ebt]
   have er:qC1 n (ql5 n (Qf.TR rows tp))=qn5 (Qf.TR rows tp):=by unfold qC1 qn5;rw[ebt]
   obtain⟨hT5,_,_⟩:=hT4;rw[et,er] at hT5;refine⟨t4,qp9 n (cTop (Qf.TR rows tp)) (qn5 (Qf.TR rows tp)),rfl,qf8 hT5,qF7 dok,qC3 _ _ _,qi6 _ _ _,qC4 dok,rfl,?_⟩;rw[Zl rfl];exact q H4 (S3.trans s4)
end
theorem q03:∀(a b:List Int),PyData.eqvAll (a.map PyData.int) (b.map PyData.int)=decide (a=b)
 |[],[]=>by simp[PyData.eqvAll]
 |x::a,[]=>by simp[PyData.eqvAll]
 |[],y::b=>by simp[PyData.eqvAll]
 |x::a,y::b=>by
  show (PyData.eqv (.int x) (.int y)&&PyData.eqvAll (a.map PyData.int) (b.map PyData.int))=_;rw[q03 a b,Yn];simp[PyData.eqv]
theorem qQ8:∀(a b:List Row),PyData.eqvAll (a.map λr=>dT (r.map λx:Nat=>(x:Int))) (b.map λr=>dT (r.map λx:Nat=>(x:Int)))=decide (a=b)
 |[],[]=>by simp[PyData.eqvAll]
 |x::a,[]=>by simp[PyData.eqvAll]
 |[],y::b=>by simp[PyData.eqvAll]
 |x::a,y::b=>by
  show (PyData.eqvAll ((x.map λx:Nat=>(x:Int)).map PyData.int) ((y.map λx:Nat=>(x:Int)).map PyData.int)&&PyData.eqvAll _ _)=_;rw[qQ8 a b,q03,Yn];have inj:(x.map λx:Nat=>(x:Int))=(y.map λx:Nat=>(x:Int))<->x=y:=⟨λh=>by
   refine Vx (λa b e=>?_) |>.mp h
   lia,λh=>by rw[h]⟩
  simp only[WW,X4,YW,inj]
theorem xh2 (n tp tp':Nat) (rows rows':List Row):PyData.eqv (qp9 n tp rows) (qp9 n tp' rows')=decide (tp=tp'/\rows=rows'):=by
 have e:PyData.eqv (qp9 n tp rows) (qp9 n tp' rows')=(PyData.eqv (.int (n:Nat)) (.int (n:Nat))&&(PyData.eqv (.int (tp:Nat)) (.int (tp':Nat))&&(PyData.eqvAll (rows.map λr=>dT (r.map λx:Nat=>(x:Int))) (rows'.map λr=>dT (r.map λx:Nat=>(x:Int)))&&true))):=rfl;have ei:∀a b:Int,PyData.eqv (.int a) (.int b)=(a==b):=λa b=>by simp[PyData.eqv]
 rw[e,qQ8,ei,ei,Yn];simp only[WW,X4,Wi,true_and,Vy,Y1];exact⟨λh=>⟨by lia,h.2⟩,λh=>⟨by lia,h.2⟩⟩
theorem xh3 {l:List Stp}(h:l=[]):srt l=[]:=by
 have:=(qo4 l).length_eq;rw[h] at this ⊢;exact W7 this
section
variable {P:Program}{w:World}{K:PySem.W.Frag}{mg:Str->Option Value}{base:Heap}
abbrev nRgt:List Str:=["_law_walked_here", "_law_due", "_law_last", "_law_here"]
theorem scRgt:FnScope nRgt ["_law_walked_here"] (qa4 qX4):=qd9
def xH4:Sp:=λvs H Q _=>∃(l:Addr) (n tp:Nat) (rows:List Row) (ts:List (Nat×List Row)),vs=[.ref l]/\TellsL H l n ts/\xh1 n tp rows ts/\∀H',Same H H'->Q (.bl true) H'
theorem xH5 {f fO fS fI fX:Addr}{fd fdO fdS fdI fdX:FuncData}(F:Fun K "_law_right" "_law_right" qX4 f fd) (B:Blt mg)
  (hO:mg "one_telling" = some (.ref fO)) (FO:Fun K "one_telling" "one_telling" xb7 fO fdO) (bO:Binds K fdO ["telling"] []) (GO:FnOk P w K mg base CX0 16 fO fdO ["telling"] xg5)
  (hS:mg "steps_of" = some (.ref fS)) (FS:Fun K "steps_of" "steps_of" qo1 fS fdS) (bS:Binds K fdS ["telling"] []) (GS:FnOk P w K mg base CX0 7 fS fdS ["telling"] qt0)
  (hI:mg "_law_in_order" = some (.ref fI)) (FI:Fun K "_law_in_order" "_law_in_order" qs2 fI fdI) (bI:Binds K fdI ["_law_telling_here"] []) (GI:FnOk P w K mg base CX0 14 fI fdI ["_law_telling_here"] spIO)
  (hX:mg "is_shape" = some (.ref fX)) (FX:Fun K "is_shape" "is_shape" qO2 fX fdX) (bX:Binds K fdX ["thing"] []) (GX:FnOk P w K mg base CX0 15 fX fdX ["thing"] qY9) :
  FnOk P w K mg base CX0 17 f fd ["_law_walked_here"] xH4:=by
 refine F.ok scRgt (λvs H Q E h=>?_) (λcdv A outer s H vs Q E hr h=>?_)
 ·obtain⟨l,n,tp,rows,ts,rfl,_⟩:=h
  rfl
 ·obtain⟨l,n,tp,rows,ts,rfl,hL,⟨hd,hln,jG,x,hla,kF⟩,q⟩:=h;have hr7:Room 7 _:=hr.mono (by decide);have hr14:Room 14 _:=hr.mono (by decide);have hr15:Room 15 _:=hr.mono (by decide);refine seqE ⟨_,⟨psN 1 scRgt.nd (pcN GO hr hO FO.kp bO (qa0 (pxN qd7 (pv 0) qa6) qa2))⟩,?_⟩;refine seqE ⟨_,⟨psN 2 scRgt.nd (pxN qd7 (pv 0) (qb3 ql6 (qa7 qa9 (by rfl) B.len ZM (qa0 (pv 0) qa2)) qa6))⟩,?_⟩;refine seqE ⟨_,⟨qf1 (PW.pt (qk1 (qc0 (qr4 hr) (PEb.go ⟨pcN GS hr7 hS FS.kp bS (qa0 (pv 2) qa2)⟩) (qf6 qa2) (qb7 _))
   (qk1 (qc0 q58 (PEb.go ⟨qa7 qa9 (by rfl) B.len ZM (qa0 (pxN qd1 (pv 2) qa6) qa2)⟩) (PEb.go ⟨qa7 qa9 (by rfl) B.len ZM (qa0 (pxN qd1 (pv 1) qa6) qa2)⟩) (qb7 _))
   (qi8 (qc0 (qr4 hr) (PEb.go ⟨pcN GI hr14 hI FI.kp bI (qa0 (pv 2) qa2)⟩) (pv 1) (qb7 _)))))) qf7 qb6⟩,?_⟩
  refine seqE ⟨_,⟨qf1 (PW.pt (qk1 (qg9 (qe6 (pcN GX hr15 hX FX.kp bX (qa0 (pv 1) qa2))))
   (qk1 (qc0 (qr4 hr) (PEb.go ⟨pcN GS hr7 hS FS.kp bS (qa0 (pv 1) qa2)⟩) (qf6 qa2) (qb7 _))
   (qi8 (qc0 (qr4 hr) (PEb.go ⟨pcN GO hr hO FO.kp bO (qa0 (pv 1) qa2)⟩) (pv 1) (qb7 _)))))) qf7 qb6⟩,?_⟩
  refine seqE ⟨_,⟨qj0 Z2 rfl (qp4 (pv 0)) (pgN 3 scRgt.nd)
   (qa8 (qf1 (PW.pt (qk1 (qc0 (qr4 hr) (PEb.go ⟨pcN GO hr hO FO.kp bO (qa0 (pv 3) qa2)⟩) (pv 1) (qb7 _))
    (qi8 (qc0 q58 (PEb.go ⟨pcN GX hr15 hX FX.kp bX (qa0 (pv 3) qa2)⟩) (PEb.go ⟨qg3 (qV2 hr) (pv 3) (pv 1) (qb7 _)⟩) (qb7 _))))) qf7 qb6))⟩,?_⟩
  refine qh3 ⟨_,⟨qb0 qo7⟩,?_⟩;obtain⟨bs,hl,kQ,jA⟩:=id hL;have pos:0<ts.length:=(gS_ hd).1;have vU:bs[0]?=some (bs[0]'(by lia)):=Zc (by lia);have hT0:TellAt H (bs[0]'(by lia)) n tp rows:=jA 0 _ _ vU hd;have kK:bs[ts.length-1]?=some (bs[ts.length-1]'(by lia)):=Zc (by lia);have hTx:=jA _ _ _ kK hla;obtain⟨tok,_,_⟩:=jG _ (Zm hd);obtain⟨x1,x2,x3⟩:=jG _ (Zm hla);generalize bs[0]'(by lia)=b0 at vU hT0;generalize bs[ts.length-1]'(by lia)=bx at kK hTx;refine⟨_,rfl,l,_,0,.ref b0,rfl,rfl,SqL.of hl,qe0 (by rw[Zb,vU];rfl),b0,n,tp,rows,rfl,hT0,tok,λH1 due s1 hdue hle=>?_⟩;have dok:=xr9 tok hle;have hcan:Canon n (cTop (Qf.TR rows tp)) (qn5 (Qf.TR rows tp)):=xf6 tok.1 (qp2 _) (qZ0 tok.2.1 tok.2.2.2.1 tok.2.2.2.2);have hnos:=qK2 hcan;have hTd:Qf.TR (qn5 (Qf.TR rows tp)) (cTop (Qf.TR rows tp))=Qf.TR rows tp:=by
   show rd (Qf.T _ _)=_;rw[c_T];exact qP8 (qp2 _)
  have lst1:=s1 _ _ hl;refine⟨_,rfl,_,rfl,l,_,rfl,.inl (SqL.of lst1),_,_,rfl,rfl,l,_,((ts.length-1:Nat):Int),.ref bx,rfl,Yt V.int (show (((bs.map V.ref).length:Nat):Int)-1=((ts.length-1:Nat):Int) by rw[Ze,kQ];lia),SqL.of lst1,qe0 (by rw[Zb,kK];rfl),?_⟩;refine⟨_,rfl,bx,n,x.1,x.2,rfl,hTx.mono s1.tups,x1,λH2 q2 s2 hq2 st2=>?_⟩;rw[xh3 kF] at st2;refine⟨(by show 0<=sizeLine;decide),λD2 jY=>?_⟩;refine⟨.list [],.list [],(st2.same (qb1 jY)).data,.lst qa1 .nil,by simp[PyData.canLay0,PyData.canLayAll0],by simp[PyData.canLay0,PyData.canLayAll0],qL0 [],_,rfl,?_⟩;rw[qx7,Zl (by rfl)];refine iteF ?_;have S2:=(s1.trans s2).trans (qb1 (o:=.lst []) jY);have d2:=(hdue.mono s2.tups).mono (qb1 (o:=.lst []) jY).tups;generalize upd H2 D2 (.lst [])=H2' at S2 d2;obtain⟨e1,e2,e3⟩:=xn5 x1.1 x1.2.1 x1.2.2.2.1 x1.2.2.2.2 kF;rw[x2] at e1 e2 e3;obtain⟨px,htx,bsx,hpx,hlx,_⟩:=hTx.mono S2.tups;obtain⟨pd,htd,bsd,hpd,hld,_⟩:=id d2;refine⟨_,rfl,bx,_,2,.ref px,rfl,rfl,SqT.of htx,rfl,px,_,rfl,.inr (SqT.of hpx),_,rfl,due,_,2,.ref pd,rfl,rfl,SqT.of htd,rfl,pd,_,rfl,.inr (SqT.of hpd),rfl,_,rfl,?_⟩;have el:V.int ((List.map V.ref bsx).length:Int)=V.int ((List.map V.ref bsd).length:Int):=by rw[Ze,Ze,hlx,hld,e3]
  rw[Zl el];refine iteF ?_;refine⟨_,rfl,bx,n,x.1,x.2,rfl,hTx.mono S2.tups,x1,λH3 t3 s3 hT3=>?_⟩;rw[e1,e2] at hT3;have d3:=d2.mono s3.tups;refine⟨_,rfl,_,_,qf8 hT3,qf8 d3,qi3 _ _ _,qi3 _ _ _,qi6 _ _ _,_,rfl,?_⟩;rw[qJ1];refine iteF ?_;obtain⟨c1,c2,c3,c4,c5⟩:=id dok;have S3:=S2.trans s3;refine⟨_,rfl,due,n,_,_,rfl,d3,c1,c2,c3,c4,λb4 H4 wA s4=>?_⟩;rw[wA.mpr hcan];refine⟨_,rfl,iteF ?_⟩;have d4:=d3.mono s4.tups;refine⟨_,rfl,due,n,_,_,rfl,d4,dok,λH5 q5 s5 hq5 st5=>?_⟩;rw[xh3 hnos] at st5;refine⟨(by show 0<=sizeLine;decide),λD5 wK=>?_⟩;refine⟨.list [],.list [],(st5.same (qb1 wK)).data,.lst qa1 .nil,by simp[PyData.canLay0,PyData.canLayAll0],by simp[PyData.canLay0,PyData.canLayAll0],qL0 [],_,rfl,?_⟩;rw[qx7,Zl (by rfl)];refine iteF ?_;have S5:=((S3.trans s4).trans s5).trans (qb1 (o:=.lst []) wK);have d5:=(d4.mono s5.tups).mono (qb1 (o:=.lst []) wK).tups;generalize upd H5 D5 (.lst [])=H5' at S5 d5;refine⟨_,rfl,due,n,_,_,rfl,d5,dok,λH6 t6 s6 hT6 _=>?_⟩;rw[hTd] at hT6;have d6:=d5.mono s6.tups;have S6:=S5.trans s6;refine⟨_,rfl,_,_,qf8 hT6,qf8 d6,qi3 _ _ _,qi3 _ _ _,qi6 _ _ _,_,rfl,?_⟩;rw[qJ1];refine iteF ?_;refine⟨_,rfl,l,rfl,⟨_,SqL.of (S6 _ _ hl)⟩,qq7 (K:=K) (a:=l) (xs:=bs.map V.ref) (λi σ H2=>Same H H2/\TellAt H2 due n (cTop (Qf.TR rows tp)) (qn5 (Qf.TR rows tp))/\∃v,σ=[some (.ref l),some (.ref due),some (.ref bx),v]) ⟨S6,d6,none,rfl⟩ (λi σ H2 _ h=>SqL.of (h.1 _ _ hl)) ?_ ?_⟩
  ·rintro i y σ H7 hy ⟨s7,d7,v,rfl⟩;rw[Zb] at hy;obtain⟨b,hb,rfl⟩:=Zj.mp hy;have hi:i<ts.length:=by have:=(gS_ hb).1;lia
   have hx:ts[i]?=some ts[i]:=Zc hi;have hTi:=jA i b _ hb hx;obtain⟨a1,a2,a3⟩:=jG _ (Zm hx);generalize ts[i]=y at hTi a1 a2 a3;obtain⟨k1,k2,k3,k4,k5⟩:=id a1;refine⟨_,rfl,b,n,_,_,rfl,hTi.mono s7.tups,a1,λH8 t8 s8 hT8 _=>?_⟩;rw[a2] at hT8;refine⟨_,rfl,_,_,qf8 hT8,qf8 (d7.mono s8.tups),qi3 _ _ _,qi3 _ _ _,qi6 _ _ _,_,rfl,?_⟩;rw[qJ1];refine iteF ?_;refine⟨_,rfl,b,n,_,_,rfl,hTi.mono (s7.trans s8).tups,k1,k2,k3,k4,λb9 H9 hb9 s9=>?_⟩;have d9:=(d7.mono s8.tups).mono s9.tups;have S9:=(s7.trans s8).trans s9;refine⟨_,rfl,_,rfl,_,_,qf8 (hTi.mono S9.tups),qf8 d9,qi3 _ _ _,qi3 _ _ _,qi6 _ _ _,rfl,_,rfl,?_⟩;rw[xh2];have eb:b9=decide (y.1=cTop (Qf.TR rows tp)/\y.2=qn5 (Qf.TR rows tp)):=by
    rw[Yn,hb9,Vz];constructor
    ·intro c;have:=qT5 c;rw[a2] at this;exact this
    ·rintro⟨z1,z2⟩;rw[z1,z2];exact hcan
   rw[eb,Zl rfl];exact iteF ⟨S9,d9,_,rfl⟩
  ·rintro σ H7 ⟨s7,d7,v,rfl⟩;exact q H7 s7
abbrev nLaw:List Str:=["_law_script", "_law_k", "_law_pot_here", "_law_n", "_law_walked_here"]
theorem scLaw:FnScope nLaw ["_law_script"] (qa4 lLaw):=qd9
def xo9 (K:PySem.W.Frag):Sp:=λvs H Q _=>∃(a:Addr) (ns:List Int),vs=[.ref a]/\SqL K H a (ns.map V.int)/\ns.length<=63/\∀H',Q (.bl true) H'
theorem xH6 {f fP fD fT fW fR fS:Addr}{fd fdP fdD fdT fdW fdR fdS:FuncData}(F:Fun K "law" "law" lLaw f fd) (B:Blt mg) (C:Blt2 mg)
  (hP:mg "_law_pot" = some (.ref fP)) (FP:Fun K "_law_pot" "_law_pot" lPot fP fdP) (bP:Binds K fdP ["_law_script", "_law_k"] [])
  (hD:mg "_law_digit" = some (.ref fD)) (FD:Fun K "_law_digit" "_law_digit" qA5 fD fdD) (bD:Binds K fdD ["_law_pot_here", "_law_many"] [])
  (hT:mg "_law_telling" = some (.ref fT)) (FT:Fun K "_law_telling" "_law_telling" qs1 fT fdT) (bT:Binds K fdT ["_law_pot_here", "_law_n", "_law_most"] []) (GT:FnOk P w K mg base CX0 3 fT fdT ["_law_pot_here", "_law_n", "_law_most"] spTl)
  (hW:mg "_law_walked" = some (.ref fW)) (FW:Fun K "_law_walked" "_law_walked" qI4 fW fdW) (bW:Binds K fdW ["_law_pot_here", "_law_telling_here"] []) (GW:FnOk P w K mg base CX0 10 fW fdW ["_law_pot_here", "_law_telling_here"] spWk)
  (hR:mg "_law_right" = some (.ref fR)) (FR:Fun K "_law_right" "_law_right" qX4 fR fdR) (bR:Binds K fdR ["_law_walked_here"] []) (GR:FnOk P w K mg base CX0 17 fR fdR ["_law_walked_here"] xH4)
  (hS:mg "_law_cells_stay" = some (.ref fS)) (FS:Fun K "_law_cells_stay" "_law_cells_stay" xl0 fS fdS) (bS:Binds K fdS ["_law_walked_here"] []) (GS:FnOk P w K mg base CX0 17 fS fdS ["_law_walked_here"] xH2) :
  FnOk P w K mg base CX0 18 f fd ["_law_script"] (xo9 K):=by
 have GP:FnOk P w K mg base CX0 1 fP fdP ["_law_script", "_law_k"] (xD9 K):=xE0 FP B C;have GD:FnOk P w K mg base CX0 1 fD fdD ["_law_pot_here", "_law_many"] qA9:=qx3 FD;refine F.ok scLaw (λvs H Q E h=>?_) (λcdv A outer s H vs Q E hr h=>?_)
 ·obtain⟨a,ns,rfl,_⟩:=h
  rfl
 ·obtain⟨a,ns,rfl,hSq,j9,q⟩:=h;have jF:Room 1 _:=hr.mono (by decide);have hr3:Room 3 _:=hr.mono (by decide);have hr10:Room 10 _:=hr.mono (by decide);refine seqE ⟨_,⟨qj0 Z2 rfl (qh6 (by rfl) B.range (qa0 (qa7 (qL2 rfl) (by rfl) B.max XZ (qa0 qa6 (qa0 (qa7 (q59 rfl) (by rfl) B.min PyProof.Rows.boot_min (qa0 qa6 (qa0 (qa7 qa9 (by rfl) B.len ZM (qa0 (pv 0) qa2)) qa2))) qa2))) qa2)) (pgN 1 scLaw.nd)
    (StI.go (.cons ⟨psN 2 scLaw.nd (pcN GP jF hP FP.kp bP (qa0 (pv 0) (qa0 (pv 1) qa2)))⟩
    (.cons ⟨psN 3 scLaw.nd (PEb.go ⟨pxN qd7 (PEb.go ⟨qf6 (Ars2.go (.cons ⟨pcN GD jF hD FD.kp bD (qa0 (pv 2) (qa0 qa6 qa2))⟩ (.cons ⟨pcN GD jF hD FD.kp bD (qa0 (pv 2) (qa0 qa6 qa2))⟩ .nil rfl) rfl))⟩) (PEb.go ⟨pcN GD jF hD FD.kp bD (qa0 (pv 2) (qa0 qa6 qa2))⟩)⟩)⟩
    (.cons ⟨psN 4 scLaw.nd (PEb.go ⟨pcN GW hr10 hW FW.kp bW (qa0 (pv 2) (qa0 (PEb.go ⟨pcN GT hr3 hT FT.kp bT (qa0 (pv 2) (qa0 (pv 3) (qa0 qa6 qa2)))⟩) qa2))⟩)⟩
    (.cons ⟨qf1 (qg9 (qe6 (pcN GR hr hR FR.kp bR (qa0 (pv 4) qa2)))) qf7 qb6⟩
    (.one ⟨qf1 (PW.pt (qU0 (qc0 qu1 (pv 3) qa6 (qb7 _)) (qG0 (qg9 (qe6 (pcN GS hr hS FS.kp bS (qa0 (pv 4) qa2))))))) qf7 qb6⟩))))))⟩,?_⟩
  refine qh3 ⟨_,⟨qb0 qo7⟩,?_⟩;refine⟨_,rfl,a,_,rfl,.inl hSq,_,_,rfl,_,_,rfl,_,rfl,?_,?_,qy2 (λi σ H2=>(i:Int)<=12/\Same H H2/\∃v1 v2 v3 v4,σ=[some (.ref a),v1,v2,v3,v4]) ⟨by decide,Same.refl _,none,none,none,none,rfl⟩ ?_ ?_⟩
  ·split<;>(try split)<;>lia
  ·split<;>(try split)<;>lia
  ·rintro i σ H2 hi ⟨i1,s2,v1,v2,v3,v4,rfl⟩;have hi':(i:Int)<12:=by
    revert hi;split<;>(try split)<;>lia
   refine⟨_,rfl,_,rfl,a,_,ns,rfl,s2.seq hSq,j9,by lia,by lia,λH3 p s3 hpn wN=>?_⟩;have hpH:=none_of s2 hpn;refine⟨_,rfl,p,4,rfl,wN,by decide,by decide,λd1 H4 wF b4 hp4=>?_⟩;refine⟨_,rfl,p,13,rfl,hp4,by decide,by decide,λd2 H5 jR b5 hp5=>?_⟩;refine⟨(by show 2<=sizeLine;decide),λL hL=>?_⟩;have hp5':=hp5.same (qb1 (o:=.lst [.int (d1:Nat),.int (d2:Nat)]) hL);have hLp:L≠p:=by
    obtain⟨a',b',e,_⟩:=hp5;exact (qa3 e hL).symm
   have S5:Same H (upd H5 L (.lst [.int (d1:Nat),.int (d2:Nat)])):=(qt8 (qt8 (s2.trans s3) hpH b4) hpH b5).trans (qb1 hL);have hL5:upd H5 L (.lst [.int (d1:Nat),.int (d2:Nat)]) L=some (.lst [.int (d1:Nat),.int (d2:Nat)]):=qa1;generalize upd H5 L (.lst [.int (d1:Nat),.int (d2:Nat)])=H5' at hp5' S5 hL5;refine⟨_,rfl,p,2,rfl,hp5',by decide,by decide,λd3 H6 k6 b6 vM=>?_⟩;have hL6:=b6 _ _ hL5 hLp;obtain⟨n,hn,wB⟩:∃n,n<=12/\[V.int (d1:Nat),V.int (d2:Nat)][d3]?=some (.int (n:Nat)):=by
    match d3,k6 with
    |0,_=>exact⟨d1,by lia,rfl⟩
    |1,_=>exact⟨d2,by lia,rfl⟩
   refine⟨L,_,(d3:Int),.int (n:Nat),rfl,rfl,SqL.of hL6,qe0 wB,?_⟩;have S6:Same H H6:=qt8 S5 hpH b6;refine⟨_,rfl,_,rfl,_,rfl,p,n,20,rfl,vM,hn,by decide,by decide,λH7 t tp rows b7 wM hT7 tok hl7=>?_⟩;have S7:Same H H7:=qt8 S6 hpH b7;refine⟨p,t,n,tp,rows,rfl,wM,hT7,tok,by lia,λH8 l ts b8 hp8 hln tl8 wo=>?_⟩;have S8:Same H H8:=qt8 S7 hpH b8;refine⟨_,rfl,l,n,tp,rows,ts,rfl,tl8,wo,λH9 s9=>⟨_,rfl,iteF ?_⟩⟩;refine⟨_,rfl,_,_,rfl,rfl,_,rfl,?_⟩;refine ite2 (λhc=>?_) (λhc=>iteF ⟨by lia,S8.trans s9,_,_,_,_,rfl⟩);have hn4:n<4:=by have:=ZI hc;lia
   exact⟨_,rfl,l,n,tp,rows,ts,rfl,tl8.same s9,wo,hn4,λHA sA=>⟨_,rfl,iteF ⟨by lia,(S8.trans s9).trans sA,_,_,_,_,rfl⟩⟩⟩
  ·rintro σ H2 ⟨i1,s2,v1,v2,v3,v4,rfl⟩;exact q H2
end
def qe4 (K:PySem.W.Frag) (x:Str) (st:Stmt):Prop:=∃(f:Addr) (fd:FuncData),PySem.W.nsIn K mainGlobals x=some (some (.ref f))/\Fun K x x st f fd
theorem d_mk {K:PySem.W.Frag}{x:Str}{st:Stmt}{f:Addr}{od an:Option Addr}{sl:Array (Option Value)}{oc kV dc pm cd ct:Value}(a:PySem.W.nsIn K mainGlobals x=some (some (.ref f)))
  (l:K.lookup f=some ⟨oc,od,.func (PySem.W.fnOf x x (qi7 st) (qh9 st) (qa4 st) .none kV dc pm an cd ct),sl⟩) (c:PySem.W.codeIn K cd x=true) (k:PySem.W.keepIn K (.ref f)=true):qe4 K x st:=⟨f,_,a,q75 l c k⟩
def qc8 (K:PySem.W.Frag) (x:Str):Prop:=PySem.W.nsIn K mainGlobals x=some none
def q04 (K:PySem.W.Frag) (C:Addr) (m qn:Str) (st:Stmt):Prop:=∃(f:Addr) (fd:FuncData),PySem.W.findIn K (.ref C) m=some (some (.ref f))/\PySem.W.isFn K (.ref f)=true/\Fun K m qn st f fd
theorem m_mk {K:PySem.W.Frag}{C:Addr}{m qn:Str}{st:Stmt}{f:Addr}{od an:Option Addr}{sl:Array (Option Value)}{oc kV dc pm cd ct:Value}(a:PySem.W.findIn K (.ref C) m=some (some (.ref f))) (i:PySem.W.isFn K (.ref f)=true)
  (l:K.lookup f=some ⟨oc,od,.func (PySem.W.fnOf m qn (qi7 st) (qh9 st) (qa4 st) .none kV dc pm an cd ct),sl⟩) (c:PySem.W.codeIn K cd qn=true) (k:PySem.W.keepIn K (.ref f)=true):q04 K C m qn st:=⟨f,_,a,i,q75 l c k⟩
theorem xH7 {l:PySem.W.OpenLaw}{w:World}{K:PySem.W.Frag}{h:Heap}{mg:Str->Option Value}{fa fL C0:Addr}(X:K.In h) (G:h.Ns mainGlobals mg) (hfa:mg "law" = some (.ref fa)){odL anL:Option Addr}{slL:Array (Option Value)}{ocL kVL dcL pmL cdL ctL:Value}{t0 t1 t2 t3:Tok}
  (aL:PySem.W.nsIn K mainGlobals "law" = some (some (.ref fL))) (lL:K.lookup fL=some ⟨ocL,odL,.func (PySem.W.fnOf "law" "law" (qi7 lLaw) (qh9 lLaw) (qa4 lLaw) .none kVL dcL pmL anL cdL ctL),slL⟩) (cL:PySem.W.codeIn K cdL "law" = true) (kL:PySem.W.keepIn K (.ref fL)=true)
  (g0:PySem.W.nsIn K mainGlobals "FIRST" = some (some (.int 2 t0))) (g1:PySem.W.nsIn K mainGlobals "FULL" = some (some (.int 1 t1))) (g2:PySem.W.nsIn K mainGlobals "GREATEST_SIZE" = some (some (.int 12 t2))) (g3:PySem.W.nsIn K mainGlobals "EMPTY" = some (some (.int 0 t3)))
  (d0:qe4 K "is_whole" qE3) (d1:qe4 K "is_plain" qA1) (d2:qe4 K "depths_of" q29) (d3:qe4 K "end_rows" sEnd) (d4:qe4 K "places_as_ended" qA2) (d5:qe4 K "renumbered" ql8) (d6:qe4 K "shape_of" qx0) (d7:qe4 K "is_size" xb4) (d8:qe4 K "is_number" qu7) (d9:qe4 K "is_row" sRow) (d10:qe4 K "are_rows" q30) (d11:qe4 K "is_telling" qo0) (d12:qe4 K "is_shape" qO2) (d13:qe4 K "want_telling" qu8) (d14:qe4 K "same_steps" xb5) (d15:qe4 K "plain_steps" qA3) (d16:qe4 K "gone_steps" xb6) (d17:qe4 K "steps_of" qo1) (d18:qe4 K "is_step" qA4) (d19:qe4 K "number_behind" xk8) (d20:qe4 K "stepped" qs0) (d21:qe4 K "one_telling" xb7) (d22:qe4 K "_law_pot" lPot) (d23:qe4 K "_law_digit" qA5) (d24:qe4 K "_law_row" qE4) (d25:qe4 K "_law_depths" xb8) (d26:qe4 K "_law_telling" qs1) (d27:qe4 K "_law_is_full" qI3) (d28:qe4 K "_law_full_cells" qO3) (d29:qe4 K "_law_meets" qE5) (d30:qe4 K "_law_has" lHas) (d31:qe4 K "_law_number" qm9) (d32:qe4 K "_law_shape" qX3) (d33:qe4 K "_law_ends" xk9) (d34:qe4 K "_law_in_order" qs2) (d35:qe4 K "_law_walked" qI4) (d36:qe4 K "_law_cells_stay" xl0) (d37:qe4 K "_law_right" qX4)
  (z0:qc8 K "isinstance") (z1:qc8 K "int") (z2:qc8 K "bool") (z3:qc8 K "tuple") (z4:qc8 K "list") (z5:qc8 K "set") (z6:qc8 K "len") (z7:qc8 K "all") (z8:qc8 K "any") (z9:qc8 K "enumerate") (z10:qc8 K "range") (z11:qc8 K "max") (z12:qc8 K "min") (z13:qc8 K "abs") (z14:qc8 K "repr") (z15:qc8 K "str") (z16:qc8 K "sorted")
  (ac0:PySem.W.nsIn K mainGlobals "Book" = some (some (.ref C0))) (cl0:Cls K C0) (mk0:PySem.W.makesIn K C0=true) (kc0:PySem.W.keepIn K (.ref C0)=true) (na0_0:NoAttr K C0 "kept") (na0_1:NoAttr K C0 "numbers") (md0_0:q04 K C0 "__init__" "Book.__init__" qI1) (md0_1:q04 K C0 "number_for" "Book.number_for" qX2) (md0_2:q04 K C0 "numbers_for" "Book.numbers_for" qI2) :
  ∃fd:FuncData,(∀(s:Shared) (v:Value),BindsTo s fd ⟨[v],[]⟩ [("_law_script",v)])/\∀base:Heap,K.In base->base.Ns mainGlobals mg->FnOk l.prog w K mg base CX0 18 fa fd ["_law_script"] (xo9 K):=by
 have e:=hfa.symm.trans (Zw X G aL);cases e;have nn:∀{x:Str},qc8 K x->mg x=none:=λz=>PySem.W.mg_none_of X G z;have B:Blt mg:=⟨nn z0,nn z1,nn z2,nn z3,nn z4,nn z5,nn z6,nn z7,nn z8,nn z9,nn z10,nn z11,nn z12⟩;have C:Blt2 mg:=⟨nn z13,nn z14,nn z15⟩;have T:Cst mg:=⟨⟨t0,Zw X G g0⟩,⟨t1,Zw X G g1⟩,⟨t2,Zw X G g2⟩⟩;have FL:=q75 (st:=lLaw) lL cL kL;obtain⟨f0,fd0,a0,F0⟩:=d0;have h0:=Zw X G a0;have b0:=F0.binds (ps:=["thing"]) λ_ _ _ _ _ _ us hl=>match us,hl with|[_],_=>rfl
 obtain⟨f1,fd1,a1,F1⟩:=d1;have h1:=Zw X G a1;have b1:=F1.binds (ps:=["row"]) λ_ _ _ _ _ _ us hl=>match us,hl with|[_],_=>rfl
 obtain⟨f2,fd2,a2,F2⟩:=d2;have h2:=Zw X G a2;have b2:=F2.binds (ps:=["rows"]) λ_ _ _ _ _ _ us hl=>match us,hl with|[_],_=>rfl
 obtain⟨f3,fd3,a3,F3⟩:=d3;have h3:=Zw X G a3;have b3:=F3.binds (ps:=["rows", "number", "ended"]) λ_ _ _ _ _ _ us hl=>match us,hl with|[_,_,_],_=>rfl
 obtain⟨f4,fd4,a4,F4⟩:=d4;have h4:=Zw X G a4;have b4:=F4.binds (ps:=["rows", "top"]) λ_ _ _ _ _ _ us hl=>match us,hl with|[_,_],_=>rfl
 obtain⟨f5,fd5,a5,F5⟩:=d5;have h5:=Zw X G a5;have b5:=F5.binds (ps:=["row", "numbers"]) λ_ _ _ _ _ _ us hl=>match us,hl with|[_,_],_=>rfl
 obtain⟨f6,fd6,a6,F6⟩:=d6;have h6:=Zw X G a6;have b6:=F6.binds (ps:=["n", "top", "rows"]) λ_ _ _ _ _ _ us hl=>match us,hl with|[_,_,_],_=>rfl
 obtain⟨f7,fd7,a7,F7⟩:=d7;have h7:=Zw X G a7;have b7:=F7.binds (ps:=["thing"]) λ_ _ _ _ _ _ us hl=>match us,hl with|[_],_=>rfl
 obtain⟨f8,fd8,a8,F8⟩:=d8;have h8:=Zw X G a8;have b8:=F8.binds (ps:=["thing", "many"]) λ_ _ _ _ _ _ us hl=>match us,hl with|[_,_],_=>rfl
 obtain⟨f9,fd9,a9,F9⟩:=d9;have h9:=Zw X G a9;have b9:=F9.binds (ps:=["thing", "before"]) λ_ _ _ _ _ _ us hl=>match us,hl with|[_,_],_=>rfl
 obtain⟨f10,fd10,a10,F10⟩:=d10;have h10:=Zw X G a10;have b10:=F10.binds (ps:=["thing"]) λ_ _ _ _ _ _ us hl=>match us,hl with|[_],_=>rfl
 obtain⟨f11,fd11,a11,F11⟩:=d11;have h11:=Zw X G a11;have b11:=F11.binds (ps:=["thing"]) λ_ _ _ _ _ _ us hl=>match us,hl with|[_],_=>rfl
 obtain⟨f12,fd12,a12,F12⟩:=d12;have h12:=Zw X G a12;have b12:=F12.binds (ps:=["thing"]) λ_ _ _ _ _ _ us hl=>match us,hl with|[_],_=>rfl
 obtain⟨f13,fd13,a13,F13⟩:=d13;have h13:=Zw X G a13;have b13:=F13.binds (ps:=["telling"]) λ_ _ _ _ _ _ us hl=>match us,hl with|[_],_=>rfl
 obtain⟨f14,fd14,a14,F14⟩:=d14;have h14:=Zw X G a14;have b14:=F14.binds (ps:=["rows"]) λ_ _ _ _ _ _ us hl=>match us,hl with|[_],_=>rfl
 obtain⟨f15,fd15,a15,F15⟩:=d15;have h15:=Zw X G a15;have b15:=F15.binds (ps:=["rows"]) λ_ _ _ _ _ _ us hl=>match us,hl with|[_],_=>rfl
 obtain⟨f16,fd16,a16,F16⟩:=d16;have h16:=Zw X G a16;have b16:=F16.binds (ps:=["top", "rows"]) λ_ _ _ _ _ _ us hl=>match us,hl with|[_,_],_=>rfl
 obtain⟨f17,fd17,a17,F17⟩:=d17;have h17:=Zw X G a17;have b17:=F17.binds (ps:=["telling"]) λ_ _ _ _ _ _ us hl=>match us,hl with|[_],_=>rfl
 obtain⟨f18,fd18,a18,F18⟩:=d18;have h18:=Zw X G a18;have b18:=F18.binds (ps:=["telling", "thing"]) λ_ _ _ _ _ _ us hl=>match us,hl with|[_,_],_=>rfl
 obtain⟨f19,fd19,a19,F19⟩:=d19;have h19:=Zw X G a19;have b19:=F19.binds (ps:=["rows", "step"]) λ_ _ _ _ _ _ us hl=>match us,hl with|[_,_],_=>rfl
 obtain⟨f20,fd20,a20,F20⟩:=d20;have h20:=Zw X G a20;have b20:=F20.binds (ps:=["telling", "step"]) λ_ _ _ _ _ _ us hl=>match us,hl with|[_,_],_=>rfl
 obtain⟨f21,fd21,a21,F21⟩:=d21;have h21:=Zw X G a21;have b21:=F21.binds (ps:=["telling"]) λ_ _ _ _ _ _ us hl=>match us,hl with|[_],_=>rfl
 obtain⟨f22,fd22,a22,F22⟩:=d22;have h22:=Zw X G a22;have b22:=F22.binds (ps:=["_law_script", "_law_k"]) λ_ _ _ _ _ _ us hl=>match us,hl with|[_,_],_=>rfl
 obtain⟨f23,fd23,a23,F23⟩:=d23;have h23:=Zw X G a23;have b23:=F23.binds (ps:=["_law_pot_here", "_law_many"]) λ_ _ _ _ _ _ us hl=>match us,hl with|[_,_],_=>rfl
 obtain⟨f24,fd24,a24,F24⟩:=d24;have h24:=Zw X G a24;have b24:=F24.binds (ps:=["_law_pot_here", "_law_rows"]) λ_ _ _ _ _ _ us hl=>match us,hl with|[_,_],_=>rfl
 obtain⟨f25,fd25,a25,F25⟩:=d25;have h25:=Zw X G a25;have b25:=F25.binds (ps:=["_law_rows"]) λ_ _ _ _ _ _ us hl=>match us,hl with|[_],_=>rfl
 obtain⟨f26,fd26,a26,F26⟩:=d26;have h26:=Zw X G a26;have b26:=F26.binds (ps:=["_law_pot_here", "_law_n", "_law_most"]) λ_ _ _ _ _ _ us hl=>match us,hl with|[_,_,_],_=>rfl
 obtain⟨f27,fd27,a27,F27⟩:=d27;have h27:=Zw X G a27;have b27:=F27.binds (ps:=["_law_telling_here", "_law_row_here", "_law_column"]) λ_ _ _ _ _ _ us hl=>match us,hl with|[_,_,_],_=>rfl
 obtain⟨f28,fd28,a28,F28⟩:=d28;have h28:=Zw X G a28;have b28:=F28.binds (ps:=["_law_telling_here"]) λ_ _ _ _ _ _ us hl=>match us,hl with|[_],_=>rfl
 obtain⟨f29,fd29,a29,F29⟩:=d29;have h29:=Zw X G a29;have b29:=F29.binds (ps:=["_law_box", "_law_row_here", "_law_column", "_law_side"]) λ_ _ _ _ _ _ us hl=>match us,hl with|[_,_,_,_],_=>rfl
 obtain⟨f30,fd30,a30,F30⟩:=d30;have h30:=Zw X G a30;have b30:=F30.binds (ps:=["_law_box", "_law_row_here", "_law_column", "_law_side"]) λ_ _ _ _ _ _ us hl=>match us,hl with|[_,_,_,_],_=>rfl
 obtain⟨f31,fd31,a31,F31⟩:=d31;have h31:=Zw X G a31;have b31:=F31.binds (ps:=["_law_rows", "_law_boxes", "_law_row_here", "_law_column", "_law_side"]) λ_ _ _ _ _ _ us hl=>match us,hl with|[_,_,_,_,_],_=>rfl
 obtain⟨f32,fd32,a32,F32⟩:=d32;have h32:=Zw X G a32;have b32:=F32.binds (ps:=["_law_n", "_law_boxes"]) λ_ _ _ _ _ _ us hl=>match us,hl with|[_,_],_=>rfl
 obtain⟨f33,fd33,a33,F33⟩:=d33;have h33:=Zw X G a33;have b33:=F33.binds (ps:=["_law_rows", "_law_number_here", "_law_found"]) λ_ _ _ _ _ _ us hl=>match us,hl with|[_,_,_],_=>rfl
 obtain⟨f34,fd34,a34,F34⟩:=d34;have h34:=Zw X G a34;have b34:=F34.binds (ps:=["_law_telling_here"]) λ_ _ _ _ _ _ us hl=>match us,hl with|[_],_=>rfl
 obtain⟨f35,fd35,a35,F35⟩:=d35;have h35:=Zw X G a35;have b35:=F35.binds (ps:=["_law_pot_here", "_law_telling_here"]) λ_ _ _ _ _ _ us hl=>match us,hl with|[_,_],_=>rfl
 obtain⟨f36,fd36,a36,F36⟩:=d36;have h36:=Zw X G a36;have b36:=F36.binds (ps:=["_law_walked_here"]) λ_ _ _ _ _ _ us hl=>match us,hl with|[_],_=>rfl
 obtain⟨f37,fd37,a37,F37⟩:=d37;have h37:=Zw X G a37;have b37:=F37.binds (ps:=["_law_walked_here"]) λ_ _ _ _ _ _ us hl=>match us,hl with|[_],_=>rfl
 obtain⟨mf0_0,mfd0_0,ma0_0,mi0_0,MF0_0⟩:=md0_0;have me0_0:Meth K C0 "__init__" mf0_0:=⟨ma0_0,mi0_0,MF0_0.kp⟩;have mb0_0:=MF0_0.binds (ps:=["self"]) λ_ _ _ _ _ _ us hl=>match us,hl with|[_],_=>rfl
 obtain⟨mf0_1,mfd0_1,ma0_1,mi0_1,MF0_1⟩:=md0_1;have me0_1:Meth K C0 "number_for" mf0_1:=⟨ma0_1,mi0_1,MF0_1.kp⟩;have mb0_1:=MF0_1.binds (ps:=["self", "row"]) λ_ _ _ _ _ _ us hl=>match us,hl with|[_,_],_=>rfl
 obtain⟨mf0_2,mfd0_2,ma0_2,mi0_2,MF0_2⟩:=md0_2;have me0_2:Meth K C0 "numbers_for" mf0_2:=⟨ma0_2,mi0_2,MF0_2.kp⟩;have mb0_2:=MF0_2.binds (ps:=["self", "rows"]) λ_ _ _ _ _ _ us hl=>match us,hl with|[_,_],_=>rfl
 have mm0:Mk K C0 mf0_0:=⟨mk0,ma0_0,mi0_0,kc0⟩;refine⟨PySem.W.fnOf "law" "law" (qi7 lLaw) (qh9 lLaw) (qa4 lLaw) .none kVL dcL pmL anL cdL ctL,λs v=>.of_eq rfl,λbase _ _=>?_⟩;have hso:mg "sorted" = none:=nn z16;have hem0:∃t,mg "EMPTY" = some (.int 0 t):=⟨t3,Zw X G g3⟩;have gSize:FnOk l.prog w K mg base CX0 2 _ _ _ _:=xw3 F7 B T h0 F0 b0;have gNum:FnOk l.prog w K mg base CX0 2 _ _ _ _:=xc0 F8 B T h0 F0 b0;have gRow:FnOk l.prog w K mg base CX0 3 _ _ _ _:=xD6 F9 B h8 F8 b8 gNum;have gRows:FnOk l.prog w K mg base CX0 4 _ _ _ _:=xw6 F10 B h9 F9 b9 gRow;have gTell:FnOk l.prog w K mg base CX0 5 _ _ _ _:=q31 F11 B h7 F7 b7 gSize h10 F10 b10 gRows h8 F8 b8 gNum h2 F2 b2;have gTell2:FnOk l.prog w K mg base CX0 5 _ _ _ _:=qT4 F11 B h7 F7 b7 gSize h10 F10 b10 gRows h8 F8 b8 gNum h2 F2 b2;have gPl:∀d,FnOk l.prog w K mg base CX0 (d+2) _ _ _ (qx2 d):=λd=>qO6 F4 B T h3 F3 b3 d;have gShp:FnOk l.prog w K mg base CX0 15 _ _ _ _:=xf5 F12 B T h11 F11 b11 gTell2 h1 F1 b1 h4 F4 b4 gPl;have gWant:FnOk l.prog w K mg base CX0 6 _ _ _ _:=xd6 F13 h11 F11 b11 gTell;have gSa:FnOk l.prog w K mg base CX0 1 _ _ _ _:=xw9 F14 B;have gPs:FnOk l.prog w K mg base CX0 3 _ _ _ _:=xd7 F15 B T h1 F1 b1;have gGo:FnOk l.prog w K mg base CX0 1 _ _ _ _:=xx1 F16 B T;have gSt:FnOk l.prog w K mg base CX0 7 _ _ _ _:=q34 F17 hso h13 F13 b13 gWant h14 F14 b14 gSa h15 F15 b15 gPs h16 F16 b16 gGo;have gIs:FnOk l.prog w K mg base CX0 8 _ _ _ _:=xg2 F18 B C h0 F0 b0 h17 F17 b17 gSt;have gSd:FnOk l.prog w K mg base CX0 9 _ _ _ _:=q44 F20 B T h13 F13 b13 gWant h18 F18 b18 gIs h19 F19 b19 h5 F5 b5;have TB:BookIn K mg C0:=⟨cl0,na0_0,na0_1,Zw X G ac0⟩;have gBN:FnOk l.prog w K mg base CX0 4 _ _ _ (xy9 C0):=xG2 MF0_2 B T hem0 TB me0_1 MF0_1 mb0_1 h5 F5 b5 h1 F1 b1;have gSO:FnOk l.prog w K mg base CX0 15 _ _ _ _:=xK3 F6 B T hem0 h4 F4 b4 h3 F3 b3 h5 F5 b5;have gOne:FnOk l.prog w K mg base CX0 16 _ _ _ _:=xz2 F21 TB h13 F13 b13 gWant mm0 MF0_0 mb0_0 me0_2 MF0_2 mb0_2 gBN h6 F6 b6 gSO;have gTl:FnOk l.prog w K mg base CX0 3 _ _ _ _:=xL4 F26 B h23 F23 b23 h24 F24 b24 h25 F25 b25;have gFC:FnOk l.prog w K mg base CX0 2 _ _ _ _:=xL2 F28 B h27 F27 b27;have gSh:FnOk l.prog w K mg base CX0 15 _ _ _ _:=xG7 F32 B h31 F31 b31 h29 F29 b29 h30 F30 b30;have gIO:FnOk l.prog w K mg base CX0 14 _ _ _ _:=xL3 F34 B h33 F33 b33;have gWk:FnOk l.prog w K mg base CX0 10 _ _ _ _:=xL5 F35 B h23 F23 b23 h17 F17 b17 gSt h20 F20 b20 gSd;have gSy:FnOk l.prog w K mg base CX0 17 _ _ _ _:=xH3 F36 C h28 F28 b28 gFC h21 F21 b21 gOne h32 F32 b32 gSh;have gRt:FnOk l.prog w K mg base CX0 17 _ _ _ _:=xH5 F37 B h21 F21 b21 gOne h17 F17 b17 gSt h34 F34 b34 gIO h12 F12 b12 gShp;exact xH6 FL B C h22 F22 b22 h23 F23 b23 h26 F26 b26 gTl h35 F35 b35 gWk h37 F37 b37 gRt h36 F36 b36 gSy
theorem walk {l:PySem.W.OpenLaw}{q:Program}{loose:List Str}{XP:(Str->Option Value)->Heap->Prop}{YP:World->Heap->Prop}{d:DefRec}{K:Params->PySem.W.Frag}(hn:l.most=some 63) (hdf:d.params.defaults=[])
  (hY:∀(w:World) (h:Heap),YP w h->(K w.params).In h)
  (F:∀(w:World) (mg:Str->Option Value) (fa:Addr) (h:Heap),(K w.params).In h->h.Ns mainGlobals mg->mg d.name=some (.ref fa) ->
   ∃fd:FuncData,(∀(s:Shared) (u:Value),BindsTo s fd ⟨[u],[]⟩ [("_law_script",u)])/\∀base:Heap,(K w.params).In base->base.Ns mainGlobals mg->FnOk l.prog w (K w.params) mg base CX0 18 fa fd ["_law_script"] (xo9 (K w.params))) :
  PySem.W.WalkO q loose XP YP l.row.toRowW d [] (λf vs=>PySem.call f vs):=
 L2.xt3 (n:=63) (k:=18) (x:= "_law_script") (CX:=λ_=>CX0) (sp:=λw=>xo9 (K w.params)) hn (by decide) hdf ⟨rfl,by decide,by decide,rfl⟩ hY F (λ_ _ a ns hl _ hS=>⟨a,ns,rfl,hS,hl,λ_=>rfl⟩) λ_ _ _ _ _ z=>z
end Pr
open PySem PySem.W PyProof.Rows
set_option maxRecDepth 100000 in
set_option maxHeartbeats 0 in
theorem PySem.Challenge.cw_quarterfold_k22_whole_steps_lead_to_one_holds : PySem.Challenge.rw_quarterfold_k22_whole_steps_lead_to_one.Holds := by
 w_on;o_law
 refine holds_open (q:=Hd.q0) (loose:=[]) (Xt:=Hd.X0) (XP:=XL Hd.q0 []) (YP:=Hook.says (kHook Hd.K0 Hd.as0 Hd.as_K)) (N:=Hd.N0) Hd.xH8
  (Hook.of (kHook Hd.K0 Hd.as0 Hd.as_K)) (Hook.keeps (kHook Hd.K0 Hd.as0 Hd.as_K)) (λs e=>xl_of s (Bool.and_eq_true_iff.mp e).1) XL.keeps
  (by rfl) (by rfl) (by rfl) (λs e=>recFacts_of (Bool.and_eq_true_iff.mp e).2)
  (by rfl) (by first|assumption|decide +kernel) (by decide +kernel) ⟨rfl,rfl,rfl,rfl,rfl,by decide +kernel⟩ ?hw ?hc
 case hw=>w_witness2
 k_fill
 refine Pr.walk (l:=PySem.Challenge.rw_quarterfold_k22_whole_steps_lead_to_one) rfl rfl (λw h Y=>PySem.W.kIn_of Y) ?F
 case F=>
  intro w mg fa h KX G hmg;refine' Pr.xH7 KX G hmg ?aL ?lL ?cL ?kL ?gc0 ?gc1 ?gc2 ?gc3 ?d0 ?d1 ?d2 ?d3 ?d4 ?d5 ?d6 ?d7 ?d8 ?d9 ?d10 ?d11 ?d12 ?d13 ?d14 ?d15 ?d16 ?d17 ?d18 ?d19 ?d20 ?d21 ?d22 ?d23 ?d24 ?d25 ?d26 ?d27 ?d28 ?d29 ?d30 ?d31 ?d32 ?d33 ?d34 ?d35 ?d36 ?d37 ?z0 ?z1 ?z2 ?z3 ?z4 ?z5 ?z6 ?z7 ?z8 ?z9 ?z10 ?z11 ?z12 ?z13 ?z14 ?z15 ?z16 ?ac0 ?cl0 ?mk0 ?kc0 ?na0_0 ?na0_1 ?md0_0 ?md0_1 ?md0_2
  (case aL=>k_is);(case lL=>k_is);(case cL=>k_is);(case kL=>k_is)
  (case gc0=>k_is)
  (case gc1=>k_is)
  (case gc2=>k_is)
  (case gc3=>k_is)
  (case z0=>unfold Pr.qc8;k_is)
  (case z1=>unfold Pr.qc8;k_is)
  (case z2=>unfold Pr.qc8;k_is)
  (case z3=>unfold Pr.qc8;k_is)
  (case z4=>unfold Pr.qc8;k_is)
  (case z5=>unfold Pr.qc8;k_is)
  (case z6=>unfold Pr.qc8;k_is)
  (case z7=>unfold Pr.qc8;k_is)
  (case z8=>unfold Pr.qc8;k_is)
  (case z9=>unfold Pr.qc8;k_is)
  (case z10=>unfold Pr.qc8;k_is)
  (case z11=>unfold Pr.qc8;k_is)
  (case z12=>unfold Pr.qc8;k_is)
  (case z13=>unfold Pr.qc8;k_is)
  (case z14=>unfold Pr.qc8;k_is)
  (case z15=>unfold Pr.qc8;k_is)
  (case z16=>unfold Pr.qc8;k_is)
  (case ac0=>k_is)
  (case cl0=>refine' ⟨?pa,?pb,?pc,?pd⟩;(case pa=>k_is);(case pb=>k_is);(case pc=>k_is);(case pd=>k_is))
  (case mk0=>k_is);(case kc0=>k_is)
  (case na0_0=>unfold L2.NoAttr;k_is)
  (case na0_1=>unfold L2.NoAttr;k_is)
  (case md0_0=>refine' Pr.m_mk ?qa ?qi ?ql ?qc ?qk;(case qa=>k_is);(case qi=>k_is);(case ql=>k_is);(case qc=>k_is);(case qk=>k_is))
  (case md0_1=>refine' Pr.m_mk ?qa ?qi ?ql ?qc ?qk;(case qa=>k_is);(case qi=>k_is);(case ql=>k_is);(case qc=>k_is);(case qk=>k_is))
  (case md0_2=>refine' Pr.m_mk ?qa ?qi ?ql ?qc ?qk;(case qa=>k_is);(case qi=>k_is);(case ql=>k_is);(case qc=>k_is);(case qk=>k_is))
  all_goals (refine' Pr.d_mk ?qa ?ql ?qc ?qk;(case qa=>k_is);(case ql=>k_is);(case qc=>k_is);(case qk=>k_is))
